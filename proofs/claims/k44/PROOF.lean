import PyProof.Rows.All
import Wide.All
import OpenK.AllK
import Wide.FinOn
import Lean
import PyProof.EqAt
import PyProof.EqKinds
import PyProof.TupleCall
import PyProof.Rows.SortShellK
import PyProof.StationsW
import PyProof.SetKind
import PyProof.TupleKey
import PyProof.DictKinds
import PyProof.IsRules
import PyProof.Slots
import PyProof.Rows.SetFrom
import PyProof.SetRoads
import PyProof.WalksMore
import KE.KDictSum
import PyProof.Draws
import PyProof.Rows.EnumRows
import PyProof.ConsumeWalk
import KE.KDictOf
import PyProof.DictRoadsH
import PyProof.AttrMissSeq
import PyProof.Conv_int_bool
import PyProof.StrCalls2
import PyProof.Rows.StrWeight2
import PyProof.EnumMake
import PyProof.FitsReplace
import PyProof.StrLawsOcc
import PyProof.DictRoads
import PyProof.Rows.SortStr
import PyProof.StrWalks
import PyProof.Rows.Range3
import PySem.Challenge.RW_lampfloor_k44_whole_back_and_twins
noncomputable section
open PySem renaming wpAny_bind → Qa, wpAny_pure → Qb, wpAny_setState_of → QL, wpAny_holding → Q2, sizeLine_eq → Ya, wpAny_newObj_type → Yh, wpAny_call_entry → Yl, wpAny_callSpecial?_slot → Yw, wpAny_truthy_bool → YC, wpAny_mono → YE, wpAny_typeOf → YI, wpAny_Call_Name_kw → YM, wpAny_passesOwn → YT, codeAny_builtin → YV, wpAny_storeSet_of → YX, wpAny_forIn_list → Y0, putSet_of → Y1, codeAny_mono → Y6, wpAny_setEntries_of → Jh, wpAny_field → Jo
open List renaming getElem?_eq_some_iff → Qc, mem_cons_of_mem → Qe, getElem?_eq_getElem → Qg, mem_cons → Qh, mem_cons_self → Qj, getElem?_set_ne → Qk, length_map → Ql, map_cons → Qq, getElem?_set_self → Qs, length_append → Qv, length_cons → Qw, size_toArray → Qx, mem_append_right → Qz, getElem?_map → QB, mem_singleton → QC, mem_append → QD, mem_of_getElem? → QH, lookup_cons → QJ, mem_map → QK, mem_range → QO, length_range → QP, getElem?_of_mem → QR, getElem?_append_left → QS, mem_filter → QT, length_take → QU, pairwise_cons → QV, pairwise_map → QW, getElem?_append_right → QX, map_append → Q0, take_append_drop → Q5, length_filter_le → Q7, append_nil → Q8, mem_append_left → Q9, drop_eq_getElem_cons → Yb, nodup_cons → Yc, length_drop → Yd, all_eq_true → Ye, length_singleton → Yg, append_assoc → Yi, getElem?_zip_eq_some → Yp, getElem?_set → Yq, getElem?_replicate → Yv, contains_iff_mem → Yy, map_map → YB, foldl_cons → YF, getElem_mem → YL, getD_eq_getElem?_getD → YQ, length_nil → YU, getElem?_range → YZ, nodup_nil → Y3, all_eq_not_any_not → Y4, eq_nil_of_length_eq_zero → Y5, drop_eq_nil_of_le → Y8, take_of_length_le → Jb, filterMap_cons → Jg, any_cons → Ji, range_succ → Jn
open PySem.Heap renaming get?_push_of_some → Qd, lt_size → Qo, get?_push_size → Qu, get?_update_self → Q6, size_push → Yr
open Option renaming bind_some → Qf
open Nat renaming le_refl → Qi, ne_of_lt → Qt, lt_of_lt_of_le → QG, le_trans → QI, zero_le → QN, le_add_right → Yf, lt_of_le_of_lt → Yk, not_lt_zero → Yu, le_of_not_lt → Yz, le_of_lt → YA, le_of_lt_succ → YD, ne_of_gt → YH, eq_or_lt_of_le → YN, lt_succ_of_lt → YW, zero_add → Y7, lt_irrefl → Jc, lt_succ_self → Je, le_antisymm → Jj
open Bool renaming false_eq_true → Qm, false_ne_true → Qr, and_eq_true_iff → QF, and_eq_true → QQ, not_true → YK, or_eq_true → Jl, eq_iff_iff → Jm
open Array renaming length_toList → Qp, getElem?_toList → QA, getElem?_eq_getElem → QE, getElem?_eq_none → Yn, size_map → YO, toList_filterMap → Ja
open Option.some renaming inj → Qy
open PySem.SeqAt renaming canLay_of_shaped → QM
open PyProof.Rows renaming wpS_bind → QY, callWith_type1 → Q3, wpS_pure → Ys, slot_tuple_getitem → Yx, pairsOf_size → Jf, KK_mirror_equal → Jk
open PySem.Heap.SameBut renaming update → QZ
open PySem.PassesOwn renaming never → Q1
open LawfulBEq renaming eq_of_beq → Yj
open List.Nodup renaming length_le_of_subset → Ym
open Classical renaming byContradiction → Yo
open PyProof.Rows.KeyOrd renaming kle_refl → Yt
open PySem.List renaming filterMap_getElem?_range_length → YG
open PySem.SetTable renaming insertAt_perm → YJ
open PySem.Obj renaming data_mapFields → YR
open PySem.F renaming slot_tuple_iterator_next → YS
open PySem.Around renaming under_plainId → YY
open PyProof.Rows.F renaming plain_set_update_loop → Y2
open Int renaming emod_lt_of_pos → Y9, toNat_natCast → Jd
set_option Elab.async false
set_option linter.all false
set_option maxRecDepth 100000
set_option maxHeartbeats 4000000
set_option compiler.extract_closed false
set_option genInjectivity false
set_option genSizeOf false
set_option genSizeOfSpec false
set_option bootstrap.genMatcherCode false
noncomputable section
namespace L2
open PySem PySem.Spec PyProof.Rows
abbrev Key:=Sum Int Str
def zJe:Key->Value->Bool
 | .inl k,v=>Value.isInt k v
 | .inr x,v=>Value.isStrOf x v
def keyH(w:World):Key->Int
 | .inl k=>hashInt k
 | .inr x=>hashStr w x
theorem zB9:∀{k:Key}{v:Value},zJe k v=true->(∃ i t,k=Sum.inl i/\v=Value.int i t) ∨ (∃ x t,k=Sum.inr x/\v=Value.str x t)
 | .inl i,v,h=>by
  obtain⟨t,e⟩:=Value.isInt_shape (k:=i) (v:=v) h
  exact .inl ⟨i,t,rfl,e⟩
 | .inr x,v,h=>by
  obtain⟨t,e⟩:=Value.isStrOf_shape (x:=x) (v:=v) h
  exact .inr ⟨x,t,rfl,e⟩
theorem zMR(a b:Int):decide ((Sum.inl a:Key)=Sum.inl b)=(a == b):=by
 by_cases e:a=b
 ·subst e;simp
 ·have h:¬ (Sum.inl a:Key)=Sum.inl b:=fun q=>e (Sum.inl.inj q)
  rw [decide_eq_false h]
  exact(beq_eq_false_iff_ne.mpr e).symm
theorem zMU(a b:Str):decide ((Sum.inr a:Key)=Sum.inr b)=decide (a=b):=by
 by_cases e:a=b
 ·subst e;simp
 ·have h:¬ (Sum.inr a:Key)=Sum.inr b:=fun q=>e (Sum.inr.inj q)
  rw [decide_eq_false h,decide_eq_false e]
theorem zMS(a:Int)(b:Str):decide ((Sum.inl a:Key)=Sum.inr b)=false:=decide_eq_false (fun q=>nomatch q)
theorem zMT(a:Str)(b:Int):decide ((Sum.inr a:Key)=Sum.inl b)=false:=decide_eq_false (fun q=>nomatch q)
def zJy(prog:Program)(w:World):PySem.KeyKind prog w Key where
 is:=zJe
 hash:=keyH w
 inj:=fun v a b ha hb=>by
  rcases zB9 ha with⟨i,t,rfl,rfl⟩ | ⟨x,t,rfl,rfl⟩
  ·rcases zB9 hb with⟨j,u,rfl,e⟩ | ⟨y,u,rfl,e⟩
   ·injection e with e1 _;rw [e1]
   ·exact nomatch e
  ·rcases zB9 hb with⟨j,u,rfl,e⟩ | ⟨y,u,rfl,e⟩
   ·exact nomatch e
   ·injection e with e1 _;rw [e1]
 byValue:=fun k v h=>by
  rcases zB9 h with⟨i,t,rfl,rfl⟩ | ⟨x,t,rfl,rfl⟩ <;> rfl
 pyHash:=fun hv h=>by
  rcases zB9 hv with⟨i,t,rfl,rfl⟩ | ⟨x,t,rfl,rfl⟩
  ·exact wpAny_pyHash_int h
  ·exact wpAny_pyHash_str h
 eqBool:=fun hu hv h=>by
  rcases zB9 hu with⟨i,t,rfl,rfl⟩ | ⟨x,t,rfl,rfl⟩
  ·rcases zB9 hv with⟨j,u,rfl,rfl⟩ | ⟨y,u,rfl,rfl⟩
   ·rw [zMR]at h;exact wpAny_eqBool_int h
   ·rw [zMS]at h;exact SeqAt.EqAt.int_str i t y u _ _ _ _ h
  ·rcases zB9 hv with⟨j,u,rfl,rfl⟩ | ⟨y,u,rfl,rfl⟩
   ·rw [zMT]at h;exact SeqAt.EqAt.str_int x t j u _ _ _ _ h
   ·rw [zMU]at h;exact wpAny_eqBool_str h
 «strs»:=fun k x t v h=>by
  rcases zB9 h with⟨i,u,rfl,e⟩ | ⟨y,u,rfl,e⟩
  ·exact nomatch e
  ·injection e with e1 _
   subst e1
   cases v <;> rfl
end L2
namespace L2
open PySem PySem.Spec PyProof.Rows
inductive V where
 | non | bl (b:Bool) | int (i:Int) | str (x:Str) | byt (b:Array UInt8) | flt (b:UInt64) | ref (a:Addr) | ty (n:String)
 deriving DecidableEq
def RelV:V->Value->Prop
 | .non,u=>u=Value.none
 | .bl b,u=>u=Value.bool b
 | .int i,u=>∃ t,u=Value.int i t
 | .str x,u=>∃ t,u=Value.str x t
 | .byt b,u=>∃ t,u=Value.bytes b t
 | .flt b,u=>∃ t,u=Value.float b t
 | .ref a,u=>u=Value.ref a
 | .ty n,u=>u=Value.type n
abbrev Vals:List V->List Value->Prop:=Paired RelV
theorem Vals.length{xs:List V}{us:List Value}(r:Vals xs us):xs.length=us.length:=Paired.length r
theorem Vals.get:∀{xs:List V}{us:List Value}{i:Nat}{x:V},Vals xs us->xs[i]?=some x->∃ u,us[i]?=some u/\RelV x u
 | _,_,_,_,.nil,e=>by simp at e
 | _,_,0,_,.cons r _,e=>by simp at e;subst e;exact⟨_,rfl,r⟩
 | _,_,i+1,x,.cons _ t,e=>by
  obtain⟨u,h1,h2⟩:=Vals.get (i:=i) (x:=x) t (by simpa using e)
  exact⟨u,by simpa using h1,h2⟩
theorem Vals.append:∀{xs ys:List V}{us ws:List Value},Vals xs us->Vals ys ws->Vals (xs++ys) (us++ws)
 | _,_,_,_,.nil,s=>s
 | _,_,_,_,.cons r t,s=>.cons r (Vals.append t s)
theorem Vals.take:∀{xs:List V}{us:List Value} (n:Nat),Vals xs us->Vals (xs.take n) (us.take n)
 | _,_,0,_=>.nil
 | _,_,_+1,.nil=>.nil
 | _,_,n+1,.cons r t=>.cons r (Vals.take n t)
theorem Vals.drop:∀{xs:List V}{us:List Value} (n:Nat),Vals xs us->Vals (xs.drop n) (us.drop n)
 | _,_,0,r=>r
 | _,_,_+1,.nil=>.nil
 | _,_,n+1,.cons _ t=>Vals.drop n t
def RelO:Option V->Option Value->Prop
 | some v,some u=>RelV v u
 | none,none=>True
 | _,_=>False
def KV{κ:Type}:List (κ × V)->List (κ × Value)->Prop:=Paired fun(p:κ × V) (q:κ × Value)=>p.1=q.1/\RelV p.2 q.2
def kV:Key->V
 | .inl i=>.int i
 | .inr x=>.str x
inductive HO where
 | lst (xs:List V)
 | tup (xs:List V)
 | dK (kvs:List (Key × V)) | dT (kvs:List (List Key × V))
 | set (S:Int->Bool) (n:Nat)
 | ins (C dx:Addr) (fs:List (Str × V))
 | own (x:Addr)
 | xd (fs:List (Str × V))
 | met (f x:Addr)
 | rng (lo hi:Int)
 | frz (o:Obj) (u:HO)
 | tbl (ps:Array Value)
 | ext (φ:Heap->Prop)
abbrev Hp:=Addr->Option HO
def upd(H:Hp)(a:Addr)(o:HO):Hp:=fun b=>if b=a then some o else H b
theorem zAs{H:Hp}{a:Addr}{o:HO}:upd H a o a=some o:=by unfold upd;rw [if_pos rfl]
theorem zAf{H:Hp}{a b:Addr}{o:HO}(h:b≠a):upd H a o b=H b:=by unfold upd;rw [if_neg h]
theorem zCS{H:Hp}{a b:Addr}{o u:HO}(h:H a=some o)(h':H b=some u)(d:o≠u):a≠b:=by
 intro e;subst e;rw [h]at h';exact d (Qy h')
theorem zAO{H:Hp}{a b:Addr}{o:HO}(h:H a=some o)(h':H b=none):a≠b:=by
 intro e;subst e;rw [h]at h';cases h'
section
variable (P:Program)(w:World)
def zA1(H:Hp)(h:Heap)(a:Addr):HO->Prop
 | .lst xs=>xs.length<=sizeLine/\∃(its:List Value) (n:Nat),Vals xs its/\h.get? a=some { cls:=.type "list",data:=.seq its.toArray n }
 | .tup xs=>xs.length<=sizeLine/\∃ its:List Value,Vals xs its/\IsTup h a its.toArray
 | .dK kvs=>kvs.length<=sizeLine/\(a == sysModules)=false/\∃ vs,KV kvs vs/\h.DictOf (zJy P w) a vs
 | .dT kvs=>kvs.length<=sizeLine/\(a == sysModules)=false/\∃ xs:List (List Key × Addr × Value),
   Paired (fun(p:List Key × V) (q:List Key × Addr × Value)=>p.1=q.1/\H q.2.1=some (.tup (p.1.map kV))/\RelV p.2 q.2.2) kvs xs /\
   ∃ o es ep,h.get? a=some o/\o.ExactDict/\o.data=.dict es ep/\es.toList=xs.map (entryOfKey (tupleKind (zJy P w)))/\(xs.map (·.1)).Nodup
 | .set S n=>h.SetOf (intKind P w) a S n
 | .ins C dx fs=>H dx=some (.own a)/\fs.length<=1000/\dx≠a/\h.get? a=some (PySem.W.instObj C dx) /\
   ∃ mA,h.Ns1 dx mA/\(∀ f,RelO (fs.lookup f) (mA f))/\PySem.Within mA (fs.map (·.1))
 | .own _=>∃ o,h.get? a=some o
 | .xd fs=>∃ mA,h.Ns1 a mA/\∀ f,RelO (fs.lookup f) (mA f)
 | .rng lo hi=>∃ t u v,h.get? a=some { cls:=.type "range",data:=.fields #[.int lo t,.int hi u,.int 1 v] }
 | .frz o u=>h.get? a=some o/\zA1 H h a u
 | .tbl ps=>h.get? a=some { cls:=.none,data:=.fields ps }
 | .met f x=>h.get? a=some (PySem.W.methodObj (.ref f) (.ref x))
 | .ext φ=>φ h/\(∃ o,h.get? a=some o)/\∀ h1 h2:Heap,φ h1->(∀ o,h1.get? a=some o->h2.get? a=some o)->φ h2
def HOk(H:Hp)(h:Heap):Prop:=∀ a o,H a=some o->zA1 P w H h a o
end
section
variable {P:Program}{w:World}{H H':Hp}{h h':Heap}{a:Addr}{o:HO}
theorem zA1.lt(x:zA1 P w H h a o):a<h.objs.size:=by
 cases o with
 | lst xs=>obtain⟨_,_,_,_,e⟩:=x;exact Qo e
 | tup xs=>obtain⟨_,_,_,p⟩:=x;exact p.lt
 | dK kvs=>obtain⟨_,_,_,_,o,_,_,e,_⟩:=x;exact Qo e
 | dT kvs=>obtain⟨_,_,_,_,o,_,_,e,_⟩:=x;exact Qo e
 | set S n=>obtain⟨o,_,_,_,e,_⟩:=x;exact Qo e
 | ins C dx fs=>obtain⟨_,_,_,e,_⟩:=x;exact Qo e
 | own y=>obtain⟨_,e⟩:=x;exact Qo e
 | xd fs=>obtain⟨_,⟨_,_,_,e,_⟩,_⟩:=x;exact Qo e
 | rng lo hi=>obtain⟨_,_,_,e⟩:=x;exact Qo e
 | frz ob u=>obtain⟨e,_⟩:=x;exact Qo e
 | tbl ps=>exact Qo (show h.get? a=some _ from x)
 | met f y=>exact Qo (show h.get? a=some _ from x)
 | ext φ=>obtain⟨_,⟨_,e⟩,_⟩:=x;exact Qo e
theorem Paired.mapP{α β:Type}{F G:α->β->Prop}:∀{l₁:List α}{l₂:List β},Paired F l₁ l₂->(∀ a b,F a b->G a b)->Paired G l₁ l₂
 | _,_,.nil,_=>.nil
 | _,_,.cons r t,f=>.cons (f _ _ r) (Paired.mapP t f)
theorem zA1.stay(x:zA1 P w H h a o)(k:∀ b u,(b=a ∨ H b=some (.own a))->h.get? b=some u->h'.get? b=some u)
  (ho:∀ b,H b=some (.own a)->H' b=some (.own a)) (ht:∀ b xs,H b=some (.tup xs)->H' b=some (.tup xs)):zA1 P w H' h' a o:=by
 induction o with
 | lst xs=>obtain⟨z,its,n,r,e⟩:=x;exact⟨z,its,n,r,k _ _ (.inl rfl) e⟩
 | tup xs=>obtain⟨z,its,r,ob,e,c⟩:=x;exact⟨z,its,r,ob,k _ _ (.inl rfl) e,c⟩
 | dK kvs=>obtain⟨z,y,vs,r,ob,es,ep,e,c⟩:=x;exact⟨z,y,vs,r,ob,es,ep,k _ _ (.inl rfl) e,c⟩
 | dT kvs=>
  obtain⟨z,y,xs,r,ob,es,ep,e,c⟩:=x
  exact⟨z,y,xs,Paired.mapP r fun p q z=>⟨z.1,ht _ _ z.2.1,z.2.2⟩,ob,es,ep,k _ _ (.inl rfl) e,c⟩
 | set S n=>obtain⟨ob,es,ep,t,e,c⟩:=x;exact⟨ob,es,ep,t,k _ _ (.inl rfl) e,c⟩
 | ins C dx fs=>
  obtain⟨d,z,ne,e,mA,⟨od,es,ep,e2,c⟩,r⟩:=x
  exact⟨ho _ d,z,ne,k _ _ (.inl rfl) e,mA,⟨od,es,ep,k _ _ (.inr d) e2,c⟩,r⟩
 | own y=>obtain⟨ob,e⟩:=x;exact⟨ob,k _ _ (.inl rfl) e⟩
 | xd fs=>obtain⟨mA,⟨od,es,ep,e,c⟩,r⟩:=x;exact⟨mA,⟨od,es,ep,k _ _ (.inl rfl) e,c⟩,r⟩
 | rng lo hi=>obtain⟨t,u,v,e⟩:=x;exact⟨t,u,v,k _ _ (.inl rfl) e⟩
 | frz ob u ih=>obtain⟨e,q⟩:=x;exact⟨k _ _ (.inl rfl) e,ih q⟩
 | tbl ps=>
  have e:h.get? a=some { cls:=.none,data:=.fields ps }:=x
  show h'.get? a=some { cls:=.none,data:=.fields ps }
  exact k a _ (.inl rfl) e
 | met f y=>
  have e:h.get? a=some (PySem.W.methodObj (.ref f) (.ref y)):=x
  show h'.get? a=some (PySem.W.methodObj (.ref f) (.ref y))
  exact k a _ (.inl rfl) e
 | ext φ=>obtain⟨p,⟨o,e⟩,st⟩:=x;exact⟨st _ _ p fun o q=>k _ _ (.inl rfl) q,⟨o,k _ _ (.inl rfl) e⟩,st⟩
theorem HOk.lt(x:HOk P w H h)(e:H a=some o):a<h.objs.size:=(x a o e).lt
theorem HOk.fresh(x:HOk P w H h)(e:h.objs.size<=a):H a=none:=by
 cases q:H a with
 | none=>rfl
 | some u=>exact absurd (QG (x.lt q) e) (Jc _)
theorem HOk.kept(x:HOk P w H h)(k:∀ b u,h.get? b=some u->h'.get? b=some u):HOk P w H h':=fun a o e=>
 (x a o e).stay (fun b u _ q=>k b u q) (fun _ q=>q) fun _ _ q=>q
theorem HOk.laid(x:HOk P w H h)(k:∀ b u,h.get? b=some u->h'.get? b=some u)(hp:h.objs.size<=a)(new:zA1 P w (upd H a o) h' a o):HOk P w (upd H a o) h':=fun b u e=>by
 have hn:=x.fresh hp
 by_cases hb:b=a
 ·subst hb;rw [zAs]at e;cases e;exact new
 ·rw [zAf hb]at e
  exact(x b u e).stay (fun c v _ q=>k c v q) (fun c q=>by rw [zAf (zAO q hn)];exact q) fun c xs q=>by rw [zAf (zAO q hn)];exact q
end
def Rd(H:Hp)(a:Addr)(u:HO):Prop:=H a=some u ∨ ∃ o,H a=some (.frz o u)
theorem Rd.ok{P:Program}{w:World}{H:Hp}{h:Heap}{a:Addr}{u:HO}(r:Rd H a u)(x:HOk P w H h):zA1 P w H h a u:=by
 rcases r with r | ⟨o,r⟩
 ·exact x a u r
 ·obtain⟨_,q⟩:=x a _ r
  exact q
def Mut:Option HO->Prop
 | some (.lst _)=>True
 | some (.dK _)=>True
 | some (.dT _)=>True
 | some (.set _ _)=>True
 | some (.ins _ _ _)=>True
 | some (.ext _)=>True
 | _=>False
section
variable {P:Program}{w:World}{H:Hp}{h h':Heap}{x e:Addr}{o':HO}
theorem HOk.write(ok:HOk P w H h)(mu:Mut (H x))(he:e=x ∨ H e=some (.own x))(k:∀ b u,b≠e->h.get? b=some u->h'.get? b=some u)(heo:∃ u,h'.get? e=some u)
  (new:zA1 P w (upd H x o') h' x o'):HOk P w (upd H x o') h':=fun b u q=>by
 have nown:∀ c y,H c=some (.own y)->c≠x:=fun c y r z=>by subst z;rw [r]at mu;exact mu
 have ntup:∀ c xs,H c=some (.tup xs)->c≠x:=fun c xs r z=>by subst z;rw [r]at mu;exact mu
 by_cases hb:b=x
 ·subst hb;rw [zAs]at q;cases q;exact new
 ·rw [zAf hb]at q
  by_cases hbe:b=e
  ·have q':H b=some (.own x):=by
    rcases he with z | z
    ·exact absurd (hbe.trans z) hb
    ·rw [hbe];exact z
   rw [q]at q';cases q'
   obtain⟨v,hv⟩:=heo
   exact⟨v,by rw [hbe];exact hv⟩
  ·refine(ok b u q).stay (fun c v hc r=>k c v ?_ r) (fun c r=>by rw [zAf (nown c b r)];exact r) fun c xs r=>by rw [zAf (ntup c xs r)];exact r
   rcases hc with rfl | hc
   ·exact hbe
   ·rintro rfl
    rcases he with z | z
    ·exact nown c b hc z
    ·rw [hc]at z;cases z;exact hb rfl
end
structure Un(fs ex:List Addr)(H H':Hp)(h h':Heap):Prop where
 keep:∀ b o,h.get? b=some o->H b=none->b∉fs->b∉ex->h'.get? b=some o
 slot:∀ b o,h.get? b=some o->H b=none->b∈fs->b∉ex->∃ sl,h'.get? b=some { o with slots:=sl }
 free:∀ b o,h.get? b=some o->H b=none->b∉ex->H' b=none
 there:∀ b o,h.get? b=some o->b∉ex->∃ o',h'.get? b=some o'
 tups:∀ b xs,H b=some (.tup xs)->H' b=some (.tup xs)
 frzs:∀ b o u,H b=some (.frz o u)->H' b=some (.frz o u)
 tbls:∀ b ps,H b=some (.tbl ps)->∃ more,H' b=some (.tbl (ps++more))
section
variable {fs fs' ex ex':List Addr}{H H1 H2:Hp}{h h1 h2 h':Heap}{a x e:Addr}{o:HO}
theorem Un.any(u:Un fs ex H H1 h h1){b:Addr}{ob:Obj}(q:h.get? b=some ob)(n:H b=none)(hx:b∉ex):∃ sl,h1.get? b=some { ob with slots:=sl }:=by
 by_cases hb:b∈fs
 ·exact u.slot b ob q n hb hx
 ·exact⟨ob.slots,u.keep b ob q n hb hx⟩
theorem Un.kept(k:∀ b u,h.get? b=some u->h'.get? b=some u):Un fs ex H H h h':=
 ⟨fun b ob q _ _ _=>k b ob q,fun b ob q _ _ _=>⟨ob.slots,k b ob q⟩,fun _ _ _ n _=>n,fun b ob q _=>⟨ob,k b ob q⟩,fun _ _ q=>q,fun _ _ _ q=>q,fun _ ps q=>⟨#[],by rw [q];simp⟩⟩
theorem Un.refl:Un fs ex H H h h:=Un.kept fun _ _ q=>q
theorem Un.laid(k:∀ b u,h.get? b=some u->h'.get? b=some u)(hp:h.objs.size<=a)(hn:H a=none):Un fs ex H (upd H a o) h h' where
 keep:=fun b u q _ _ _=>k b u q
 slot:=fun b u q _ _ _=>⟨u.slots,k b u q⟩
 free:=fun b u q n _=>by rw [zAf (Qt (QG (Qo q) hp))];exact n
 there:=fun b u q _=>⟨u,k b u q⟩
 tups:=fun b xs q=>by rw [zAf (zAO q hn)];exact q
 frzs:=fun b u xs q=>by rw [zAf (zAO q hn)];exact q
 tbls:=fun b ps q=>⟨#[],by rw [zAf (zAO q hn),q];simp⟩
theorem Un.write(mu:Mut (H x))(he:e=x ∨ H e=some (.own x))(k:∀ b u,b≠e->h.get? b=some u->h'.get? b=some u)(heo:∃ u,h'.get? e=some u):Un fs ex H (upd H x o) h h':=by
 have hx:∀ b,H b=none->b≠x:=fun b n z=>by subst z;rw [n]at mu;exact mu
 have hb:∀ b,H b=none->b≠e:=fun b n z=>by
  subst z
  rcases he with r | r
  ·exact hx b n r
  ·rw [n]at r;cases r
 have hm:∀ b u,H b=some u->¬ Mut (some u)->b≠x:=fun b u q nm z=>by subst z;rw [q]at mu;exact nm mu
 refine⟨fun b u q n _ _=>k b u (hb b n) q,fun b u q n _ _=>⟨u.slots,k b u (hb b n) q⟩,fun b u q n _=>by rw [zAf (hx b n)];exact n,fun b u q _=>?_,
  fun b xs q=>by rw [zAf (hm b _ q fun z=>z)];exact q,fun b u xs q=>by rw [zAf (hm b _ q fun z=>z)];exact q,fun b ps q=>⟨#[],by rw [zAf (hm b _ q fun z=>z),q];simp⟩⟩
 by_cases hbe:b=e
 ·subst hbe;exact heo
 ·exact⟨u,k b u hbe q⟩
end
def trk(h:Heap)(H:Hp):List Addr:=(List.range h.objs.size).filter fun a=>(H a).isSome
def hidT(h:Heap)(H:Hp):Heap:=PySem.W.hideAll h (trk h H)
theorem zMA(h:Heap)(H:Hp):(hidT h H).objs.size=h.objs.size:=PySem.W.hideAll_size _ _
theorem zMz{h:Heap}{H:Hp}{b:Addr}{o:Obj}(e:h.get? b=some o)(n:H b=none):(hidT h H).get? b=some o:=
 PySem.W.hideAll_get _ e fun hm=>by
  have q:(H b).isSome=true:=(QT.mp hm).2
  rw [n]at q;simp at q
theorem zNI{h:Heap}{H:Hp}{b:Addr}{o:Obj}(e:(hidT h H).get? b=some o):h.get? b=some o/\H b=none:=by
 have e':h.get? b=some o:=PySem.W.of_hideAll (trk h H) e
 refine⟨e',?_⟩
 cases q:H b with
 | none=>rfl
 | some x=>
  have hm:b∈trk h H:=QT.mpr ⟨QO.mpr (Qo e'),by simp [q]⟩
  have z:(hidT h H).get? b=none:=PySem.W.hideAll_none (trk h H) hm
  rw [z]at e;cases e
end L2
namespace L2
open PySem PySem.Spec PyProof.Rows
structure Mod(K:PySem.W.Frag)(mg:Str->Option Value)(base:Heap):Prop where
 kin:K.In base
 glob:base.Ns mainGlobals mg
 blt:∃ mb,base.Ns builtinsNs mb/\∀ x:Str,x≠"__name__"->mb x=bootBuiltins x
 nolimit:base.NoLimit
structure Cx where
 prog:Program
 w:World
 K:PySem.W.Frag
 mg:Str->Option Value
 base:Heap
 A:Around
 N:List Str
 s₀:Shared
 H₀:Hp
 env:Env
 outer:List Env
 stack:List Env
 ex:List Addr
 fn:Str->Bool
 calm:Bool
 pn:List (Addr × Obj)
 xe:Value->Shared->Prop
def frs(l:List Env):List Addr:=l.filterMap (·.frame)
abbrev Cx.fs(X:Cx):List Addr:=frs X.outer
def Vis(sc:Scope)(x:Str):Prop:=sc.names.lookup x=some .local ∨ sc.names.lookup x=some .cell ∨ sc.names.lookup x=some .free
def Loc(sc:Scope)(x:Str):Prop:=sc.names.lookup x=some .local ∨ sc.names.lookup x=some .cell
def Look(env:Env)(h:Heap)(m:Str->Option Value)(x:Str)(u:Value):Prop:=
 (env.kindOf x=some .local/\m x=some u) ∨ ((env.kindOf x=some .cell ∨ env.kindOf x=some .free)/\∃ c,env.cells.lookup x=some c/\h.IsCell c (some u))
structure Cx.Ok(X:Cx):Prop where
 mod:Mod X.K X.mg X.base
 kind:X.env.scope.kind=.function
 glob:X.env.globals=mainGlobals
 blt:X.env.builtins=builtinsNs
 above:X.s₀.heap.objs.size<=X.env.locals
 inj:∀ x y c,X.env.cells.lookup x=some c->X.env.cells.lookup y=some c->x=y
 has:∀ x,(X.env.kindOf x=some .cell ∨ X.env.kindOf x=some .free)->∃ c,X.env.cells.lookup x=some c
 cab:∀ x c,X.fn x=true->X.env.cells.lookup x=some c->X.s₀.heap.objs.size<=c
 hd:X.calm=true->X.A.handled=none
 frames:X.A.frames=some X.stack
 stk:X.stack=X.outer ∨ (X.stack=X.env::X.outer/\X.env.frame=some X.env.locals)
 exf:∀ b∈X.ex,b≠X.env.locals/\∀ x c,X.env.cells.lookup x=some c->c≠b
 bs:∀ b o,X.base.get? b=some o->X.s₀.heap.get? b=some o/\X.H₀ b=none
 bsz:X.base.objs.size<=X.s₀.heap.objs.size
 noex:∀ b o,X.base.get? b=some o->b∉X.ex
 exfs:∀ b∈X.ex,b∉X.fs
 funs:X.s₀.heap.FunFrames X.base X.outer
 frf:∀ b∈X.fs,X.H₀ b=none
structure Inv(X:Cx)(pins:List (Addr × Obj))(σ:List (Option V))(H:Hp)(s:Shared):Prop where
 ok:X.Ok
 os:s.os=X.s₀.os
 bare:AllBare s.gens
 base:Un X.fs X.ex X.H₀ H X.s₀.heap s.heap
 loc:∃ m,s.heap.Ns X.env.locals m/\∀(i:Nat) (x:Str) (v:V),X.N[i]?=some x->σ[i]?=some (some v)->Vis X.env.scope x->∃ u,RelV v u/\Look X.env s.heap m x u
 cell:∀ x c,X.env.cells.lookup x=some c->∃ v,s.heap.IsCell c v
 free:H X.env.locals=none
 freeC:∀ x c,X.env.cells.lookup x=some c->H c=none
 pin:∀ p∈X.pn++pins,s.heap.get? p.1=some p.2/\H p.1=none/\p.1≠X.env.locals/\p.1∉X.fs/\∀ v,p.2.data≠.cell v
 hok:HOk X.prog X.w H s.heap
 len:σ.length=X.N.length
section
variable {X:Cx}{pins:List (Addr × Obj)}{σ:List (Option V)}{H H':Hp}{s:Shared}{h':Heap}
theorem Cx.Ok.nofr(ok:X.Ok){b:Addr}{o:Obj}(e:X.base.get? b=some o):b∉X.fs:=fun hb=>by
 have:=(ok.funs.mem hb).1
 rw [e]at this;cases this
theorem Inv.bs(I:Inv X pins σ H s):∀ b o,X.base.get? b=some o->s.heap.get? b=some o/\H b=none:=fun b o e=>
 ⟨I.base.keep b o (I.ok.bs b o e).1 (I.ok.bs b o e).2 (I.ok.nofr e) (I.ok.noex b o e),I.base.free b o (I.ok.bs b o e).1 (I.ok.bs b o e).2 (I.ok.noex b o e)⟩
theorem Inv.bk(I:Inv X pins σ H s):∀ b o,X.base.get? b=some o->s.heap.get? b=some o:=fun b o e=>(I.bs b o e).1
theorem Inv.mod(I:Inv X pins σ H s):Mod X.K X.mg X.base:=I.ok.mod
theorem Inv.kIn(I:Inv X pins σ H s):X.K.In s.heap:=I.ok.mod.kin.keeps I.bk
theorem Inv.lt(I:Inv X pins σ H s):X.env.locals<s.heap.objs.size:=let⟨_,hn,_⟩:=I.loc;hn.lt
theorem Inv.sz(I:Inv X pins σ H s):X.s₀.heap.objs.size<=s.heap.objs.size:=QI I.ok.above (YA I.lt)
theorem Inv.nofs(I:Inv X pins σ H s){a:Addr}(h:s.heap.objs.size<=a):a∉X.fs:=fun hb=>by
 obtain⟨_,o,ho,_⟩:=I.ok.funs.mem hb
 exact absurd (QG (Qo ho) (QI I.sz h)) (Jc _)
theorem Inv.cne(I:Inv X pins σ H s):∀ x c,X.env.cells.lookup x=some c->c≠X.env.locals:=fun x c e z=>by
 obtain⟨v,o,ho,hd⟩:=I.cell x c e
 obtain⟨m,⟨o',es,ep,ho',hd',_⟩,_⟩:=I.loc
 rw [z,ho']at ho;cases ho;rw [hd']at hd;cases hd
theorem Inv.funs(I:Inv X pins σ H s):s.heap.FunFrames X.base X.outer:=by
 have all:∀(l:List Env),(∀ b∈frs l,b∈X.fs)->X.s₀.heap.FunFrames X.base l->s.heap.FunFrames X.base l:=by
  intro l
  induction l with
  | nil=>intro _ _;trivial
  | cons env r ih=>
   intro hs hl
   obtain⟨hk,⟨L,o,hf,hn,ho,hd⟩,hr⟩:=hl
   have hL:L∈X.fs:=hs L (by unfold frs;rw [Jg,hf];exact Qj)
   obtain⟨sl,e⟩:=I.base.slot L o ho (I.ok.frf L hL) hL fun z=>I.ok.exfs L z hL
   exact⟨hk,⟨L,_,hf,hn,e,hd⟩,ih (fun b hb=>hs b (by unfold frs;rw [Jg,hf];exact Qe _ hb)) hr⟩
 exact all X.outer (fun _ hb=>hb) I.ok.funs
theorem Inv.stack(I:Inv X pins σ H s):s.heap.FunFrames X.base X.stack:=by
 rcases I.ok.stk with e | ⟨e,hf⟩
 ·rw [e];exact I.funs
 ·rw [e]
  obtain⟨m,hn,_⟩:=I.loc
  refine .cons (by rw [I.ok.kind];decide) hf hn ?_ I.funs
  exact Heap.get?_none_of_le (QI I.ok.bsz I.ok.above)
theorem Inv.stkSub(I:Inv X pins σ H s):∀ b∈frs X.stack,b∈X.env.locals::X.fs:=fun b hb=>by
 rcases I.ok.stk with e | ⟨e,hf⟩
 ·rw [e]at hb;exact Qe _ hb
 ·rw [e]at hb
  unfold frs at hb
  rw [Jg,hf]at hb
  exact hb
theorem Inv.stkFree(I:Inv X pins σ H s):∀ b∈frs X.stack,H b=none:=fun b hb=>by
 rcases Qh.mp (I.stkSub b hb)with e | hb
 ·rw [e];exact I.free
 ·obtain⟨_,o,ho,_⟩:=I.ok.funs.mem hb
  exact I.base.free b o ho (I.ok.frf b hb) fun z=>I.ok.exfs b z hb
theorem Inv.step{g':Array GenState}{t':Nat}{d':Drawn}{ch:List Addr}(I:Inv X pins σ H s)
  (hch:∀ b∈ch,(b∈X.ex ∨ X.s₀.heap.objs.size<=b)/\b≠X.env.locals/\(∀ x c,X.env.cells.lookup x=some c->c≠b)/\∀ p∈X.pn++pins,p.1≠b)
  (keep:∀ b o,b≠X.env.locals->b∉X.fs->b∉ch->s.heap.get? b=some o->H b=none->h'.get? b=some o)
  (slot:∀ b o,b≠X.env.locals->b∈X.fs->b∉ch->s.heap.get? b=some o->H b=none->∃ sl,h'.get? b=some { o with slots:=sl }) (free:∀ b o,b∉ch->s.heap.get? b=some o->H b=none->H' b=none)
  (there:∀ b o,b∉ch->s.heap.get? b=some o->∃ o',h'.get? b=some o')
  (tups:∀ b xs,H b=some (.tup xs)->H' b=some (.tup xs)) (frzs:∀ b o u,H b=some (.frz o u)->H' b=some (.frz o u)) (tbls:∀ b ps,H b=some (.tbl ps)->∃ more,H' b=some (.tbl (ps++more)))
  (ns:∀ m,s.heap.Ns X.env.locals m->h'.Ns X.env.locals m) (hok:HOk X.prog X.w H' h') (hg:AllBare g'):
  Inv X pins σ H' { s with heap:=h',gens:=g',drawn:=d',toks:=t' }:=by
 have neL:∀ b o,X.s₀.heap.get? b=some o->b≠X.env.locals:=fun b o e=>Qt (QG (Qo e) I.ok.above)
 have neC:∀ b o,X.s₀.heap.get? b=some o->b∉X.ex->b∉ch:=fun b o e hx hb=>by
  rcases(hch b hb).1 with z | z
  ·exact hx z
  ·exact absurd (QG (Qo e) z) (Jc _)
 have cellK:∀ x c,X.env.cells.lookup x=some c->∀ v,s.heap.IsCell c v->h'.IsCell c v:=fun x c e v zz=>by
  obtain⟨o,ho,hd⟩:=zz
  have nch:c∉ch:=fun z=>(hch c z).2.2.1 x c e rfl
  by_cases hc:c∈X.fs
  ·obtain⟨sl,q⟩:=slot c o (I.cne x c e) hc nch ho (I.freeC x c e)
   exact⟨_,q,hd⟩
  ·exact⟨o,keep c o (I.cne x c e) hc nch ho (I.freeC x c e),hd⟩
 refine⟨I.ok,I.os,hg,⟨fun b o e n hb hx=>?_,fun b o e n hb hx=>?_,fun b o e n hx=>?_,fun b o e hx=>?_,fun b xs e=>tups b xs (I.base.tups b xs e),fun b o xs e=>frzs b o xs (I.base.frzs b o xs e),fun b ps e=>?_⟩,?_,fun x c e=>?_,?_,fun x c e=>?_,fun p hp=>?_,hok,I.len⟩
 ·exact keep b o (neL b o e) hb (neC b o e hx) (I.base.keep b o e n hb hx) (I.base.free b o e n hx)
 ·obtain⟨sl,e1⟩:=I.base.slot b o e n hb hx
  obtain⟨sl',e2⟩:=slot b _ (neL b o e) hb (neC b o e hx) e1 (I.base.free b o e n hx)
  exact⟨sl',e2⟩
 ·obtain⟨o',e1⟩:=I.base.there b o e hx
  exact free b o' (neC b o e hx) e1 (I.base.free b o e n hx)
 ·obtain⟨o',e1⟩:=I.base.there b o e hx
  exact there b o' (neC b o e hx) e1
 ·obtain⟨m1,e1⟩:=I.base.tbls b ps e
  obtain⟨m2,e2⟩:=tbls b _ e1
  exact⟨m1++m2,by rw [e2,Array.append_assoc]⟩
 ·obtain⟨m,hn,hl⟩:=I.loc
  refine⟨m,ns m hn,fun i x v e1 e2 e3=>?_⟩
  obtain⟨u,r,l⟩:=hl i x v e1 e2 e3
  refine⟨u,r,?_⟩
  rcases l with l | ⟨k,c,e,z⟩
  ·exact .inl l
  ·exact .inr ⟨k,c,e,cellK x c e _ z⟩
 ·obtain⟨v,z⟩:=I.cell x c e
  exact⟨v,cellK x c e v z⟩
 ·obtain⟨m,⟨o,_,_,ho,_⟩,_⟩:=I.loc
  exact free _ o (fun z=>(hch _ z).2.1 rfl) ho I.free
 ·obtain⟨v,o,ho,hd⟩:=I.cell x c e
  exact free c o (fun z=>(hch c z).2.2.1 x c e rfl) ho (I.freeC x c e)
 ·obtain⟨e,n,ne,nf,d⟩:=I.pin p hp
  have nch:p.1∉ch:=fun z=>(hch p.1 z).2.2.2 p hp rfl
  exact⟨keep p.1 p.2 ne nf nch e n,free p.1 p.2 nch e n,ne,nf,d⟩
theorem Inv.un{t':Nat}(I:Inv X pins σ H s)(u:Un X.fs [] H H' s.heap h')(hok:HOk X.prog X.w H' h'):Inv X pins σ H' { s with heap:=h',toks:=t' }:=by
 obtain⟨m,⟨o,es,ep,ho,r⟩,_⟩:=id I.loc
 obtain⟨sl,hL⟩:=u.any ho I.free (by simp)
 exact I.step (g':=s.gens) (d':=s.drawn) (ch:=[]) (fun _ z=>nomatch z) (fun b o _ hb _ e n=>u.keep b o e n hb (by simp)) (fun b o _ hb _ e n=>u.slot b o e n hb (by simp)) (fun b o _ e n=>u.free b o e n (by simp)) (fun b o _ e=>u.there b o e (by simp)) u.tups u.frzs u.tbls (fun m' hm=>by
  obtain⟨o',es',ep',ho',r'⟩:=hm
  rw [ho]at ho';cases ho'
  exact⟨_,es',ep',hL,r'⟩) hok I.bare
theorem Inv.call{g':Array GenState}{t':Nat}{d':Drawn}{ch:List Addr}(I:Inv X pins σ H s)(u:Un (frs X.stack) ch H H' s.heap h')(hok:HOk X.prog X.w H' h')(hg:AllBare g')
  (hch:∀ b∈ch,(b∈X.ex ∨ X.s₀.heap.objs.size<=b)/\b≠X.env.locals/\(∀ x c,X.env.cells.lookup x=some c->c≠b)/\∀ p∈X.pn++pins,p.1≠b):
  Inv X pins σ H' { s with heap:=h',gens:=g',drawn:=d',toks:=t' }:=by
 obtain⟨m,⟨o,es,ep,ho,r⟩,_⟩:=id I.loc
 obtain⟨sl,hL⟩:=u.any ho I.free fun z=>(hch _ z).2.1 rfl
 exact I.step (ch:=ch) hch (fun b o hL hb hc e n=>u.keep b o e n (fun z=>(Qh.mp (I.stkSub b z)).elim hL hb) hc) (fun b o _ _ hc e n=>u.any e n hc) (fun b o hc e n=>u.free b o e n hc) (fun b o hc e=>u.there b o e hc) u.tups u.frzs u.tbls (fun m' hm=>by
  obtain⟨o',es',ep',ho',r'⟩:=hm
  rw [ho]at ho';cases ho'
  exact⟨_,es',ep',hL,r'⟩) hok hg
theorem Inv.turned{t':Nat}{it:Addr}(I:Inv X pins σ H s)(k:∀ b o,b≠it->s.heap.get? b=some o->h'.get? b=some o)(hn:H it=none)(hL:it≠X.env.locals)
  (h1:it∈X.ex ∨ X.s₀.heap.objs.size<=it) (h2:∀ x c,X.env.cells.lookup x=some c->c≠it) (h3:∀ p∈X.pn++pins,p.1≠it):Inv X pins σ H { s with heap:=h',toks:=t' }:=by
 have nit:∀ b u,H b=some u->b≠it:=fun b u e z=>by rw [z,hn]at e;cases e
 refine I.step (g':=s.gens) (d':=s.drawn) (ch:=[it]) (fun b hb=>?_) (fun b o _ _ hc e _=>k b o (fun z=>hc (by simp [z])) e) (fun b o _ _ hc e _=>⟨o.slots,k b o (fun z=>hc (by simp [z])) e⟩) (fun _ _ _ _ n=>n)
  (fun b o hc e=>⟨o,k b o (fun z=>hc (by simp [z])) e⟩) (fun _ _ e=>e) (fun _ _ _ e=>e) (fun b ps e=>⟨#[],by rw [e];simp⟩) (fun m hm=>?_) (fun b u e=>?_) I.bare
 ·have e:b=it:=by simpa using hb
  subst e
  exact⟨h1,hL,h2,h3⟩
 ·obtain⟨o,es,ep,ho,r⟩:=hm
  exact⟨o,es,ep,k _ o (Ne.symm hL) ho,r⟩
 ·refine(I.hok b u e).stay (fun c v hc q=>k c v ?_ q) (fun _ q=>q) fun _ _ q=>q
  rcases hc with z | z
  ·rw [z];exact nit b u e
  ·exact nit c _ z
theorem Inv.tok(I:Inv X pins σ H s)(t:Nat):Inv X pins σ H { s with toks:=t }:=I.un (h':=s.heap) (t':=t) Un.refl I.hok
theorem Inv.kept{t':Nat}(I:Inv X pins σ H s)(k:∀ b u,s.heap.get? b=some u->h'.get? b=some u):Inv X pins σ H { s with heap:=h',toks:=t' }:=I.un (Un.kept k) (I.hok.kept k)
theorem Inv.laid{a:Addr}{o:HO}{t':Nat}(I:Inv X pins σ H s)(k:∀ b u,s.heap.get? b=some u->h'.get? b=some u)(hp:s.heap.objs.size<=a)(new:zA1 X.prog X.w (upd H a o) h' a o):
  Inv X pins σ (upd H a o) { s with heap:=h',toks:=t' }:=I.un (Un.laid k hp (I.hok.fresh hp)) (I.hok.laid k hp new)
theorem Inv.write{x e:Addr}{o:HO}{t':Nat}(I:Inv X pins σ H s)(mu:Mut (H x))(he:e=x ∨ H e=some (.own x))(k:∀ b u,b≠e->s.heap.get? b=some u->h'.get? b=some u)(heo:∃ u,h'.get? e=some u)
  (new:zA1 X.prog X.w (upd H x o) h' x o):Inv X pins σ (upd H x o) { s with heap:=h',toks:=t' }:=I.un (Un.write mu he k heo) (I.hok.write mu he k heo new)
theorem Inv.pins_of{pins':List (Addr × Obj)}(I:Inv X pins σ H s)(h:∀ p∈pins',s.heap.get? p.1=some p.2/\H p.1=none/\p.1≠X.env.locals/\p.1∉X.fs/\∀ v,p.2.data≠.cell v):Inv X pins' σ H s:=
 ⟨I.ok,I.os,I.bare,I.base,I.loc,I.cell,I.free,I.freeC,fun p hp=>(QD.mp hp).elim (fun z=>I.pin p (Q9 _ z)) (h p),I.hok,I.len⟩
theorem zJI{N:List Str}(hN:N.Nodup){i j:Nat}{x:Str}(a:N[i]?=some x)(b:N[j]?=some x):i=j:=by
 obtain⟨h1,e1⟩:=Qc.mp a
 obtain⟨h2,e2⟩:=Qc.mp b
 exact(List.getElem_inj hN).mp (e1.trans e2.symm)
theorem zKD{M:Model}{A:Around}{E:Value->Shared->Prop}{i:Nat}{x:Str}{v:V}{u:Value}{Q:Unit->Shared->Prop}(I:Inv X pins σ H s)(hN:X.N.Nodup)(hi:X.N[i]?=some x)(hx:Loc X.env.scope x)(r:RelV v u)
  (h:∀ s',Inv X pins (σ.set i (some v)) H s'->(∃ a,Heap.SameBut a s.heap s'.heap/\(a=X.env.locals ∨ X.env.cells.lookup x=some a))->Q () s') (hf:X.fn x=true ∨ X.env.scope.names.lookup x=some .local:=by first | exact .inl rfl | exact .inr rfl | assumption):wpAny M A (storeName X.env x u) Q E s:=by
 obtain⟨m,hn,hl⟩:=id I.loc
 have hcls:(X.env.scope.kind == .class || (X.env.scope.kind == .module && X.env.locals != X.env.globals))=false:=by rw [I.ok.kind];rfl
 have hiσ:i<σ.length:=by rw [I.len];exact(Qc.mp hi).1
 have cne:=I.cne
 have tracked:∀{a:Addr}{h':Heap},(∃ o,s.heap.get? a=some o/\H a=none)->Heap.SameBut a s.heap h'->HOk X.prog X.w H h':=fun{a h'} ha hs b ob e=>by
  obtain⟨_,_,hfree⟩:=ha
  refine(I.hok b ob e).stay (fun c w' hc q=>(hs.2 c ?_).trans q) (fun _ q=>q) fun _ _ q=>q
  rintro rfl
  rcases hc with rfl | hc
  ·rw [hfree]at e;cases e
  ·rw [hfree]at hc;cases hc
 rcases hx with hk | hk
 ·refine wpAny_storeName_local hk hn (fun h' hn' hs=>?_) hcls
  obtain⟨oL,_,_,hoL,_⟩:=id hn
  refine h _ ⟨I.ok,I.os,I.bare,⟨fun b o e n hb hx=>?_,fun b o e n hb hx=>?_,I.base.free,fun b o e hx=>?_,I.base.tups,I.base.frzs,I.base.tbls⟩,⟨_,hn',fun j y v' e1 e2 e3=>?_⟩,fun y c e=>?_,I.free,I.freeC,fun p hp=>?_,tracked ⟨oL,hoL,I.free⟩ hs,by simpa using I.len⟩ ⟨_,hs,.inl rfl⟩
  ·exact(hs.2 b (Qt (QG (Qo e) I.ok.above))).trans (I.base.keep b o e n hb hx)
  ·obtain⟨sl,e1⟩:=I.base.slot b o e n hb hx
   exact⟨sl,(hs.2 b (Qt (QG (Qo e) I.ok.above))).trans e1⟩
  ·obtain⟨o',e1⟩:=I.base.there b o e hx
   exact⟨o',(hs.2 b (Qt (QG (Qo e) I.ok.above))).trans e1⟩
  ·by_cases hj:j=i
   ·subst hj
    rw [hi]at e1;cases e1
    rw [Qs hiσ]at e2
    cases e2
    exact⟨u,r,.inl ⟨hk,by simp⟩⟩
   ·rw [Qk (Ne.symm hj)]at e2
    obtain⟨u',r',q⟩:=hl j y v' e1 e2 e3
    refine⟨u',r',?_⟩
    rcases q with⟨k,e⟩ | ⟨k,c,e,z⟩
    ·refine .inl ⟨k,?_⟩
     have:y≠x:=fun e=>hj (zJI hN e1 (e ▸ hi))
     simp [this,e]
    ·exact .inr ⟨k,c,e,z.sameBut hs (cne y c e)⟩
  ·obtain⟨w',z⟩:=I.cell y c e
   exact⟨w',z.sameBut hs (cne y c e)⟩
  ·obtain⟨e,n,ne,nf,d⟩:=I.pin p hp
   exact⟨(hs.2 p.1 ne).trans e,n,ne,nf,d⟩
 ·have hfn:X.fn x=true:=by
   rcases hf with z | z
   ·exact z
   ·rw [z]at hk;cases hk
  obtain⟨c,hc⟩:=I.ok.has x (.inl hk)
  obtain⟨w',z⟩:=I.cell x c hc
  refine wpAny_storeName_cell I.ok.kind hk hc z (fun h' hc' hs=>?_)
  obtain⟨oc,hoc,hocd⟩:=id z
  refine h { s with heap:=h' } ⟨I.ok,I.os,I.bare,⟨fun b o e n hb hx=>?_,fun b o e n hb hx=>?_,I.base.free,fun b o e hx=>?_,I.base.tups,I.base.frzs,I.base.tbls⟩,⟨m,hn.sameBut hs (Ne.symm (cne x c hc)),fun j y v' e1 e2 e3=>?_⟩,fun y c' e=>?_,I.free,I.freeC,fun p hp=>?_,tracked ⟨oc,hoc,I.freeC x c hc⟩ hs,by simpa using I.len⟩ ⟨c,hs,.inr hc⟩
  ·exact(hs.2 b (Qt (QG (Qo e) (I.ok.cab x c hfn hc)))).trans (I.base.keep b o e n hb hx)
  ·obtain⟨sl,e1⟩:=I.base.slot b o e n hb hx
   exact⟨sl,(hs.2 b (Qt (QG (Qo e) (I.ok.cab x c hfn hc)))).trans e1⟩
  ·obtain⟨o',e1⟩:=I.base.there b o e hx
   exact⟨o',(hs.2 b (Qt (QG (Qo e) (I.ok.cab x c hfn hc)))).trans e1⟩
  ·by_cases hj:j=i
   ·subst hj
    rw [hi]at e1;cases e1
    rw [Qs hiσ]at e2
    cases e2
    exact⟨u,r,.inr ⟨.inl hk,c,hc,hc'⟩⟩
   ·rw [Qk (Ne.symm hj)]at e2
    obtain⟨u',r',q⟩:=hl j y v' e1 e2 e3
    refine⟨u',r',?_⟩
    rcases q with q | ⟨k,c',e,z'⟩
    ·exact .inl q
    ·refine .inr ⟨k,c',e,z'.sameBut hs ?_⟩
     rintro rfl
     exact hj (zJI hN e1 (I.ok.inj _ _ _ e hc ▸ hi))
  ·by_cases hcc:c'=c
   ·subst hcc;exact⟨_,hc'⟩
   ·obtain⟨w2,z2⟩:=I.cell y c' e
    exact⟨w2,z2.sameBut hs hcc⟩
  ·obtain⟨e,n,ne,nf,d⟩:=I.pin p hp
   refine⟨(hs.2 p.1 ?_).trans e,n,ne,nf,d⟩
   intro q
   rw [q,hoc]at e
   have q':oc=p.2:=Qy e
   exact d w' (by rw [<- q'];exact hocd)
theorem zKC{M:Model}{A:Around}{E:Value->Shared->Prop}{i:Nat}{x:Str}{v:V}{u:Value}{Q:Unit->Shared->Prop}(I:Inv X pins σ H s)(hN:X.N.Nodup)(hi:X.N[i]?=some x)(hx:Loc X.env.scope x)(r:RelV v u)
  (h:∀ s',Inv X pins (σ.set i (some v)) H s'->Q () s') (hf:X.fn x=true ∨ X.env.scope.names.lookup x=some .local:=by first | exact .inl rfl | exact .inr rfl | assumption):wpAny M A (storeName X.env x u) Q E s:=
 zKD I hN hi hx r (fun s' I' _=>h s' I') hf
theorem Inv.call'{s':Shared}{ch:List Addr}(I:Inv X pins σ H s)(ho:s'.os=s.os)(u:Un (frs X.stack) ch H H' s.heap s'.heap)(hok:HOk X.prog X.w H' s'.heap)(hg:AllBare s'.gens)
  (hch:∀ b∈ch,(b∈X.ex ∨ X.s₀.heap.objs.size<=b)/\b≠X.env.locals/\(∀ x c,X.env.cells.lookup x=some c->c≠b)/\∀ p∈X.pn++pins,p.1≠b):Inv X pins σ H' s':=by
 obtain⟨h',g',d',t',o'⟩:=s'
 have e:o'=s.os:=ho
 subst e
 exact I.call (g':=g') (t':=t') (d':=d') u hok hg hch
end
abbrev XK:=Value->Option Addr->Hp->Prop
abbrev St:=List (Option V)
abbrev VK:=V->Hp->Prop
abbrev TE:=St->Hp->VK->Prop
abbrev TT:=St->Hp->(Bool->Hp->Prop)->Prop
abbrev TA:=St->Hp->(List V->Hp->Prop)->Prop
structure Ends where
 nx:St->Hp->Prop
 rt:VK
 bk:St->Hp->Prop:=fun _ _=>False
 ct:St->Hp->Prop:=fun _ _=>False
abbrev TS:=Ends->St->Hp->Prop
def EP(X:Cx)(pins:List (Addr × Obj))(σ:St)(Q:VK)(u:Value)(s':Shared):Prop:=∃ v H',Inv X pins σ H' s'/\RelV v u/\Q v H'
def TP(X:Cx)(pins:List (Addr × Obj))(σ:St)(Q:Bool->Hp->Prop)(b:Bool)(s':Shared):Prop:=∃ H',Inv X pins σ H' s'/\Q b H'
def AP(X:Cx)(pins:List (Addr × Obj))(σ:St)(Q:List V->Hp->Prop)(us:List Value)(s':Shared):Prop:=∃ vs H',Inv X pins σ H' s'/\Vals vs us/\Q vs H'
def SP(X:Cx)(pins:List (Addr × Obj))(D:Ends)(f:Flow)(s':Shared):Prop:=
 match f with
 | .next=>∃ σ' H',Inv X pins σ' H' s'/\D.nx σ' H'
 | .brk=>∃ σ' H',Inv X pins σ' H' s'/\D.bk σ' H'
 | .cont=>∃ σ' H',Inv X pins σ' H' s'/\D.ct σ' H'
 | .ret u=>∃ v σ' H',Inv X pins σ' H' s'/\RelV v u/\D.rt v H'
def PE(X:Cx)(e:Expr)(t:TE):Prop:=
 ∀(pins:List (Addr × Obj)) (s:Shared) (σ:St) (H:Hp) (Q:VK),Inv X pins σ H s->t σ H Q->wpAny (model X.prog X.w) X.A (eval e X.env) (EP X pins σ Q) X.xe s
def PT(X:Cx)(e:Expr)(t:TT):Prop:=
 ∀(pins:List (Addr × Obj)) (s:Shared) (σ:St) (H:Hp) (Q:Bool->Hp->Prop),Inv X pins σ H s->t σ H Q->wpAny (model X.prog X.w) X.A (isTrue e X.env (eval e X.env)) (TP X pins σ Q) X.xe s
def PW(X:Cx)(e:Expr)(t:TT):Prop:=
 ∀(whole:Sem Value) (pins:List (Addr × Obj)) (s:Shared) (σ:St) (H:Hp) (Q:Bool->Hp->Prop),Inv X pins σ H s->t σ H Q->wpAny (model X.prog X.w) X.A (isTrue e X.env whole) (TP X pins σ Q) X.xe s
theorem PW.pt{X:Cx}{e:Expr}{t:TT}(h:PW X e t):PT X e t:=h _
def PA(X:Cx)(es:List Expr)(t:TA):Prop:=
 ∀(pos:Pos) (pins:List (Addr × Obj)) (s:Shared) (σ:St) (H:Hp) (Q:List V->Hp->Prop),Inv X pins σ H s->t σ H Q->wpAny (model X.prog X.w) X.A (spliced (backTo pos (starEach es X.env))) (AP X pins σ Q) X.xe s
def PS(X:Cx)(st:Stmt)(t:TS):Prop:=
 ∀(pins:List (Addr × Obj)) (s:Shared) (σ:St) (H:Hp) (D:Ends),Inv X pins σ H s->t D σ H->wpAny (model X.prog X.w) X.A (exec st X.env) (SP X pins D) X.xe s
def PSs(X:Cx)(st:List Stmt)(t:TS):Prop:=
 ∀(pins:List (Addr × Obj)) (s:Shared) (σ:St) (H:Hp) (D:Ends),Inv X pins σ H s->t D σ H->wpAny (model X.prog X.w) X.A (execs st X.env) (SP X pins D) X.xe s
theorem thn{α:Type}{t:Sem α}{Q Q':α->Shared->Prop}{M:Model}{A:Around}{E:Value->Shared->Prop}{s:Shared}(h:wpAny M A t Q E s)(hQ:∀ a s,Q a s->Q' a s):wpAny M A t Q' E s:=YE h hQ fun _ _ x=>x
end L2
namespace L2
open PySem PySem.Spec PyProof.Rows
section
variable {X:Cx}
def tVar(i:Nat):TE:=fun σ H Q=>∃ v,σ[i]?=some (some v)/\Q v H
def tC(v:V):TE:=fun _ H Q=>Q v H
theorem zCd{i:Nat}{x:Str}{pos:Pos}(hN:X.N[i]?=some x)(hv:Vis X.env.scope x)(hd:(x == ("__debug__":Str))=false:=by decide)(hcd:(x == ("__classdict__":Str))=false:=by decide):PE X (.Name x pos) (tVar i):=by
 intro pins s σ H Q I h
 obtain⟨v,e,h⟩:=h
 obtain⟨m,hn,hl⟩:=I.loc
 obtain⟨u,r,l⟩:=hl i x v hN e hv
 have fin:EP X pins σ Q u s:=⟨v,H,I,r,h⟩
 rcases l with⟨hk,hm⟩ | ⟨hk,c,hc,hcell⟩
 ·exact wpAny_Name (wpAny_loadName_local I.ok.kind hk hn hm fin) hd
 ·rcases hk with hk | hk
  ·exact wpAny_Name (wpAny_loadName_cell I.ok.kind hk hc hcell fin) hd
  ·exact wpAny_Name (wpAny_loadName_free I.ok.kind hk hc hcell fin hcd) hd
theorem zDu{i j pos}:PE X (.Constant (.int i) j pos) (tC (.int i)):=fun _ _ _ H _ I h=>wpAny_Constant_int ⟨.int i,H,I.tok _,⟨_,rfl⟩,h⟩
theorem pe_bl{b j pos}:PE X (.Constant (.bool b) j pos) (tC (.bl b)):=fun _ _ _ H _ I h=>Constant_bool ⟨.bl b,H,I,rfl,h⟩
theorem zEr{x j pos}:PE X (.Constant (.str x) j pos) (tC (.str x)):=fun _ _ _ H _ I h=>Calls.Constant_str ⟨.str x,H,I.tok _,⟨_,rfl⟩,h⟩
def Gl(X:Cx)(x:Str):Prop:=X.env.kindOf x=some .globalImplicit
theorem zJj{E:Value->Shared->Prop}{pins:List (Addr × Obj)}{s:Shared}{σ:St}{H:Hp}{x:Str}{u:Value}{pos:Pos}{Q:Value->Shared->Prop}(I:Inv X pins σ H s)(hg:Gl X x)(hm:X.mg x=some u)(h:Q u s)
  (hd:(x == ("__debug__":Str))=false:=by decide):wpAny (model X.prog X.w) X.A (eval (.Name x pos) X.env) Q E s:=
 Calls.Name_function_global I.ok.kind hg (Calls.loadGlobal_global (by rw [I.ok.glob];exact I.mod.glob.keeps I.bk) hm h) hd
theorem zBT{E:Value->Shared->Prop}{pins:List (Addr × Obj)}{s:Shared}{σ:St}{H:Hp}{x:Str}{u:Value}{pos:Pos}{Q:Value->Shared->Prop}(I:Inv X pins σ H s)(hg:Gl X x)(hm:X.mg x=none)(hv:bootBuiltins x=some u)(h:Q u s)
  (hn:x≠"__name__":=by decide) (hd:(x == ("__debug__":Str))=false:=by decide):wpAny (model X.prog X.w) X.A (eval (.Name x pos) X.env) Q E s:=by
 obtain⟨mb,h1,h2⟩:=I.mod.blt
 exact Calls.Name_function_global I.ok.kind hg (Calls.loadGlobal_builtin (by rw [I.ok.glob];exact I.mod.glob.keeps I.bk) hm (by rw [I.ok.blt];exact h1.keeps I.bk) ((h2 x hn).trans hv) h) hd
theorem zOa{x:Str}{v:V}{u:Value}{pos:Pos}(hg:Gl X x)(hm:X.mg x=none)(hv:bootBuiltins x=some u)(r:RelV v u)(hn:x≠"__name__":=by decide)(hd:(x == ("__debug__":Str))=false:=by decide):PE X (.Name x pos) (tC v):=
 fun _ _ _ H _ I h=>zBT I hg hm hv ⟨v,H,I,r,h⟩ hn hd
variable {a b:Expr}{ta tb:TE}{pos:Pos}
def tB(t:TE):TT:=fun σ H Q=>t σ H fun x H1=>∃ c,x=.bl c/\Q c H1
theorem zFD{e:Expr}{t:TE}(h:PE X e t)(he:∀ whole,isTrue e X.env whole=(do let v <- whole;standAt e.pos;holding [v] (truthy v)):=by intro _;rfl):PT X e (tB t):=by
 intro pins s σ H Q I hw
 refine isTrue_plain (thn (h pins s σ H _ I hw) fun v s1 ⟨x,H1,I1,r1,q1⟩=>?_) (he _)
 obtain⟨d,rfl,q⟩:=q1
 cases r1
 exact YC ⟨H1,I1,q⟩
variable {tA tB':TT}{rest:List Expr}
def tAnd(t u:TT):TT:=fun σ H Q=>t σ H fun c H1=>if c=true then u σ H1 Q else Q false H1
def tOr(t u:TT):TT:=fun σ H Q=>t σ H fun c H1=>if c=true then Q true H1 else u σ H1 Q
def tNot(t:TT):TT:=fun σ H Q=>t σ H fun c H1=>Q (!c) H1
theorem zOF(ha:PT X a tA):PW X (.BoolOp .And [a] pos) tA:=by
 intro wh pins s σ H Q I h
 refine isTrue_and (thn (ha pins s σ H Q I h) fun c s1 e=>?_)
 cases c with
 | true=>exact isTrue_and_nil e
 | false=>exact e
theorem zJ8(ha:PT X a tA):PW X (.BoolOp .Or [a] pos) tA:=by
 intro wh pins s σ H Q I h
 refine isTrue_or (thn (ha pins s σ H Q I h) fun c s1 e=>?_)
 cases c with
 | false=>exact isTrue_or_nil e
 | true=>exact e
theorem zOE(ha:PT X a tA)(hb:PW X (.BoolOp .And (b::rest) pos) tB'):PW X (.BoolOp .And (a::b::rest) pos) (tAnd tA tB'):=by
 intro wh pins s σ H Q I h
 refine isTrue_and (thn (ha pins s σ H _ I h) fun c s1 zz=>?_)
 obtain⟨H1,I1,q1⟩:=zz
 cases c with
 | true=>exact hb wh pins s1 σ H1 Q I1 q1
 | false=>exact⟨H1,I1,q1⟩
theorem zJ7(ha:PT X a tA)(hb:PW X (.BoolOp .Or (b::rest) pos) tB'):PW X (.BoolOp .Or (a::b::rest) pos) (tOr tA tB'):=by
 intro wh pins s σ H Q I h
 refine isTrue_or (thn (ha pins s σ H _ I h) fun c s1 zz=>?_)
 obtain⟨H1,I1,q1⟩:=zz
 cases c with
 | true=>exact⟨H1,I1,q1⟩
 | false=>exact hb wh pins s1 σ H1 Q I1 q1
theorem zJ6(ha:PT X a tA):PT X (.UnaryOp .Not a pos) (tNot tA):=by
 intro pins s σ H Q I h
 exact isTrue_not (ha pins s σ H (fun c H1=>Q (!c) H1) I h)
def tAndV(ta tb:TE):TE:=fun σ H Q=>ta σ H fun x H1=>∃ c,x=.bl c/\if c=true then tb σ H1 Q else Q (.bl false) H1
def tOrV(ta tb:TE):TE:=fun σ H Q=>ta σ H fun x H1=>∃ c,x=.bl c/\if c=true then Q (.bl true) H1 else tb σ H1 Q
def tNotV(ta:TE):TE:=fun σ H Q=>ta σ H fun x H1=>∃ c,x=.bl c/\Q (.bl (!c)) H1
theorem zJY{op}{t:TE}(h:PE X a t):PE X (.BoolOp op [a] pos) t:=fun pins s σ H Q I hw=>BoolOp_one (h pins s σ H Q I hw)
theorem zJU(ha:PE X a ta)(hb:PE X (.BoolOp .And (b::rest) pos) tb):PE X (.BoolOp .And (a::b::rest) pos) (tAndV ta tb):=by
 intro pins s σ H Q I h
 refine BoolOp_and (thn (ha pins s σ H _ I h) fun v s1 zz=>?_)
 obtain⟨x,H1,I1,r1,q1⟩:=zz
 obtain⟨c,rfl,q1⟩:=q1
 cases r1
 refine YC ?_
 cases c with
 | true=>exact hb pins s1 σ H1 Q I1 q1
 | false=>exact⟨.bl false,H1,I1,rfl,q1⟩
theorem pe_or(ha:PE X a ta)(hb:PE X (.BoolOp .Or (b::rest) pos) tb):PE X (.BoolOp .Or (a::b::rest) pos) (tOrV ta tb):=by
 intro pins s σ H Q I h
 refine BoolOp_or (thn (ha pins s σ H _ I h) fun v s1 zz=>?_)
 obtain⟨x,H1,I1,r1,q1⟩:=zz
 obtain⟨c,rfl,q1⟩:=q1
 cases r1
 refine YC ?_
 cases c with
 | false=>exact hb pins s1 σ H1 Q I1 q1
 | true=>exact⟨.bl true,H1,I1,rfl,q1⟩
theorem zOe(ha:PE X a ta):PE X (.UnaryOp .Not a pos) (tNotV ta):=by
 intro pins s σ H Q I h
 refine UnaryOp_ (thn (ha pins s σ H _ I h) fun v s1 zz=>?_)
 obtain⟨x,H1,I1,r1,q1⟩:=zz
 obtain⟨c,rfl,q1⟩:=q1
 cases r1
 exact not_of (YC ⟨.bl (!c),H1,I1,rfl,q1⟩)
def tIf(t:TT)(ta tb:TE):TE:=fun σ H Q=>t σ H fun c H1=>if c=true then ta σ H1 Q else tb σ H1 Q
theorem zHc{c:Expr}(hc:PT X c tA)(ha:PE X a ta)(hb:PE X b tb):PE X (.IfExp c a b pos) (tIf tA ta tb):=by
 intro pins s σ H Q I h
 refine wpAny_IfExp (thn (hc pins s σ H _ I h) fun d s1 zz=>?_)
 obtain⟨H1,I1,q1⟩:=zz
 cases d with
 | true=>exact ha pins s1 σ H1 Q I1 q1
 | false=>exact hb pins s1 σ H1 Q I1 q1
end
end L2
namespace L2
open PySem PySem.Spec PyProof.Rows
def SqL(K:PySem.W.Frag)(H:Hp)(a:Addr)(xs:List V):Prop:=
 Rd H a (.lst xs) ∨
  ∃(o:Obj) (its:Array Value) (n:Nat),K.lookup a=some o/\o.cls=.type "list"/\o.dict=none/\o.data=.seq its n/\its.size<=sizeLine/\Vals xs its.toList
def SqT(K:PySem.W.Frag)(H:Hp)(a:Addr)(xs:List V):Prop:=
 Rd H a (.tup xs) ∨
  ∃(o:Obj) (its:Array Value) (n:Nat),K.lookup a=some o/\o.cls=.type "tuple"/\o.data=.seq its n/\its.size<=sizeLine/\Vals xs its.toList
def absV:Value->Option V
 | .none=>some .non
 | .bool b=>some (.bl b)
 | .int i _=>some (.int i)
 | .str x _=>some (.str x)
 | .bytes b _=>some (.byt b)
 | .float b _=>some (.flt b)
 | .ref a=>some (.ref a)
 | .type n=>some (.ty n)
 | _=>none
theorem RelV.abs{x:V}{u:Value}(r:RelV x u):absV u=some x:=by
 cases x with
 | non=>cases r;rfl
 | bl _=>cases r;rfl
 | int _=>obtain⟨t,rfl⟩:=r;rfl
 | str _=>obtain⟨t,rfl⟩:=r;rfl
 | byt _=>obtain⟨t,rfl⟩:=r;rfl
 | flt _=>obtain⟨t,rfl⟩:=r;rfl
 | ref _=>cases r;rfl
 | ty _=>cases r;rfl
theorem RelV.inj{x y:V}{u:Value}(r:RelV x u)(q:RelV y u):x=y:=Qy (r.abs.symm.trans q.abs)
theorem Vals.inj{xs ys:List V}{us:List Value}(h:Vals xs us)(h':Vals ys us):xs=ys:=by
 induction h generalizing ys with
 | nil=>cases h';rfl
 | cons r t ih=>
  cases h' with
  | cons r' t'=>rw [r.inj r',ih t']
section
variable {X:Cx}{pins:List (Addr × Obj)}{σ:St}{H:Hp}{s:Shared}{a:Addr}{xs ys:List V}
theorem SqL.of{K:PySem.W.Frag}(h:H a=some (.lst xs)):SqL K H a xs:=.inl (.inl h)
theorem Inv.list(I:Inv X pins σ H s)(h:SqL X.K H a xs):∃ its:List Value,Vals xs its/\PlainL s.heap a its.toArray/\xs.length<=sizeLine:=by
 rcases h with h | ⟨o,its,n,hk,hc,hd,hs,hz,r⟩
 ·obtain⟨z,its,n,r,e⟩:=h.ok I.hok
  exact⟨its,r,⟨_,n,e,rfl,rfl,rfl⟩,z⟩
 ·refine⟨its.toList,r,⟨o,n,I.kIn a o hk,hc,hd,by simpa using hs⟩,?_⟩
  have e:=r.length
  simp only [Qp]at e
  lia
theorem Inv.tuple(I:Inv X pins σ H s)(h:SqT X.K H a xs):∃ its:List Value,Vals xs its/\IsTup s.heap a its.toArray/\xs.length<=sizeLine:=by
 rcases h with h | ⟨o,its,n,hk,hc,hs,hz,r⟩
 ·obtain⟨z,its,r,p⟩:=h.ok I.hok
  exact⟨its,r,p,z⟩
 ·refine⟨its.toList,r,⟨o,I.kIn a o hk,hc,n,by simpa using hs⟩,?_⟩
  have e:=r.length
  simp only [Qp]at e
  lia
theorem Inv.list_inj(I:Inv X pins σ H s)(h:SqL X.K H a xs)(h':SqL X.K H a ys):xs=ys:=by
 obtain⟨its,r,⟨o,n,e,_,_,d⟩,_⟩:=I.list h
 obtain⟨its',r',⟨o',n',e',_,_,d'⟩,_⟩:=I.list h'
 rw [e]at e';cases e'
 rw [d]at d'
 injection d' with d1 _
 have:its=its':=by simpa using congrArg Array.toList d1
 subst this
 exact r.inj r'
theorem Inv.tuple_inj(I:Inv X pins σ H s)(h:SqT X.K H a xs)(h':SqT X.K H a ys):xs=ys:=by
 obtain⟨its,r,⟨o,e,_,n,d⟩,_⟩:=I.tuple h
 obtain⟨its',r',⟨o',e',_,n',d'⟩,_⟩:=I.tuple h'
 rw [e]at e';cases e'
 rw [d]at d'
 injection d' with d1 _
 have:its=its':=by simpa using congrArg Array.toList d1
 subst this
 exact r.inj r'
end
abbrev Cx.wish(X:Cx)(E:Value->Shared->Prop):Cx:={ X with xe:=E }
abbrev Cx.nox(X:Cx):Cx:=X.wish fun _ _=>False
theorem Cx.Ok.wish{X:Cx}(ok:X.Ok)(E:Value->Shared->Prop):(X.wish E).Ok:=
 ⟨ok.mod,ok.kind,ok.glob,ok.blt,ok.above,ok.inj,ok.has,ok.cab,ok.hd,ok.frames,ok.stk,ok.exf,ok.bs,ok.bsz,ok.noex,ok.exfs,ok.funs,ok.frf⟩
theorem Cx.Ok.unwish{X:Cx}{E:Value->Shared->Prop}(ok:(X.wish E).Ok):X.Ok:=
 ⟨ok.mod,ok.kind,ok.glob,ok.blt,ok.above,ok.inj,ok.has,ok.cab,ok.hd,ok.frames,ok.stk,ok.exf,ok.bs,ok.bsz,ok.noex,ok.exfs,ok.funs,ok.frf⟩
section
variable {X:Cx}{pins:List (Addr × Obj)}{σ:St}{H:Hp}{s:Shared}{E:Value->Shared->Prop}
theorem Inv.wish(I:Inv X pins σ H s)(E:Value->Shared->Prop):Inv (X.wish E) pins σ H s:=⟨I.ok.wish E,I.os,I.bare,I.base,I.loc,I.cell,I.free,I.freeC,I.pin,I.hok,I.len⟩
theorem Inv.unwish(I:Inv (X.wish E) pins σ H s):Inv X pins σ H s:=⟨I.ok.unwish,I.os,I.bare,I.base,I.loc,I.cell,I.free,I.freeC,I.pin,I.hok,I.len⟩
theorem SP.unwish{D:Ends}{f:Flow}{s':Shared}(h:SP (X.wish E) pins D f s'):SP X pins D f s':=by
 cases f with
 | next=>obtain⟨σ',H',I,q⟩:=h;exact⟨σ',H',I.unwish,q⟩
 | brk=>obtain⟨σ',H',I,q⟩:=h;exact⟨σ',H',I.unwish,q⟩
 | cont=>obtain⟨σ',H',I,q⟩:=h;exact⟨σ',H',I.unwish,q⟩
 | ret u=>obtain⟨v,σ',H',I,r,q⟩:=h;exact⟨v,σ',H',I.unwish,r,q⟩
theorem PSs.nox{st:List Stmt}{t:TS}(h:PSs X.nox st t):PSs X st t:=fun pins s σ H D I hw=>
 YE (h pins s σ H D (I.wish _) hw) (fun _ _ q=>q.unwish) fun _ _ z=>False.elim z
end
section
variable {X:Cx}{st:Stmt}{rest:List Stmt}{t u:TS}{e:Expr}{te:TE}{pos:Pos}
def tNext:TS:=fun D σ H=>D.nx σ H
def tSeq(t u:TS):TS:=fun D σ H=>t { D with nx:=u D } σ H
theorem zHg:PSs X [] tNext:=fun _ _ σ H _ I h=>wpAny_execs_nil ⟨σ,H,I,h⟩
theorem zA4(h1:PS X st t)(h2:PSs X rest u):PSs X (st::rest) (tSeq t u):=by
 intro pins s σ H D I h
 refine wpAny_execs_cons (thn (h1 pins s σ H { D with nx:=u D } I h) fun f s1 q=>?_)
 cases f with
 | next=>
  obtain⟨σ',H',I',q⟩:=q
  exact h2 pins s1 σ' H' D I' q
 | ret v=>exact q
 | brk=>exact q
 | cont=>exact q
theorem zBc(h1:PS X st t):PSs X [st] t:=by
 intro pins s σ H D I h
 refine wpAny_execs_cons (thn (h1 pins s σ H D I h) fun f s1 q=>?_)
 cases f with
 | next=>exact wpAny_execs_nil q
 | ret v=>exact q
 | brk=>exact q
 | cont=>exact q
theorem Inv.quiet{pins:List (Addr × Obj)}{σ:St}{H:Hp}{s:Shared}(I:Inv X pins σ H s):interactive X.env=false:=by simp [interactive,I.ok.kind]
def tDrop(te:TE):TS:=fun D σ H=>te σ H fun _ H1=>D.nx σ H1
theorem zBI(he:PE X e te)(hs:swapsWith e none pos.line X.env=pure false:=by rfl):PS X (.Expr e pos) (tDrop te):=by
 intro pins s σ H D I h
 exact wpAny_Expr_any (thn (he pins s σ H _ I h) fun v s1 ⟨x,H1,I1,r1,q1⟩=>⟨σ,H1,I1,q1⟩) I.quiet hs
def tRet(te:TE):TS:=fun D σ H=>te σ H D.rt
theorem zBV(he:PE X e te):PS X (.Return (some e) pos) (tRet te):=by
 intro pins s σ H D I h
 exact wpAny_Return_some (thn (he pins s σ H _ I h) fun v s1 ⟨x,H1,I1,r1,q1⟩=>⟨x,σ,H1,I1,r1,q1⟩)
def tIfS(c:TT)(t u:TS):TS:=fun D σ H=>c σ H fun b H1=>if b=true then t D σ H1 else u D σ H1
theorem zHf{c:Expr}{a b:List Stmt}{tc:TT}(hc:PT X c tc)(ha:PSs X a t)(hb:PSs X b u):PS X (.If c a b pos) (tIfS tc t u):=by
 intro pins s σ H D I h
 refine wpAny_If (thn (hc pins s σ H _ I h) fun d s1 zz=>?_)
 obtain⟨H1,I1,q1⟩:=zz
 cases d with
 | true=>exact ha pins s1 σ H1 D I1 q1
 | false=>exact hb pins s1 σ H1 D I1 q1
def zPx:TS:=fun _ _ _=>False
theorem zOx:PS X st zPx:=fun _ _ _ _ _ _ h=>h.elim
end
abbrev TG:=V->St->Hp->(St->Hp->Prop)->Prop
abbrev TGs:=List V->St->Hp->(St->Hp->Prop)->Prop
def PG(X:Cx)(target:Expr)(t:TG):Prop:=
 ∀(pins:List (Addr × Obj)) (s:Shared) (σ:St) (H:Hp) (v:V) (u:Value) (Q:St->Hp->Prop),Inv X pins σ H s->RelV v u->t v σ H Q->
  wpAny (model X.prog X.w) X.A (assign target X.env u) (fun _ s'=>∃ σ' H',Inv X pins σ' H' s'/\Q σ' H') X.xe s
def PGs(X:Cx)(ts:List Expr)(t:TGs):Prop:=
 ∀(pins:List (Addr × Obj)) (s:Shared) (σ:St) (H:Hp) (vs:List V) (us:List Value) (Q:St->Hp->Prop),Inv X pins σ H s->Vals vs us->t vs σ H Q->
  wpAny (model X.prog X.w) X.A (assignInOrder ((assignEach ts X.env).map (·.2)) us) (fun _ s'=>∃ σ' H',Inv X pins σ' H' s'/\Q σ' H') X.xe s
section
variable {X:Cx}{pos:Pos}
def zEb(i:Nat):TG:=fun v σ H Q=>Q (σ.set i (some v)) H
theorem zJ0{i:Nat}{x:Str}(hN:X.N.Nodup)(hi:X.N[i]?=some x)(hx:Loc X.env.scope x)(hf:X.fn x=true ∨ X.env.scope.names.lookup x=some .local:=by first | exact .inl rfl | exact .inr rfl | assumption):PG X (.Name x pos) (zEb i):=by
 intro pins s σ H v u Q I r h
 exact wpAny_assign_Name (zKC I hN hi hx r (fun s' I'=>⟨_,H,I',h⟩) hf)
def gNil:TGs:=fun vs σ H Q=>vs=[]/\Q σ H
def gCons(t:TG)(u:TGs):TGs:=fun vs σ H Q=>∃ v r,vs=v::r/\t v σ H fun σ' H'=>u r σ' H' Q
theorem zOj:PGs X [] gNil:=by
 intro pins s σ H vs us Q I r h
 obtain⟨e,h⟩:=h
 subst e
 cases r
 exact assignInOrder_nil ⟨σ,H,I,h⟩
theorem zOi{e:Expr}{es:List Expr}{t:TG}{u:TGs}(h1:PG X e t)(h2:PGs X es u)
  (hs:(assignEach (e::es) X.env).map (·.2)=assign e X.env::(assignEach es X.env).map (·.2):=by rfl):PGs X (e::es) (gCons t u):=by
 intro pins s σ H vs us Q I r h
 obtain⟨v,vr,e1,h⟩:=h
 subst e1
 cases r with
 | cons r rr=>
  rw [hs]
  refine assignInOrder_cons (thn (h1 pins s σ H _ _ _ I r h) fun _ s1 zz=>?_)
  obtain⟨σ1,H1,I1,q1⟩:=zz
  exact h2 pins s1 σ1 H1 _ _ Q I1 rr q1
def gTup(K:PySem.W.Frag)(n:Nat)(t:TGs):TG:=fun v σ H Q=>∃ a xs,v=.ref a/\SqT K H a xs/\xs.length=n/\t xs σ H Q
theorem zOh{es:List Expr}{k:Nat}{t:TGs}{n:Nat}(hc:X.calm=true)(h:PGs X es t)
  (hn:(assignEach es X.env).length=n:=by rfl) (hst:(assignEach es X.env).findIdx? (·.1)=none:=by rfl):PG X (.Tuple es k pos) (gTup X.K n t):=by
 intro pins s σ H v u Q I r hw
 obtain⟨a,xs,e1,hq,hl,hw⟩:=hw
 subst e1
 cases r
 obtain⟨its,rv,ht,hz⟩:=I.tuple hq
 refine assign_Tuple_tuple (I.ok.hd hc) ht (by simp [hn,<- hl,rv.length]) hst fun h' hx=>?_
 have I1:Inv X pins σ H { s with heap:=h' }:=I.kept (t':=s.toks) fun b o e=>hx b o (Qt (Qo e)) e
 exact h pins _ σ H xs _ Q I1 (by simpa using rv) hw
def tAsg(te:TE)(g:TG):TS:=fun D σ H=>te σ H fun x H1=>g x σ H1 D.nx
theorem zBw{i:Nat}{x:Str}{e:Expr}{te:TE}{pos':Pos}(hN:X.N.Nodup)(hi:X.N[i]?=some x)(hx:Loc X.env.scope x)(he:PE X e te)(hs:swapsWith e (some (.Name x pos')) pos.line X.env=pure false:=by rfl)(hf:X.fn x=true ∨ X.env.scope.names.lookup x=some .local:=by first | exact .inl rfl | exact .inr rfl | assumption):
  PS X (.Assign [.Name x pos'] e pos) (tAsg te (zEb i)):=by
 intro pins s σ H D I h
 refine wpAny_Assign_Name (thn (he pins s σ H _ I h) fun v s1 ⟨y,H1,I1,r1,q1⟩=>?_) hs
 exact zKC I1 hN hi hx r1 (fun s2 I2=>⟨_,H1,I2,q1⟩) hf
end
section
variable {X:Cx}{pos:Pos}
def zPz(c:TT)(tb:TS):TS:=fun D σ H=>∃ W:Nat->St->Hp->Prop,(∃ m,W m σ H)/\∀ m σ H,W m σ H->
 c σ H fun b H1=>if b=true then ∃ N:St->Hp->Prop,(∀ σ' H',N σ' H'->∃ m',m'<m/\W m' σ' H')/\tb { D with nx:=N,ct:=N,bk:=D.nx } σ H1 else D.nx σ H1
theorem zOy{c:Expr}{body:List Stmt}{tc:TT}{tb:TS}(hp:PassesOwn (model X.prog X.w) X.A X.env X.xe)(hc:PT X c tc)(hb:PSs X body tb):PS X (.While c body [] pos) (zPz tc tb):=by
 intro pins s σ H D I h
 obtain⟨W,⟨m0,w0⟩,turn⟩:=h
 refine wpAny_While (codeAny_whileLoop (fun n s'=>∃ σ' H',Inv X pins σ' H' s'/\W n σ' H') ?_ m0 ⟨σ,H,I,w0⟩)
 rintro n s1 ⟨σ1,H1,I1,w1⟩
 refine YT hp (thn (hc pins s1 σ1 H1 _ I1 (turn n σ1 H1 w1)) fun b s2 zz=>?_)
 obtain⟨H2,I2,q2⟩:=zz
 cases b with
 | true=>
  obtain⟨N,hN,q2⟩:=q2
  rw [if_pos rfl]
  refine YT hp (thn (hb pins s2 σ1 H2 _ I2 q2) fun f s3 q3=>?_)
  cases f with
  | next=>
   obtain⟨σ3,H3,I3,n3⟩:=q3
   obtain⟨m',hm,w3⟩:=hN σ3 H3 n3
   exact⟨m',hm,σ3,H3,I3,w3⟩
  | cont=>
   obtain⟨σ3,H3,I3,n3⟩:=q3
   obtain⟨m',hm,w3⟩:=hN σ3 H3 n3
   exact⟨m',hm,σ3,H3,I3,w3⟩
  | brk=>exact q3
  | ret v=>exact q3
 | false=>
  rw [if_neg Qr]
  exact wpAny_execs_nil ⟨σ1,H2,I2,q2⟩
end
structure It where
 go:Nat->Hp->Prop
 yld:Nat->Hp->V->Hp->Prop
 stop:Nat->Hp->Prop
def FpOk(X:Cx)(pins:List (Addr × Obj))(H:Hp)(b:Addr):Prop:=
 H b=none/\b≠X.env.locals/\b∉X.fs/\(b∈X.ex ∨ X.s₀.heap.objs.size<=b)/\(∀ x c,X.env.cells.lookup x=some c->c≠b)/\∀ p∈X.pn++pins,p.1≠b
theorem Inv.fpOk{X:Cx}{pins:List (Addr × Obj)}{σ:St}{H H':Hp}{s:Shared}{b:Addr}(I:Inv X pins σ H s)(hb:s.heap.objs.size<=b)(hn:H' b=none):FpOk X pins H' b:=by
 refine⟨hn,YH (QG I.lt hb),I.nofs hb,.inr (QI I.sz hb),fun x c e z=>?_,fun p hp z=>?_⟩
 ·obtain⟨v,q⟩:=I.cell x c e
  exact absurd (QG q.lt (by rw [z];exact hb)) (Jc _)
 ·exact absurd (QG (Qo (I.pin p hp).1) (by rw [z];exact hb)) (Jc _)
structure Turn(P:Program)(w:World)(K:PySem.W.Frag)(tg:Expr)(J:It)(fp:List Addr)(it:Addr)(tn:Nat->Heap->Prop):Prop where
 mem:it∈fp
 obj:∀ i h,tn i h->∀ b∈fp,∃ o,h.get? b=some o/\∀ v,o.data≠.cell v
 keep:∀ i h h',tn i h->(∀ b∈fp,∀ o,h.get? b=some o->h'.get? b=some o)->tn i h'
 item:∀(X:Cx),X.prog=P->X.w=w->X.K=K->X.calm=true->∀(i:Nat) (pins:List (Addr × Obj)) (s:Shared) (σ:St) (H:Hp) (E:Value->Shared->Prop),Inv X pins σ H s->(∀ b∈fp,FpOk X pins H b)->tn i s.heap->J.go i H->
  wpAny (model P w) X.A (pyNext (.ref it)) (fun r s1=>∃ u,r=some u /\
   wpAny (model P w) X.A (letOwnedTupleGo tg (.ref it) u) (fun _ s2=>∃ x H',Inv X pins σ H' s2/\RelV x u/\J.yld i H x H'/\tn (i+1) s2.heap/\∀ b∈fp,H' b=none) E s1) E s
 done:∀(X:Cx),X.prog=P->X.w=w->X.K=K->X.calm=true->∀(i:Nat) (pins:List (Addr × Obj)) (s:Shared) (σ:St) (H:Hp) (E:Value->Shared->Prop),Inv X pins σ H s->(∀ b∈fp,FpOk X pins H b)->tn i s.heap->J.stop i H->
  wpAny (model P w) X.A (pyNext (.ref it)) (fun r s1=>r=none/\Inv X pins σ H s1) E s
 self:∀(A:Around) (i:Nat) (s:Shared) (Q:Value->Shared->Prop) (E:Value->Shared->Prop),tn i s.heap->Q (.ref it) s->wpAny (model P w) A (pyIter (.ref it)) Q E s
abbrev TI:=St->Hp->(It->Hp->Prop)->Prop
def PIE(X:Cx)(pins:List (Addr × Obj))(σ:St)(tg:Expr)(R:It->Hp->Prop)(itv:Value)(s2:Shared):Prop:=
 ∃(it:Addr) (fp:List Addr) (tn:Nat->Heap->Prop) (J:It) (H':Hp),itv=.ref it/\Inv X pins σ H' s2/\Turn X.prog X.w X.K tg J fp it tn/\tn 0 s2.heap/\(∀ b∈fp,FpOk X pins H' b)/\R J H'
def PI(X:Cx)(tg iter:Expr)(wi:TI):Prop:=
 ∀(pins:List (Addr × Obj)) (s:Shared) (σ:St) (H:Hp) (R:It->Hp->Prop),Inv X pins σ H s->wi σ H R->
  wpAny (model X.prog X.w) X.A (eval iter X.env) (fun v s1=>wpAny (model X.prog X.w) X.A (pyIter v) (PIE X pins σ tg R) X.xe s1) X.xe s
theorem zE2{M:Model}{A:Around}{E:Value->Shared->Prop}{s:Shared}{tg:Expr}{it:Addr}{u:Value}{o:Obj}{n:String}{vs:Array Value}{Q:Unit->Shared->Prop}(ho:s.heap.get? it=some o)(hc:o.cls=.type n)(hd:o.data=.fields vs)
  (hn:["enumerate","zip","dict_itemiterator","dict_reverseitemiterator","odict_iterator","itertools.zip_longest","itertools.pairwise"].contains n=false) (hQ:Q () s):wpAny M A (letOwnedTupleGo tg (.ref it) u) Q E s:=by
 unfold letOwnedTupleGo
 cases tg <;> first
  | exact Qb hQ
  | (cases u <;> first
    | exact Qb hQ
    | (refine Qa (wpAny_load ho ?_)
       rw [hc,hd]
       show wpAny M A (if(["enumerate","zip","dict_itemiterator","dict_reverseitemiterator","odict_iterator","itertools.zip_longest","itertools.pairwise"].contains n && vs[0]? == some (rawInt _))=true then _ else _) Q E s
       rw [if_neg (by intro h;rw [hn,Bool.false_and]at h;cases h)]
       exact Qb hQ))
def Itl(K:PySem.W.Frag)(a:Addr):It:=
 ⟨fun i H=>∃ xs x,SqL K H a xs/\xs[i]?=some x,fun i H x H'=>H'=H/\∀ xs,SqL K H a xs->xs[i]?=some x,fun i H=>∃ xs,SqL K H a xs/\xs.length<=i⟩
def Itt(K:PySem.W.Frag)(a:Addr):It:=
 ⟨fun i H=>∃ xs x,SqT K H a xs/\xs[i]?=some x,fun i H x H'=>H'=H/\∀ xs,SqT K H a xs->xs[i]?=some x,fun i H=>∃ xs,SqT K H a xs/\xs.length<=i⟩
def Itr(lo:Int)(n:Nat):It:=⟨fun i _=>i<n,fun i H x H'=>H'=H/\x=.int (lo+i),fun i _=>n<=i⟩
theorem zPF{P:Program}{w:World}{K:PySem.W.Frag}{tg:Expr}(a it:Addr):Turn P w K tg (Itl K a) [it] it (fun i h=>h.IsListIter it a i) where
 mem:=by simp
 obj:=fun i h st b hb=>by
  have e:b=it:=by simpa using hb
  subst e
  obtain⟨o,e,c,d⟩:=st
  exact⟨o,e,fun v z=>by rw [d]at z;cases z⟩
 keep:=fun i h h' st k=>st.at fun o e=>k it (by simp) o e
 item:=by
  intro X hP hw hK hc i pins s σ H E I hf st hg
  subst hP hw hK
  obtain⟨xs,x,hq,hx⟩:=hg
  obtain⟨its,rv,p,hz⟩:=I.list hq
  obtain⟨u,hu,ru⟩:=rv.get hx
  obtain⟨f0,f1,f2,f3,f4,f5⟩:=hf it (by simp)
  refine wpAny_pyNext_list_item st p.isList (x:=u) (by simpa using hu) fun h' st' sb=>?_
  have I1:Inv X pins σ H { s with heap:=h' }:=I.turned (t':=s.toks) (fun b o hb e=>(sb.2 b hb).trans e) f0 f1 f3 f4 f5
  obtain⟨o,e,c,d⟩:=id st'
  exact⟨u,rfl,zE2 (s:={ s with heap:=h' }) e c d (by decide) ⟨x,H,I1,ru,⟨rfl,fun ys hy=>by rw [I.list_inj hy hq];exact hx⟩,st',fun b hb=>(hf b hb).1⟩⟩
 done:=by
  intro X hP hw hK hc i pins s σ H E I hf st hg
  subst hP hw hK
  obtain⟨xs,hq,hx⟩:=hg
  obtain⟨its,rv,p,hz⟩:=I.list hq
  obtain⟨f0,f1,f2,f3,f4,f5⟩:=hf it (by simp)
  have hl:=rv.length
  exact wpAny_pyNext_list_end (I.ok.hd hc) st p.isList (by simp;lia) fun h' eb=>⟨rfl,I.turned (t':=s.toks) (fun b o hb e=>eb b o hb e) f0 f1 f3 f4 f5⟩
 self:=fun _ _ _ _ _ st h=>wpAny_pyIter_listiter st h
theorem zPH{P:Program}{w:World}{K:PySem.W.Frag}{tg:Expr}(a it:Addr):Turn P w K tg (Itt K a) [it] it (fun i h=>h.IsTupleIter it a i) where
 mem:=by simp
 obj:=fun i h st b hb=>by
  have e:b=it:=by simpa using hb
  subst e
  obtain⟨o,e,c,d⟩:=st
  exact⟨o,e,fun v z=>by rw [d]at z;cases z⟩
 keep:=fun i h h' st k=>st.at fun o e=>k it (by simp) o e
 item:=by
  intro X hP hw hK hc i pins s σ H E I hf st hg
  subst hP hw hK
  obtain⟨xs,x,hq,hx⟩:=hg
  obtain⟨its,rv,p,hz⟩:=I.tuple hq
  obtain⟨u,hu,ru⟩:=rv.get hx
  obtain⟨f0,f1,f2,f3,f4,f5⟩:=hf it (by simp)
  refine wpAny_pyNext_tuple_item st (show s.heap.IsTuple a its.toArray from p) (x:=u) (by simpa using hu) fun h' st' sb=>?_
  have I1:Inv X pins σ H { s with heap:=h' }:=I.turned (t':=s.toks) (fun b o hb e=>(sb.2 b hb).trans e) f0 f1 f3 f4 f5
  obtain⟨o,e,c,d⟩:=id st'
  exact⟨u,rfl,zE2 (s:={ s with heap:=h' }) e c d (by decide) ⟨x,H,I1,ru,⟨rfl,fun ys hy=>by rw [I.tuple_inj hy hq];exact hx⟩,st',fun b hb=>(hf b hb).1⟩⟩
 done:=by
  intro X hP hw hK hc i pins s σ H E I hf st hg
  subst hP hw hK
  obtain⟨xs,hq,hx⟩:=hg
  obtain⟨its,rv,p,hz⟩:=I.tuple hq
  obtain⟨f0,f1,f2,f3,f4,f5⟩:=hf it (by simp)
  have hl:=rv.length
  exact wpAny_pyNext_tuple_end (I.ok.hd hc) st (show s.heap.IsTuple a its.toArray from p) (by simp;lia) fun h' eb=>⟨rfl,I.turned (t':=s.toks) (fun b o hb e=>eb b o hb e) f0 f1 f3 f4 f5⟩
 self:=fun _ _ _ _ _ st h=>wpAny_pyIter_tupleiter st h
theorem zPG{P:Program}{w:World}{K:PySem.W.Frag}{tg:Expr}(it:Addr)(lo:Int)(n:Nat):Turn P w K tg (Itr lo n) [it] it (fun i h=>IsRangeIter h it (lo+(i:Nat) * 1) ((n:Int)-(i:Nat)) 1) where
 mem:=by simp
 obj:=fun i h st b hb=>by
  have e:b=it:=by simpa using hb
  subst e
  exact⟨_,st,fun v z=>by
   have z':Data.fields _=Data.cell v:=z
   cases z'⟩
 keep:=fun i h h' st k=>k it (by simp) _ st
 item:=by
  intro X hP hw hK hc i pins s σ H E I hf st hg
  subst hP hw hK
  obtain⟨f0,f1,f2,f3,f4,f5⟩:=hf it (by simp)
  have W:=Walks.range (prog:=X.prog) (w:=X.w) (I.ok.hd hc) it lo 1 n
  refine W.item i s _ _ hg st fun v h' tk hv st' kk=>?_
  obtain⟨t,rfl⟩:=hv
  have I1:Inv X pins σ H { s with heap:=h',toks:=tk }:=I.turned (fun b o hb e=>kk b o (by simpa using hb) e) f0 f1 f3 f4 f5
  refine⟨_,rfl,zE2 (s:={ s with heap:=h',toks:=tk }) (n:="range_iterator") st' rfl rfl (by decide) ⟨.int (lo+i),H,I1,⟨t,?_⟩,⟨rfl,rfl⟩,st',fun b hb=>(hf b hb).1⟩⟩
  rw [Int.mul_one]
 done:=by
  intro X hP hw hK hc i pins s σ H E I hf st hg
  subst hP hw hK
  obtain⟨f0,f1,f2,f3,f4,f5⟩:=hf it (by simp)
  exact wpAny_pyNext_range_end (I.ok.hd hc) st (by have:n<=i:=hg;lia) fun h' eb=>⟨rfl,I.turned (t':=s.toks) (fun b o hb e=>eb b o hb e) f0 f1 f3 f4 f5⟩
 self:=fun _ _ _ _ _ st h=>wpAny_pyIter_rangeiter st h
end L2
namespace L2
open PySem PySem.Spec PyProof.Rows
section
variable {X:Cx}{tg:Expr}
theorem zJ9{pins:List (Addr × Obj)}{σ:St}{H:Hp}{s:Shared}{R:It->Hp->Prop}{E:Value->Shared->Prop}{lo hi:Int}{t u v:Tok}{tk:Nat}(I:Inv X pins σ H s)(h1:-(2 ^ 62)<=lo)(h2:lo<2 ^ 62)(h3:-(2 ^ 62)<=hi)(h4:hi<2 ^ 62)
  (q:R (Itr lo (hi-lo).toNat) H):wpAny (model X.prog X.w) X.A (pyIter (.ref s.heap.objs.size)) (PIE X pins σ tg R) E { s with heap:=s.heap.push { cls:=.type "range",data:=.fields #[.int lo t,.int hi u,.int 1 v] },toks:=tk }:=by
 refine wpAny_pyIter_range (IsRange.new ..) (small_one h1 h2 h3 h4) ?_
 have I1:Inv X pins σ H { s with heap:=s.heap.push { cls:=.type "range",data:=.fields #[.int lo t,.int hi u,.int 1 v] },toks:=tk }:=I.kept fun b o e=>Qd _ e
 refine⟨(s.heap.push { cls:=.type "range",data:=.fields #[.int lo t,.int hi u,.int 1 v] }).objs.size,[(s.heap.push { cls:=.type "range",data:=.fields #[.int lo t,.int hi u,.int 1 v] }).objs.size],_,_,H,rfl,
  I1.kept (t':=tk) fun b o e=>Qd _ e,zPG _ lo (hi-lo).toNat,?_,fun b hb=>?_,q⟩
 ·have e1:lo+((0:Nat):Int) * 1=lo:=by simp
  have e2:(((hi-lo).toNat:Nat):Int)-((0:Nat):Int)=Builtin.Range.rangeSize lo hi 1:=by rw [rangeSize_one];split <;> lia
  show IsRangeIter _ _ (lo+((0:Nat):Int) * 1) ((((hi-lo).toNat:Nat):Int)-((0:Nat):Int)) 1
  rw [e1,e2]
  exact Qu _ rfl
 ·have e:b=(s.heap.push { cls:=.type "range",data:=.fields #[.int lo t,.int hi u,.int 1 v] }).objs.size:=by simpa using hb
  subst e
  exact I1.fpOk (Qi _) (I1.hok.fresh (Qi _))
def iRng1(ta:TA):TI:=fun σ H R=>ta σ H fun vs H1=>∃ j:Int,vs=[.int j]/\-(2 ^ 62)<=j/\j<2 ^ 62/\R (Itr 0 j.toNat) H1
def iRng2(ta:TA):TI:=fun σ H R=>ta σ H fun vs H1=>∃ i j:Int,vs=[.int i,.int j]/\(-(2 ^ 62)<=i/\i<2 ^ 62/\-(2 ^ 62)<=j/\j<2 ^ 62)/\R (Itr i (j-i).toNat) H1
theorem zOm{a:Expr}{ta:TA}{p pos:Pos}(hg:Gl X "range")(hm:X.mg "range"=none)(ha:PA X [a] ta)(hs:starEach [a] X.env=[(false,eval a X.env)]:=by rfl):PI X tg (.Call (.Name "range" p) [a] [] pos) (iRng1 ta):=by
 intro pins s σ H R I h
 refine Call_ (zBT I hg hm boot_range (Q3 (thn (ha pos pins s σ H _ I h) fun us s1 ⟨vs,H1,I1,r1,q1⟩=>?_) hs rfl))
 obtain⟨j,e,q1,q2,q⟩:=q1
 subst e
 cases r1 with
 | cons r rr=>
  cases rr
  obtain⟨t,rfl⟩:=r
  exact call_range_1 (zJ9 I1 (by lia) (by lia) q1 q2 (by simpa using q))
theorem zOn{a b:Expr}{ta:TA}{p pos:Pos}(hg:Gl X "range")(hm:X.mg "range"=none)(ha:PA X [a,b] ta)(hs:starEach [a,b] X.env=[(false,eval a X.env),(false,eval b X.env)]:=by rfl)(hs2:starEach [b] X.env=[(false,eval b X.env)]:=by rfl):
  PI X tg (.Call (.Name "range" p) [a,b] [] pos) (iRng2 ta):=by
 intro pins s σ H R I h
 refine Call_ (zBT I hg hm boot_range (Q3 (thn (ha pos pins s σ H _ I h) fun us s1 ⟨vs,H1,I1,r1,q1⟩=>?_) (by rw [hs,hs2]) (by rw [hs2];rfl)))
 obtain⟨i,j,e,⟨q1,q2,q3,q4⟩,q⟩:=q1
 subst e
 cases r1 with
 | cons r rr=>
  cases rr with
  | cons r' rr=>
   cases rr
   obtain⟨t,rfl⟩:=r
   obtain⟨t',rfl⟩:=r'
   exact call_range_2 (zJ9 I1 q1 q2 q3 q4 q)
def tFor(wi:TI)(g:TG)(tb:TS):TS:=fun D σ H=>wi σ H fun J H1=>∃ W:Nat->Nat->St->Hp->Prop,(∃ m,W 0 m σ H1)/\∀ i m σ H,W i m σ H->
 (J.stop i H/\D.nx σ H) ∨ (J.go i H/\∃ N:St->Hp->Prop,(∀ σ' H',N σ' H'->∃ m',m'<m/\W (i+1) m' σ' H')/\∀ x H',J.yld i H x H'->g x σ H' fun σ2 H2=>tb { D with nx:=N,ct:=N,bk:=D.nx } σ2 H2)
def zEv(fp:List Addr)(h:Heap):List (Addr × Obj):=fp.filterMap fun b=>(h.get? b).map fun o=>(b,o)
theorem zFt{fp:List Addr}{h:Heap}{b:Addr}{o:Obj}(hb:b∈fp)(e:h.get? b=some o):(b,o)∈zEv fp h:=List.mem_filterMap.mpr ⟨b,hb,by rw [e];rfl⟩
theorem zNJ{fp:List Addr}{h:Heap}{p:Addr × Obj}(hp:p∈zEv fp h):p.1∈fp/\h.get? p.1=some p.2:=by
 obtain⟨b,hb,e⟩:=List.mem_filterMap.mp hp
 cases q:h.get? b with
 | none=>rw [q]at e;cases e
 | some o=>
  rw [q]at e
  have e':(b,o)=p:=Qy e
  subst e'
  exact⟨hb,q⟩
theorem Inv.pinned{pins:List (Addr × Obj)}{σ:St}{H:Hp}{s:Shared}{fp:List Addr}(I:Inv X pins σ H s)(hf:∀ b∈fp,FpOk X pins H b)(ho:∀ b∈fp,∃ o,s.heap.get? b=some o/\∀ v,o.data≠.cell v):Inv X (pins++zEv fp s.heap) σ H s:=
 I.pins_of fun p hp=>(QD.mp hp).elim (fun z=>I.pin p (Qz _ z)) fun z=>by
  obtain⟨hb,e⟩:=zNJ z
  obtain⟨f0,f1,f2,_⟩:=hf p.1 hb
  obtain⟨o,e',d⟩:=ho p.1 hb
  rw [e]at e';cases e'
  exact⟨e,f0,f1,f2,d⟩
theorem Inv.unpinned{pins pl:List (Addr × Obj)}{σ:St}{H:Hp}{s:Shared}(I:Inv X (pins++pl) σ H s):Inv X pins σ H s:=I.pins_of fun p hp=>I.pin p (Qz _ (Q9 _ hp))
theorem zJ5{iter:Expr}{body:List Stmt}{wi:TI}{g:TG}{tb:TS}{pos:Pos}(hp:PassesOwn (model X.prog X.w) X.A X.env X.xe)(hc:X.calm=true)(hi:PI X tg iter wi)(hg:PG X tg g)(hb:PSs X body tb)
  (hs:∀ x,foldedSetIterable iter X.env x=pure x:=by intro _;rfl):PS X (.For tg iter body [] pos) (tFor wi g tb):=by
 intro pins s σ H D I h
 refine wpAny_For (thn (hi pins s σ H _ I h) fun v s1 h1=>thn h1 fun itv s2 h2=>?_) hs
 obtain⟨it,fp,tn,J,H2,e,I2,T,st2,f2,W,⟨m0,w0⟩,turn⟩:=h2
 subst e
 have stat:∀{H':Hp},(∀ b∈fp,H' b=none)->∀ b∈fp,FpOk X pins H' b:=fun hn b hb=>⟨hn b hb,(f2 b hb).2⟩
 refine codeAny_forLoop_any (fun n s'=>∃ i σ' H',Inv X pins σ' H' s'/\tn i s'.heap/\(∀ b∈fp,H' b=none)/\W i n σ' H') ?_ m0 ⟨0,σ,H2,I2,st2,fun b hb=>(f2 b hb).1,w0⟩
 rintro n s3 ⟨i,σ3,H3,I3,st3,fr3,w3⟩
 rcases turn i n σ3 H3 w3 with⟨stop,qn⟩ | ⟨go,N,hN,step⟩
 ·refine YT hp (thn (T.done X rfl rfl rfl hc i pins s3 σ3 H3 X.xe I3 (stat fr3) st3 stop) fun r s4 zz=>?_)
  obtain⟨hr,I4⟩:=zz
  subst hr
  exact wpAny_execs_nil ⟨σ3,H3,I4,qn⟩
 ·refine YT hp (thn (T.item X rfl rfl rfl hc i pins s3 σ3 H3 X.xe I3 (stat fr3) st3 go) fun r s4 zz=>?_)
  obtain⟨u,hr,h4⟩:=zz
  subst hr
  refine YT hp (thn h4 fun _ s5 zz=>?_)
  obtain⟨x,H5,I5,r5,y5,st5,fr5⟩:=zz
  have I5':=I5.pinned (stat fr5) (T.obj _ _ st5)
  refine YT hp (thn (hg _ s5 σ3 H5 x u _ I5' r5 (step x H5 y5)) fun _ s6 zz=>?_)
  obtain⟨σ6,H6,I6,q6⟩:=zz
  refine YT hp (thn (hb _ s6 σ6 H6 _ I6 q6) fun f s7 q7=>?_)
  have again:∀{σ7:St}{H7:Hp},Inv X (pins++zEv fp s5.heap) σ7 H7 s7->N σ7 H7->∃ m,m<n/\∃ i σ' H',Inv X pins σ' H' s7/\tn i s7.heap/\(∀ b∈fp,H' b=none)/\W i m σ' H':=fun{σ7 H7} I7 n7=>by
   obtain⟨m',hm,w7⟩:=hN σ7 H7 n7
   refine⟨m',hm,i+1,σ7,H7,I7.unpinned,T.keep _ _ _ st5 fun b hb o e=>(I7.pin (b,o) (Qz _ (Qz _ (zFt hb e)))).1,fun b hb=>?_,w7⟩
   obtain⟨o,e,d⟩:=T.obj _ _ st5 b hb
   exact(I7.pin (b,o) (Qz _ (Qz _ (zFt hb e)))).2.1
  cases f with
  | next=>obtain⟨σ7,H7,I7,n7⟩:=q7;exact again I7 n7
  | cont=>obtain⟨σ7,H7,I7,n7⟩:=q7;exact again I7 n7
  | brk=>obtain⟨σ7,H7,I7,q7⟩:=q7;exact⟨σ7,H7,I7.unpinned,q7⟩
  | ret v=>obtain⟨x7,σ7,H7,I7,r7,q7⟩:=q7;exact⟨x7,σ7,H7,I7.unpinned,r7,q7⟩
end
end L2
namespace L2
open PySem PySem.Spec PyProof.Rows
abbrev R2:=V->V->Hp->VK->Prop
def OpR(X:Cx)(f:Value->Value->Sem Value)(r:R2):Prop:=
 ∀(pins:List (Addr × Obj)) (s:Shared) (σ:St) (H:Hp) (x y:V) (v u:Value) (Q:VK),Inv X pins σ H s->RelV x v->RelV y u->r x y H Q->
  wpAny (model X.prog X.w) X.A (f v u) (EP X pins σ Q) X.xe s
def UnR(X:Cx)(f:Value->Sem Value)(r:V->Hp->VK->Prop):Prop:=
 ∀(pins:List (Addr × Obj)) (s:Shared) (σ:St) (H:Hp) (x:V) (v:Value) (Q:VK),Inv X pins σ H s->RelV x v->r x H Q->
  wpAny (model X.prog X.w) X.A (f v) (EP X pins σ Q) X.xe s
def zA0(X:Cx)(f:Value)(r:List V->Hp->VK->Prop):Prop:=
 ∀(pins:List (Addr × Obj)) (s:Shared) (σ:St) (H:Hp) (xs:List V) (us:List Value) (Q:VK),Inv X pins σ H s->Vals xs us->r xs H Q->
  wpAny (model X.prog X.w) X.A (call f us) (EP X pins σ Q) X.xe s
def tOp(r:R2)(ta tb:TE):TE:=fun σ H Q=>ta σ H fun x H1=>tb σ H1 fun y H2=>r x y H2 Q
def tUn(r:V->Hp->VK->Prop)(ta:TE):TE:=fun σ H Q=>ta σ H fun x H1=>r x H1 Q
def rI(C:Int->Int->Prop)(g:Int->Int->V):R2:=fun x y H Q=>∃ i j,x=.int i/\y=.int j/\C i j/\Q (g i j) H
def rI0(g:Int->Int->V):R2:=fun x y H Q=>∃ i j,x=.int i/\y=.int j/\Q (g i j) H
def rU(g:Int->V):V->Hp->VK->Prop:=fun x H Q=>∃ i,x=.int i/\Q (g i) H
section
variable {X:Cx}{a b c:Expr}{ta tb tc:TE}{pos:Pos}
theorem binT(ha:PE X a ta)(hb:PE X b tb){pins:List (Addr × Obj)}{s:Shared}{σ:St}{H:Hp}{R:V->V->Hp->Prop}(I:Inv X pins σ H s)
  (h:ta σ H fun x H1=>tb σ H1 fun y H2=>R x y H2) {Q:Value->Shared->Prop}{f:Value->Value->Sem Value}
  (hf:∀ v u s2 x y H2,Inv X pins σ H2 s2->RelV x v->RelV y u->R x y H2->wpAny (model X.prog X.w) X.A (f v u) Q X.xe s2):
  wpAny (model X.prog X.w) X.A (eval a X.env) (fun v s₁=>wpAny (model X.prog X.w) X.A (eval b X.env) (fun u s₂=>wpAny (model X.prog X.w) X.A (f v u) Q X.xe s₂) X.xe s₁) X.xe s:=by
 refine thn (ha pins s σ H _ I h) fun v s1 zz=>?_
 obtain⟨x,H1,I1,r1,q1⟩:=zz
 refine thn (hb pins s1 σ H1 _ I1 q1) fun u s2 zz=>?_
 obtain⟨y,H2,I2,r2,q2⟩:=zz
 exact hf v u s2 x y H2 I2 r1 r2 q2
theorem pe_op{op:Operator}{r:R2}(ho:OpR X (binaryOp op) r)(ha:PE X a ta)(hb:PE X b tb):PE X (.BinOp a op b pos) (tOp r ta tb):=by
 intro pins s σ H Q I h
 exact wpAny_BinOp (binT ha hb I h fun v u s2 x y H2 I2 rx ry q=>ho pins s2 σ H2 x y v u Q I2 rx ry q)
theorem pe_un{op:UnaryOp}{r:V->Hp->VK->Prop}(ho:UnR X (unaryOp op) r)(ha:PE X a ta):PE X (.UnaryOp op a pos) (tUn r ta):=by
 intro pins s σ H Q I h
 exact UnaryOp_ (thn (ha pins s σ H _ I h) fun v s1 ⟨x,H1,I1,r1,q1⟩=>ho pins s1 σ H1 x v Q I1 r1 q1)
theorem opI{f:Value->Value->Sem Value}{C:Int->Int->Prop}{g:Int->Int->Int}
  (rule:∀(i j:Int) (t u:Tok) (s:Shared) (Q:Value->Shared->Prop) (E:Value->Shared->Prop),C i j->Q (.int (g i j) s.toks) { s with toks:=s.toks+1 }->wpAny (model X.prog X.w) X.A (f (.int i t) (.int j u)) Q E s):
  OpR X f (rI C fun i j=>.int (g i j)):=by
 intro pins s σ H x y v u Q I rx ry h
 obtain⟨i,j,rfl,rfl,hc,q⟩:=h
 obtain⟨t,rfl⟩:=rx
 obtain⟨t',rfl⟩:=ry
 exact rule i j t t' s _ _ hc ⟨.int (g i j),H,I.tok _,⟨_,rfl⟩,q⟩
theorem opI0{f:Value->Value->Sem Value}{g:Int->Int->Int}
  (rule:∀(i j:Int) (t u:Tok) (s:Shared) (Q:Value->Shared->Prop) (E:Value->Shared->Prop),Q (.int (g i j) s.toks) { s with toks:=s.toks+1 }->wpAny (model X.prog X.w) X.A (f (.int i t) (.int j u)) Q E s):
  OpR X f (rI0 fun i j=>.int (g i j)):=by
 intro pins s σ H x y v u Q I rx ry h
 obtain⟨i,j,rfl,rfl,q⟩:=h
 obtain⟨t,rfl⟩:=rx
 obtain⟨t',rfl⟩:=ry
 exact rule i j t t' s _ _ ⟨.int (g i j),H,I.tok _,⟨_,rfl⟩,q⟩
theorem opB0{f:Value->Value->Sem Value}{g:Int->Int->Bool}
  (rule:∀(i j:Int) (t u:Tok) (s:Shared) (Q:Value->Shared->Prop) (E:Value->Shared->Prop),Q (.bool (g i j)) s->wpAny (model X.prog X.w) X.A (f (.int i t) (.int j u)) Q E s):
  OpR X f (rI0 fun i j=>.bl (g i j)):=by
 intro pins s σ H x y v u Q I rx ry h
 obtain⟨i,j,rfl,rfl,q⟩:=h
 obtain⟨t,rfl⟩:=rx
 obtain⟨t',rfl⟩:=ry
 exact rule i j t t' s _ _ ⟨.bl (g i j),H,I,rfl,q⟩
def CDiv(i j:Int):Prop:=0<j/\j<1073741824
def CMul(i j:Int):Prop:=(-(2 ^ 64)<i/\i<2 ^ 64) ∨ (-(2 ^ 64)<j/\j<2 ^ 64)
theorem CMul.ok{i j:Int}(h:CMul i j):IntMulOk i j:=by
 rcases h with⟨h1,h2⟩ | ⟨h1,h2⟩
 ·exact .of_left (intBits_le_64 h1 h2)
 ·exact .of_right (intBits_le_64 h1 h2)
theorem zNW:OpR X (binaryOp .Add) (rI0 fun i j=>.int (i+j)):=opI0 fun _ _ _ _ _ _ _ q=>add_int q
theorem zN2:OpR X (binaryOp .Sub) (rI0 fun i j=>.int (i-j)):=opI0 fun _ _ _ _ _ _ _ q=>sub_int q
theorem zN1:OpR X (binaryOp .Mult) (rI CMul fun i j=>.int (i * j)):=opI fun _ _ _ _ _ _ _ hc q=>mul_int q hc.ok
theorem zNY:OpR X (binaryOp .FloorDiv) (rI CDiv fun i j=>.int (i / j)):=opI fun i j _ _ _ _ _ hc q=>by
 have h1:(0:Int)<j:=hc.1
 have h2:j<1073741824:=hc.2
 exact floordiv_int (by lia) (by rw [Int.fdiv_eq_ediv_of_nonneg i (by lia)];exact q) (.inl (PyProof.noPylong_small (by lia)))
theorem zN0:OpR X (binaryOp .Mod) (rI (fun _ j=>0<j) fun i j=>.int (i % j)):=opI fun i j _ _ _ _ _ hc q=>by
 have h1:(0:Int)<j:=hc
 exact mod_int' (by lia) (by rw [Int.fmod_eq_emod_of_nonneg i (by lia)];exact q)
theorem unI{f:Value->Sem Value}{g:Int->Int}
  (rule:∀(i:Int) (t:Tok) (s:Shared) (Q:Value->Shared->Prop) (E:Value->Shared->Prop),Q (.int (g i) s.toks) { s with toks:=s.toks+1 }->wpAny (model X.prog X.w) X.A (f (.int i t)) Q E s):
  UnR X f (rU fun i=>.int (g i)):=by
 intro pins s σ H x v Q I rx h
 obtain⟨i,rfl,q⟩:=h
 obtain⟨t,rfl⟩:=rx
 exact rule i t s _ _ ⟨.int (g i),H,I.tok _,⟨_,rfl⟩,q⟩
theorem zPK:UnR X (unaryOp .USub) (rU fun i=>.int (-i)):=unI fun _ _ _ _ _ q=>neg_int q
end
section
variable {X:Cx}{a b c:Expr}{ta tb tc:TE}{pos:Pos}
theorem op_lt:OpR X (compareOp .Lt) (rI0 fun i j=>.bl (decide (i<j))):=opB0 fun _ _ _ _ _ _ _ q=>lt_int q
theorem op_le:OpR X (compareOp .LtE) (rI0 fun i j=>.bl (decide (i<=j))):=opB0 fun _ _ _ _ _ _ _ q=>le_int q
theorem op_gt:OpR X (compareOp .Gt) (rI0 fun i j=>.bl (decide (j<i))):=opB0 fun _ _ _ _ _ _ _ q=>gt_int q
theorem OpR.or{f:Value->Value->Sem Value}{r r':R2}(h:OpR X f r)(h':OpR X f r'):OpR X f (fun x y H Q=>r x y H Q ∨ r' x y H Q):=by
 intro pins s σ H x y v u Q I rx ry q
 rcases q with q | q
 ·exact h pins s σ H x y v u Q I rx ry q
 ·exact h' pins s σ H x y v u Q I rx ry q
theorem zAx(b:Expr){op:CmpOp}(h:op≠.In:=by decide)(h2:op≠.NotIn:=by decide):behindInMarks op b=false:=by
 have e1:(op == CmpOp.In)=false:=by cases op <;> first | rfl | exact absurd rfl h
 have e2:(op == CmpOp.NotIn)=false:=by cases op <;> first | rfl | exact absurd rfl h2
 cases b <;> simp [behindInMarks,e1,e2]
theorem zJV{op:CmpOp}{r:R2}(ho:OpR X (compareOp op) r)(ha:PE X a ta)(hb:PE X b tb)(hm:behindInMarks op b=false):PE X (.Compare a [op] [b] pos) (tOp r ta tb):=by
 intro pins s σ H Q I h
 exact wpAny_Compare1 (binT ha hb I h fun v u s2 x y H2 I2 rx ry q=>ho pins s2 σ H2 x y v u Q I2 rx ry q) hm
def zHH(t:TE):TT:=fun σ H Q=>t σ H fun x H'=>∃ k,x=.bl k/\Q k H'
theorem zHh{op:CmpOp}{r:R2}(ho:OpR X (compareOp op) r)(ha:PE X a ta)(hb:PE X b tb)(hm:behindInMarks op b=false):PT X (.Compare a [op] [b] pos) (zHH (tOp r ta tb)):=by
 intro pins s σ H Q I h
 refine wpAny_isTrue_Compare1 (thn (ha pins s σ H _ I h) fun v s1 ⟨x,H1,I1,r1,q1⟩=>thn (hb pins s1 σ H1 _ I1 q1) fun u s2 ⟨y,H2,I2,r2,q2⟩=>
  thn (ho pins s2 σ H2 x y v u _ I2 r1 r2 q2) fun c s3 ⟨z,H3,I3,r3,k,e,q3⟩=>?_) hm
 subst e
 cases r3
 exact YC ⟨H3,I3,q3⟩
def zKF(r r':R2)(ta tb tc:TE):TE:=fun σ H Q=>ta σ H fun x H1=>tb σ H1 fun y H2=>r x y H2 fun z H3=>∃ k,z=.bl k /\
 (if k=true then tc σ H3 fun w' H4=>r' y w' H4 Q else Q (.bl false) H3)
theorem zOc{op op':CmpOp}{r r':R2}(ho:OpR X (compareOp op) r)(ho':OpR X (compareOp op') r')(ha:PE X a ta)(hb:PE X b tb)(hc:PE X c tc)
  (hm:lastMarks [op,op'] [b,c]=false:=by with_unfolding_all rfl):PE X (.Compare a [op,op'] [b,c] pos) (zKF r r' ta tb tc):=by
 intro pins s σ H Q I h
 refine Compare_chain (thn (ha pins s σ H _ I h) fun v s1 ⟨x,H1,I1,r1,q1⟩=>chain_link (thn (hb pins s1 σ H1 _ I1 q1) fun u s2 ⟨y,H2,I2,r2,q2⟩=>
  thn (ho pins s2 σ H2 x y v u _ I2 r1 r2 q2) fun d s3 ⟨z,H3,I3,r3,k,e,q3⟩=>?_)) hm
 subst e
 cases r3
 refine YC ?_
 cases k with
 | false=>exact ite_ff ⟨.bl false,H3,I3,rfl,q3⟩
 | true=>exact ite_tt (chain_last (thn (hc pins s3 σ H3 _ I3 q3) fun w' s4 ⟨z',H4,I4,r4,q4⟩=>ho' pins s4 σ H4 y z' u w' Q I4 r2 r4 q4))
theorem zGV:(sizeLine:Nat)<2 ^ 63:=by rw [Ya];decide
theorem zCf{x:V}{us:List Value}(r:Vals [x] us):∃ u,us=[u]/\RelV x u:=by
 cases r with
 | cons r1 r2=>cases r2;exact⟨_,rfl,r1⟩
theorem vals2{x y:V}{us:List Value}(r:Vals [x,y] us):∃ u w',us=[u,w']/\RelV x u/\RelV y w':=by
 cases r with
 | cons r1 r2=>
  cases r2 with
  | cons r3 r4=>cases r4;exact⟨_,_,rfl,r1,r3⟩
theorem zLm:zA0 X (.builtin "abs") (fun xs H Q=>∃ i,xs=[.int i]/\Q (.int (if i<0 then -i else i)) H):=by
 intro pins s σ H xs us Q I r h
 obtain⟨i,rfl,q⟩:=h
 obtain⟨u,rfl,t,rfl⟩:=zCf r
 exact call_abs_int fun u tk=>⟨.int (if i<0 then -i else i),H,I.tok _,⟨_,rfl⟩,q⟩
end
end L2
namespace L2
open PySem PySem.Spec PyProof.Rows
structure ObjM(h:Heap)(x dx C:Addr)(mA:Str->Option Value):Prop where
 obj:h.get? x=some (PySem.W.instObj C dx)
 ns:h.Ns1 dx mA
 ne:dx≠x
theorem zM8{h:Heap}{dx:Addr}{mA:Str->Option Value}(n:h.Ns1 dx mA):∃ od,h.get? dx=some od/\∀ name,PySem.W.lookIn name od=some (mA name):=by
 obtain⟨o,es,ep,ho,hd,hk,_,hm⟩:=n
 refine⟨o,ho,fun name=>?_⟩
 have e:=hm name
 unfold nsFind findBy at e
 rw [<- Array.find?_toList]at e
 unfold PySem.W.lookIn
 rw [hd]
 dsimp only
 split
 ·rename_i y q
  rw [q]at e
  exact congrArg some e
 ·rename_i q
  rw [q]at e
  have a:es.toList.any (·.refKey)=false:=by
   rw [List.any_eq_false]
   intro y hy
   obtain⟨z,t,hkey⟩:=hk y (Array.mem_toList_iff.mp hy)
   simp [DictEntry.refKey,hkey]
  have a':¬ es.toList.any (·.refKey)=true:=by rw [a];exact Qr
  rw [if_neg a']
  exact congrArg some e
theorem ObjM.look{h:Heap}{x dx C:Addr}{mA:Str->Option Value}(I:ObjM h x dx C mA):∃ od,PySem.W.InstAt h x (PySem.W.instObj C dx) C (some od)/\∀ name,PySem.W.lookIn name od=some (mA name):=
 let⟨od,ho,hl⟩:=zM8 I.ns
 ⟨od,⟨I.obj,rfl,rfl,ho⟩,hl⟩
section
variable {prog:Program}{w:World}{A:Around}{E:Value->Shared->Prop}{s:Shared}{K:PySem.W.Frag}{x dx C f:Addr}{mA:Str->Option Value}{name:Str}{v:Value}
theorem zMq{expr:Bool}{Q:Value->Shared->Prop}(X:K.In s.heap)(I:ObjM s.heap x dx C mA)(hg:PySem.W.plainGet K C name=true)(hh:PySem.W.hasDictIn K C=true)
  (ha:PySem.W.findIn K (.ref C) name=some none) (hv:mA name=some v) (hv':PySem.W.handedIn v=true) (h:Q v { s with toks:=s.toks+1 }):
  wpAny (model prog w) A (getAttr (.ref x) name expr) Q E s:=by
 obtain⟨od,J,hl⟩:=I.look
 exact PySem.W.get_value X J (PySem.W.plainGet_of hg).1 (PySem.W.findObj_own hh ha rfl (by rw [hl,hv])) hv' h
theorem zMr{pl:Sem Bool}{Q:Value × List Value->Shared->Prop}(X:K.In s.heap)(I:ObjM s.heap x dx C mA)(hg:PySem.W.plainGet K C name=true)
  (hf:PySem.W.findIn K (.ref C) name=some (some (.ref f))) (ht:PySem.W.isFn K (.ref f)=true) (hv:mA name=none) (h:Q (.ref f,[.ref x]) s):
  wpAny (model prog w) A (getMethod (.ref x) name pl) Q E s:=by
 obtain⟨od,J,hl⟩:=I.look
 exact PySem.W.method_fn X J (PySem.W.plainGet_of hg).1 (PySem.W.plainGet_of hg).2 hf (beq_iff_eq.mp ht) (by show(PySem.W.lookIn name od).map (·.isSome)=some false;rw [hl,hv];rfl) h
theorem zO3{ns:List Str}{Q:Unit->Shared->Prop}(X:K.In s.heap)(I:ObjM s.heap x dx C mA)
  (hs:PySem.W.findIn K (.ref C) "__setattr__"=some (some (.builtin "object.__setattr__"))) (hp:PySem.W.plainOver K C=true) (ht:PySem.W.takerIn K C name=some none) (hh:PySem.W.hasDictIn K C=true)
  (hw:PySem.Within mA ns) (hsz:ns.length<=sizeLine)
  (h:∀ h',ObjM h' x dx C (fun y=>if y=name then some v else mA y)->Heap.SameBut dx s.heap h'->Q () { s with heap:=h',toks:=s.toks+2 }):
  wpAny (model prog w) A (setAttr (.ref x) name v) Q E s:=by
 obtain⟨od,J,hl⟩:=I.look
 refine PySem.W.set_plain X J hs (PySem.W.osa_open (s:={ s with toks:=s.toks+1 }) (r:=none) X J hp ht fun b=>?_)
 obtain⟨cd,hc,hd'⟩:=PySem.W.any_some hh
 have hx:s.heap.get? x=some ⟨.ref C,some dx,.plain,#[]⟩:=I.obj
 refine Qa (Qb (Qa (Qa (wpAny_loadPart hx (Qa (PySem.W.Looks.here (s:={ s with toks:=s.toks+1 }) (PySem.W.looks_clsIn X hc) ?_))))))
 rw [hd']
 refine Qb (a:=some dx) (Qa (Qb (Qa ?_)))
 refine wpAny_nsSet1 (s:={ s with toks:=s.toks+1 }) I.ns fun h' hn2 hs2=>?_
 obtain⟨oD,esD,epD,hoD,hdD,hcD⟩:=hn2.count (PySem.Within.cons name v hw)
 refine Qa (wpAny_lookBehind hoD (by rw [hdD];exact pastItsLine_dict (QI hcD (by rw [Qw];lia))) ?_)
 exact Qb (h _ ⟨(hs2.2 _ (Ne.symm I.ne)).trans I.obj,hn2,I.ne⟩ hs2)
theorem zNa{R:Result->Shared->Prop}{vs:List Value}{kw:List (Str × Value)}(X:K.In s.heap)(hm:PySem.W.makesIn K C=true)
  (hi:PySem.W.findIn K (.ref C) "__init__"=some (some (.ref f))) (hf:PySem.W.typeIn K (.ref f)=some (.type "function"))
  (h:codeAny (model prog w) (A.under (.builtin "type.__call__" ⟨.ref C::vs,kw⟩)) (.call (.ref f) ⟨.ref (s.heap.objs.size+1)::vs,kw⟩) (PySem.W.InitBack (s.heap.objs.size+1) R)
   { s with heap:=(s.heap.push PySem.W.emptyDict).push (PySem.W.instObj C s.heap.objs.size) }):
  codeAny (model prog w) A (.call (.ref C) ⟨vs,kw⟩) R s:=by
 obtain⟨hh,g,d,t,os⟩:=s
 exact PySem.W.make_core (PySem.W.makes_of X hm) (PySem.W.looks_findIn X hi) (fun self=>PySem.W.bind_fn X self hf) (.inl rfl) h
end
def putF(f:Str)(v:V):List (Str × V)->List (Str × V)
 | []=>[(f,v)]
 | (g,x)::r=>if g=f then(g,v)::r else(g,x)::putF f v r
theorem zGW(f g:Str)(v:V):∀ fs:List (Str × V),(putF f v fs).lookup g=if g=f then some v else fs.lookup g
 | []=>by
  show List.lookup g [(f,v)]=_
  by_cases h:g=f
  ·have hb:(g == f)=true:=beq_iff_eq.mpr h
   simp only [List.lookup,hb,if_pos h]
  ·have hb:(g == f)=false:=beq_eq_false_iff_ne.mpr h
   simp only [List.lookup,hb,if_neg h]
 | (k,x)::r=>by
  have ih:=zGW f g v r
  rw [show putF f v ((k,x)::r)=(if k=f then(k,v)::r else(k,x)::putF f v r)from rfl]
  by_cases hk:k=f
  ·rw [if_pos hk]
   by_cases h:g=k
   ·have hb:(g == k)=true:=beq_iff_eq.mpr h
    simp only [List.lookup,hb,if_pos (h.trans hk)]
   ·have hb:(g == k)=false:=beq_eq_false_iff_ne.mpr h
    simp only [List.lookup,hb,if_neg (fun e:g=f=>h (e.trans hk.symm))]
  ·rw [if_neg hk]
   by_cases h:g=k
   ·have hb:(g == k)=true:=beq_iff_eq.mpr h
    simp only [List.lookup,hb,if_neg (fun e:g=f=>hk (h.symm.trans e))]
   ·have hb:(g == k)=false:=beq_eq_false_iff_ne.mpr h
    simp only [List.lookup,hb]
    exact ih
theorem zGT(f:Str)(v:V):∀ fs:List (Str × V),f∈(putF f v fs).map (·.1)/\∀ g,g∈fs.map (·.1)->g∈(putF f v fs).map (·.1)
 | []=>⟨by simp [putF],fun g h=>by simp at h⟩
 | (k,x)::r=>by
  obtain⟨i1,i2⟩:=zGT f v r
  rw [show putF f v ((k,x)::r)=(if k=f then(k,v)::r else(k,x)::putF f v r)from rfl]
  by_cases hk:k=f
  ·rw [if_pos hk]
   subst hk
   exact⟨by simp,fun g h=>by simpa using h⟩
  ·rw [if_neg hk]
   refine⟨?_,fun g h=>?_⟩
   ·rw [Qq]
    exact Qe _ i1
   ·rw [Qq]at h ⊢
    rcases Qh.mp h with e | e
    ·exact Qh.mpr (.inl e)
    ·exact Qe _ (i2 g e)
theorem zJm(f:Str)(v:V):∀ fs:List (Str × V),(putF f v fs).length<=fs.length+1
 | []=>by simp [putF]
 | (k,x)::r=>by
  have ih:=zJm f v r
  rw [show putF f v ((k,x)::r)=(if k=f then(k,v)::r else(k,x)::putF f v r)from rfl]
  by_cases hk:k=f
  ·rw [if_pos hk,Qw,Qw];lia
  ·rw [if_neg hk,Qw,Qw];lia
theorem RelO.some_of{v:V}{o:Option Value}(r:RelO (some v) o):∃ u,o=some u/\RelV v u:=by
 cases o with
 | none=>exact(show False from r).elim
 | some u=>exact⟨u,rfl,r⟩
theorem RelO.none_of{o:Option Value}(r:RelO none o):o=none:=by
 cases o with
 | none=>rfl
 | some u=>exact(show False from r).elim
theorem zMy{v:V}{u:Value}(r:RelV v u):PySem.W.handedIn u=true:=by
 cases v with
 | non=>cases(show u=Value.none from r);rfl
 | bl b=>cases(show u=Value.bool b from r);rfl
 | int i=>obtain⟨t,e⟩:=(show ∃ t,u=Value.int i t from r);cases e;rfl
 | str x=>obtain⟨t,e⟩:=(show ∃ t,u=Value.str x t from r);cases e;rfl
 | byt b=>obtain⟨t,e⟩:=(show ∃ t,u=Value.bytes b t from r);cases e;rfl
 | flt b=>obtain⟨t,e⟩:=(show ∃ t,u=Value.float b t from r);cases e;rfl
 | ref a=>cases(show u=Value.ref a from r);rfl
 | ty n=>cases(show u=Value.type n from r);rfl
section
variable {P:Program}{w:World}{H H':Hp}{h h':Heap}{a C dx:Addr}{fs fs':List (Str × V)}
theorem zGP(hok:HOk P w H h)(e:H a=some (.ins C dx fs)):∃ mA,ObjM h a dx C mA/\(∀ f,RelO (fs.lookup f) (mA f))/\PySem.Within mA (fs.map (·.1))/\fs.length<=1000/\H dx=some (.own a):=by
 obtain⟨d,z,ne,ob,mA,n,r,q⟩:=(show zA1 P w H h a (.ins C dx fs)from hok a _ e)
 exact⟨mA,⟨ob,n,ne⟩,r,q,z,d⟩
end
structure Cls(K:PySem.W.Frag)(C:Addr):Prop where
 pg:PySem.W.plainGet K C Str.empty=true
 hd:PySem.W.hasDictIn K C=true
 po:PySem.W.plainOver K C=true
 sa:PySem.W.findIn K (.ref C) "__setattr__"=some (some (.builtin "object.__setattr__"))
theorem Cls.get{K:PySem.W.Frag}{C:Addr}(c:Cls K C)(f:Str):PySem.W.plainGet K C f=true:=c.pg
def zB0(K:PySem.W.Frag)(C:Addr)(f:Str):Prop:=PySem.W.findIn K (.ref C) f=some none
theorem zB0.taker{K:PySem.W.Frag}{C:Addr}{f:Str}(n:zB0 K C f):PySem.W.takerIn K C f=some none:=by
 unfold PySem.W.takerIn
 rw [show PySem.W.findIn K (.ref C) f=some none from n]
 rfl
structure Meth(K:PySem.W.Frag)(C:Addr)(m:Str)(f:Addr):Prop where
 at_:PySem.W.findIn K (.ref C) m=some (some (.ref f))
 fn:PySem.W.isFn K (.ref f)=true
 kp:PySem.W.keepIn K (.ref f)=true
section
variable {X:Cx}{pins:List (Addr × Obj)}{σ:St}{H:Hp}{s:Shared}{a C dx:Addr}{fs:List (Str × V)}{f:Str}{v:V}{A:Around}{E:Value->Shared->Prop}
theorem zMs{b:Bool}{Q:Value->Shared->Prop}(I:Inv X pins σ H s)(e:H a=some (.ins C dx fs))(c:Cls X.K C)(n:zB0 X.K C f)(l:fs.lookup f=some v)
  (h:∀ u s',Inv X pins σ H s'->RelV v u->Q u s'):wpAny (model X.prog X.w) A (getAttr (.ref a) f b) Q E s:=by
 obtain⟨mA,O,r,_,_,_⟩:=zGP I.hok e
 obtain⟨u,hu,ru⟩:=RelO.some_of (v:=v) (o:=mA f) (by rw [<- l];exact r f)
 exact zMq I.kIn O (c.get f) c.hd n hu (zMy ru) (h u _ (I.tok _) ru)
theorem zIN{m:Str}{g:Addr}{pl:Sem Bool}{Q:Value × List Value->Shared->Prop}(I:Inv X pins σ H s)(e:H a=some (.ins C dx fs))(c:Cls X.K C)(k:Meth X.K C m g)(l:fs.lookup m=none)
  (h:Q (.ref g,[.ref a]) s):wpAny (model X.prog X.w) A (getMethod (.ref a) m pl) Q E s:=by
 obtain⟨mA,O,r,_,_,_⟩:=zGP I.hok e
 have hn:mA m=none:=RelO.none_of (by rw [<- l];exact r m)
 exact zMr I.kIn O (c.get m) k.at_ k.fn hn h
theorem zO4{y:V}{u:Value}{Q:Unit->Shared->Prop}(I:Inv X pins σ H s)(e:H a=some (.ins C dx fs))(c:Cls X.K C)(n:zB0 X.K C f)(hl:fs.length<1000)(ry:RelV y u)
  (h:∀ s',Inv X pins σ (upd H a (.ins C dx (putF f y fs))) s'->Q () s'):wpAny (model X.prog X.w) A (setAttr (.ref a) f u) Q E s:=by
 obtain⟨mA,O,r,wi,_,ho⟩:=zGP I.hok e
 have hz:(fs.map (·.1)).length<=sizeLine:=by rw [Ql,Ya];lia
 refine zO3 I.kIn O c.sa c.po n.taker c.hd wi hz fun h' O' sb=>h _ ?_
 have hd:∃ o,h'.get? dx=some o:=let⟨o,_,_,e',_⟩:=O'.ns;⟨o,e'⟩
 refine I.write (x:=a) (e:=dx) (by rw [e];exact True.intro) (.inr ho) (fun b q hb z=>(sb.2 b hb).trans z) hd ?_
 refine⟨by rw [zAf O.ne];exact ho,?_,O.ne,O'.obj,_,O'.ns,fun g=>?_,fun g hg=>?_⟩
 ·have:=zJm f y fs;lia
 ·show RelO ((putF f y fs).lookup g) (if g=f then some u else mA g)
  rw [zGW]
  by_cases q:g=f
  ·rw [if_pos q,if_pos q];exact ry
  ·rw [if_neg q,if_neg q];exact r g
 ·by_cases q:g=f
  ·rw [q];exact(zGT f y fs).1
  ·refine(zGT f y fs).2 g (wi g fun z=>hg ?_)
   show(if g=f then some u else mA g)=none
   rw [if_neg q];exact z
theorem Inv.made(I:Inv X pins σ H s):Inv X pins σ (upd (upd H s.heap.objs.size (.own (s.heap.objs.size+1))) (s.heap.objs.size+1) (.ins C s.heap.objs.size []))
  { s with heap:=(s.heap.push PySem.W.emptyDict).push (PySem.W.instObj C s.heap.objs.size) }:=by
 have e1:(s.heap.push PySem.W.emptyDict).get? s.heap.objs.size=some PySem.W.emptyDict:=Qu s.heap rfl
 have e2:((s.heap.push PySem.W.emptyDict).push (PySem.W.instObj C s.heap.objs.size)).get? (s.heap.objs.size+1)=some (PySem.W.instObj C s.heap.objs.size):=by
  have:=Qu (s.heap.push PySem.W.emptyDict) (o:=PySem.W.instObj C s.heap.objs.size) rfl
  rwa [Yr]at this
 have e3:(s.heap.push PySem.W.emptyDict).Ns s.heap.objs.size (fun _=>none):=⟨PySem.W.emptyDict,#[],_,e1,rfl,(fun e he=>absurd he (by simp)),fun _=>rfl⟩
 have I1:=I.laid (a:=s.heap.objs.size) (o:=.own (s.heap.objs.size+1)) (h':=s.heap.push PySem.W.emptyDict) (t':=s.toks) (fun b u q=>Qd _ q) (Qi _) ⟨_,e1⟩
 refine I1.laid (a:=s.heap.objs.size+1) (o:=.ins C s.heap.objs.size []) (t':=s.toks) (fun b u q=>Qd _ q) (Nat.le_of_eq (Yr _ _)) ?_
 have ne:s.heap.objs.size≠s.heap.objs.size+1:=Qt (Je _)
 refine⟨by rw [zAf ne,zAs],QN _,ne,e2,fun _=>none,(Heap.Ns1.of_empty e3).at fun o q=>Qd _ q,fun _=>True.intro,fun y hy=>absurd rfl hy⟩
theorem zLd{prog:Program}{w:World}{env:Env}{e:Expr}{f:Str}{pos:Pos}{s:Shared}{Q:Value->Shared->Prop}(hb:attributeBase e f env (eval e env)=eval e env)
  (h:wpAny (model prog w) A (eval e env) (fun o s₁=>wpAny (model prog w) A (getAttr o f true) Q E s₁) E s):wpAny (model prog w) A (eval (.Attribute e f pos) env) Q E s:=
 Attribute_any_ h (by rw [arm_eval_Attribute,hb])
end
def tFld(K:PySem.W.Frag)(ta:TE)(f:Str):TE:=fun σ H Q=>ta σ H fun x H1=>∃ a C dx fs v,x=.ref a/\H1 a=some (.ins C dx fs)/\Cls K C/\zB0 K C f/\fs.lookup f=some v/\Q v H1
def sFld(K:PySem.W.Frag)(ta tv:TE)(f:Str):TS:=fun D σ H=>tv σ H fun y H1=>ta σ H1 fun x H2=>∃ a C dx fs,x=.ref a/\H2 a=some (.ins C dx fs)/\Cls K C/\zB0 K C f/\fs.length<1000 /\
 D.nx σ (upd H2 a (.ins C dx (putF f y fs)))
section
variable {X:Cx}{o e value:Expr}{f:Str}{pos pos' tpos:Pos}{ta tv:TE}
theorem zAW(he:PE X e ta)(hb:attributeBase e f X.env (eval e X.env)=eval e X.env):PE X (.Attribute e f pos) (tFld X.K ta f):=by
 intro pins s σ H Q I h
 refine zLd hb (thn (he pins s σ H _ I h) fun u s1 zz=>?_)
 obtain⟨x,H1,I1,rx,a,C,dx,fs,v,ex,ea,c,n,l,q⟩:=zz
 subst ex
 obtain rfl:u=Value.ref a:=rx
 exact zMs I1 ea c n l fun u' s2 I2 ru=>⟨v,H1,I2,ru,q⟩
theorem zCo(ha:PE X o ta)(hv:PE X value tv)(hs:swapsWith value (some (.Attribute o f pos')) pos.line X.env=pure false):PS X (.Assign [.Attribute o f pos'] value pos) (sFld X.K ta tv f):=by
 intro pins s σ H D I h
 refine plainObj_wpAny_Assign_Attribute (thn (hv pins s σ H _ I h) fun u s1 ⟨y,H1,I1,ry,q⟩=>thn (ha pins s1 σ H1 _ I1 q) fun ov s2 ⟨x,H2,I2,rx,a,C,dx,fs,ex,ea,c,n,l,q2⟩=>?_) hs
 subst ex
 obtain rfl:ov=Value.ref a:=rx
 exact zO4 I2 ea c n l ry fun s3 I3=>⟨σ,_,I3,q2⟩
end
section
variable {X:Cx}{pins:List (Addr × Obj)}{σ:St}{H:Hp}{s:Shared}{A:Around}{E:Value->Shared->Prop}{Q:Value->Shared->Prop}{c:Value}{b:Bool}
end
end L2
namespace L2
open PySem PySem.Spec PyProof.Rows
structure Room(k:Nat)(A:Around):Prop where
 hd:A.handled=none
 dp:A.depth+3 * k+5<recursionLimit
 un:A.units+16 * k+200<cLine
 gd:A.guards=some []
theorem Room.mono{j k:Nat}{A:Around}(r:Room k A)(h:j<=k):Room j A:=⟨r.hd,by have:=r.dp;lia,by have:=r.un;lia,r.gd⟩
theorem Room.deeper{k:Nat}{A:Around}(r:Room (k+1) A)(env:Env):Room k (A.deeper env):=
 ⟨r.hd,by have:=r.dp;show A.depth+1+3 * k+5<_;lia,by have:=r.un;show A.units+3+16 * k+200<_;lia,r.gd⟩
theorem zM9{A:Around}{C:Addr}{us:List Value}{kw:List (Str × Value)}:(A.under (.builtin "type.__call__" ⟨.ref C::us,kw⟩)).depth=A.depth+1:=by
 first | rfl | simp [Around.under,Code.weight,Code.isCreation,Code.isGuard,Code.isCaller,Code.frames,Code.isFrame,guardIds]
theorem zNb{A:Around}{C:Addr}{us:List Value}{kw:List (Str × Value)}:(A.under (.builtin "type.__call__" ⟨.ref C::us,kw⟩)).units=A.units+1:=by
 first | rfl | simp [Around.under,Code.cUnits,Code.frames,Code.isFrame]
theorem Room.make{k:Nat}{A:Around}(r:Room (k+1) A)(C:Addr)(us:List Value)(kw:List (Str × Value)):Room k (A.under (.builtin "type.__call__" ⟨.ref C::us,kw⟩)):=
 ⟨r.hd,by have:=r.dp;rw [zM9];lia,by have:=r.un;rw [zNb];lia,by first | exact r.gd | simpa [Around.under,Code.guards,Code.isGuard,pushGuards,guardIds]using r.gd⟩
theorem Room.depth{k:Nat}{A:Around}(r:Room k A):A.depth<recursionLimit:=by have:=r.dp;lia
def tNil:TA:=fun _ H Q=>Q [] H
def tCons(ta:TE)(tr:TA):TA:=fun σ H Q=>ta σ H fun x H1=>tr σ H1 fun xs H2=>Q (x::xs) H2
section
variable {X:Cx}{e:Expr}{es:List Expr}{te:TE}{t:TA}{pos:Pos}
theorem zAw:PA X [] tNil:=fun _ _ _ _ H Q I h=>Calls.spliced_nil ⟨[],H,I,.nil,h⟩
theorem zAl(ha:PE X e te)(hr:PA X es t)(hs:starEach (e::es) X.env=(false,eval e X.env)::starEach es X.env:=by rfl):PA X (e::es) (tCons te t):=by
 intro pos pins s σ H Q I h
 rw [hs]
 show wpAny _ _ (spliced ((false,eval e X.env)::backTo pos (starEach es X.env))) _ _ s
 refine Calls.spliced_cons (thn (ha pins s σ H _ I h) fun u s1 zz=>?_)
 obtain⟨x,H1,I1,r1,q1⟩:=zz
 exact thn (hr pos pins s1 σ H1 _ I1 q1) fun us s2 ⟨xs,H2,I2,r2,q2⟩=>⟨x::xs,H2,I2,.cons r1 r2,q2⟩
def tTup(t:TA):TE:=fun σ H Q=>t σ H fun xs H1=>xs.length<=sizeLine/\∀ p,H1 p=none->Q (.ref p) (upd H1 p (.tup xs))
def tLst(t:TA):TE:=fun σ H Q=>t σ H fun xs H1=>xs.length<=sizeLine/\∀ p,H1 p=none->Q (.ref p) (upd H1 p (.lst xs))
theorem zEs{x1}(h:PA X es t):PE X (.Tuple es x1 pos) (tTup t):=by
 intro pins s σ H Q I hq
 refine wpAny_Tuple_spliced (thn (h pos pins s σ H _ I hq) fun us s1 ⟨xs,H1,I1,r,z,q⟩=>⟨by rw [<- r.length];exact z,?_⟩)
 have hf:H1 s1.heap.objs.size=none:=I1.hok.fresh (Qi _)
 refine⟨.ref s1.heap.objs.size,upd H1 s1.heap.objs.size (.tup xs),I1.laid (t':=s1.toks) (fun b u e=>Qd _ e) (Qi _) ?_,rfl,q _ hf⟩
 exact⟨z,us,r,⟨_,Qu _ rfl,rfl,_,rfl⟩⟩
theorem zCW(h:PA X es t):PE X (.List es pos) (tLst t):=by
 intro pins s σ H Q I hq
 refine wpAny_List_spliced (thn (h pos pins s σ H _ I hq) fun us s1 ⟨xs,H1,I1,r,z,q⟩=>⟨by rw [<- r.length];exact z,?_⟩)
 have hf:H1 s1.heap.objs.size=none:=I1.hok.fresh (Qi _)
 refine⟨.ref s1.heap.objs.size,upd H1 s1.heap.objs.size (.lst xs),I1.laid (t':=s1.toks) (fun b u e=>Qd _ e) (Qi _) ?_,rfl,q _ hf⟩
 exact⟨z,us,0,r,Qu _ rfl⟩
end
abbrev Sp:=List V->Hp->VK->XK->Prop
abbrev CXT:=List Env->Hp->Shared->XK->Value->Shared->Prop
structure Env0(P:Program)(w:World)(K:PySem.W.Frag)(mg:Str->Option Value)(base:Heap)(A:Around)(outer:List Env)(s:Shared)(H:Hp):Prop where
 frames:A.frames=some outer
 mod:Mod K mg base
 bs:∀ b o,base.get? b=some o->s.heap.get? b=some o/\H b=none
 bsz:base.objs.size<=s.heap.objs.size
 funs:s.heap.FunFrames base outer
 frf:∀ b∈frs outer,H b=none
 hok:HOk P w H s.heap
 bare:AllBare s.gens
def CE(outer:List Env)(P:Program)(w:World)(H:Hp)(s:Shared)(Q:VK)(u:Value)(s':Shared):Prop:=
 ∃ v H',s'.os=s.os/\AllBare s'.gens/\Un (frs outer) [] H H' s.heap s'.heap/\HOk P w H' s'.heap/\RelV v u/\Q v H'
def CR(CX:CXT)(outer:List Env)(P:Program)(w:World)(H:Hp)(s:Shared)(Q:VK)(E:XK)(r:Result)(s':Shared):Prop:=
 match r with
 | .ok (.ret u)=>CE outer P w H s Q u s'
 | .ok _=>False
 | .error e=>CX outer H s E e s'
structure FnOk(P:Program)(w:World)(K:PySem.W.Frag)(mg:Str->Option Value)(base:Heap)(CX:CXT)(k:Nat)(f:Addr)(fd:FuncData)(ps:List Str)(sp:Sp):Prop where
 len:∀ vs H Q E,sp vs H Q E->vs.length=ps.length
 run:∀(A:Around) (outer:List Env) (s:Shared) (H:Hp) (args:Args) (us:List Value) (vs:List V) (Q:VK) (E:XK),Room k A->Env0 P w K mg base A outer s H->BindsTo s fd args (ps.zip us)->Vals vs us->sp vs H Q E->
  codeAny (model P w) A (.call (.ref f) args) (CR CX outer P w H s Q E) s
theorem FnOk.imp{P:Program}{w:World}{K:PySem.W.Frag}{mg:Str->Option Value}{base:Heap}{CX:CXT}{k:Nat}{f:Addr}{fd:FuncData}{ps:List Str}{sp sp':Sp}(F:FnOk P w K mg base CX k f fd ps sp)
  (h:∀ vs H Q E,sp' vs H Q E->sp vs H Q E):FnOk P w K mg base CX k f fd ps sp':=
 ⟨fun vs H Q E q=>F.len vs H Q E (h _ _ _ _ q),fun A outer s H args us vs Q E hr he hb hv hs=>F.run A outer s H args us vs Q E hr he hb hv (h _ _ _ _ hs)⟩
theorem Env0.make{P:Program}{w:World}{K:PySem.W.Frag}{mg:Str->Option Value}{base:Heap}{A:Around}{outer:List Env}{s:Shared}{H:Hp}(e:Env0 P w K mg base A outer s H)(C:Addr)(us:List Value)(kw:List (Str × Value)):
  Env0 P w K mg base (A.under (.builtin "type.__call__" ⟨.ref C::us,kw⟩)) outer s H:=⟨by first | exact e.frames | (simpa [Around.under,Code.envs,Code.isFrame,pushEnvs]using e.frames),e.mod,e.bs,e.bsz,e.funs,e.frf,e.hok,e.bare⟩
section
variable {X:Cx}{pins:List (Addr × Obj)}{σ:St}{H:Hp}{s s':Shared}
theorem Inv.env0(I:Inv X pins σ H s):Env0 X.prog X.w X.K X.mg X.base X.A X.stack s H:=
 ⟨I.ok.frames,I.ok.mod,I.bs,QI I.ok.bsz I.sz,I.stack,I.stkFree,I.hok,I.bare⟩
theorem Inv.after{Q:VK}{u:Value}(I:Inv X pins σ H s)(h:CE X.stack X.prog X.w H s Q u s'):EP X pins σ Q u s':=by
 obtain⟨v,H',os,bare,un,hok,r,q⟩:=h
 obtain⟨hh,g,d,t,os'⟩:=s'
 obtain rfl:os'=s.os:=os
 exact⟨v,H',I.call (h':=hh) (g':=g) (d':=d) (t':=t) (ch:=[]) un hok bare (fun b z=>absurd z (by simp)),r,q⟩
end
def tCall(sp:Sp)(dvs:List V)(E:XK)(t:TA):TE:=fun σ H Q=>t σ H fun vs H1=>sp (vs++dvs) H1 Q E
def zKG(C:Addr)(m:Str)(sp:Sp)(dvs:List V)(E:XK)(ta:TE)(t:TA):TE:=fun σ H Q=>ta σ H fun x H1=>∃ a dx fs,x=.ref a/\H1 a=some (.ins C dx fs)/\fs.lookup m=none /\
 t σ H1 fun vs H2=>sp (x::(vs++dvs)) H2 Q E
def tMake(C:Addr)(sp:Sp)(dvs:List V)(E:XK)(t:TA):TE:=fun σ H Q=>t σ H fun vs H1=>∀ x dx,H1 x=none->H1 dx=none->dx≠x->
 sp (.ref x::(vs++dvs)) (upd (upd H1 dx (.own x)) x (.ins C dx [])) (fun v H2=>v=.non/\Q (.ref x) H2) E
def Binds(K:PySem.W.Frag)(fd:FuncData)(ps:List Str)(ds:List Value):Prop:=
 ∀(s:Shared) (us:List Value),K.In s.heap->(us++ds).length=ps.length->BindsTo s fd ⟨us,[]⟩ (ps.zip (us++ds))
theorem Binds.all{K:PySem.W.Frag}{fd:FuncData}{ps:List Str}(h:∀ us:List Value,us.length=ps.length->bindArgs fd ⟨us,[]⟩=pure (ps.zip us)):Binds K fd ps []:=fun s us _ hl=>by
 rw [Q8]at hl ⊢
 exact .of_eq (h us hl)
def zCJ(CX:CXT)(X:Cx)(E:XK):Prop:=∀(pins:List (Addr × Obj)) (σ:St) (H:Hp) (s:Shared) (e:Value) (s':Shared),Inv X pins σ H s->CX X.stack H s E e s'->X.xe e s'
section
variable {X:Cx}{CX:CXT}{k:Nat}{f C:Addr}{fd:FuncData}{ps:List Str}{sp:Sp}{dvs:List V}{ds:List Value}{E:XK}{x m:Str}{p pos apos:Pos}{e o:Expr}{es:List Expr}{ta:TE}{t:TA}
theorem zHs{pins:List (Addr × Obj)}{σ:St}{H:Hp}{s:Shared}{Q:VK}{us:List Value}{vs:List V}(F:FnOk X.prog X.w X.K X.mg X.base CX k f fd ps sp)(hr:Room k X.A)(hb:Binds X.K fd ps ds)(hd:Vals dvs ds)(hx:zCJ CX X E)
  (I:Inv X pins σ H s) (r:Vals vs us) (h:sp (vs++dvs) H Q E):wpAny (model X.prog X.w) X.A (call (.ref f) us) (EP X pins σ Q) X.xe s:=by
 have r2:Vals (vs++dvs) (us++ds):=r.append hd
 have hl:(us++ds).length=ps.length:=by rw [<- r2.length];exact F.len _ _ _ _ h
 refine wpAny_call (Y6 (F.run X.A X.stack s H ⟨us,[]⟩ (us++ds) (vs++dvs) Q E hr I.env0 (hb s us I.kIn hl) r2 h) fun r s' hq=>?_)
 cases r with
 | error e=>exact hx pins σ H s e s' I hq
 | ok fl=>
  cases fl with
  | ret u=>exact I.after hq
  | next=>exact False.elim hq
  | brk=>exact False.elim hq
  | cont=>exact False.elim hq
theorem zBU(F:FnOk X.prog X.w X.K X.mg X.base CX k f fd ps sp)(hr:Room k X.A)(hg:Gl X x)(hm:X.mg x=some (.ref f))(hk:PySem.W.keepIn X.K (.ref f)=true)(hb:Binds X.K fd ps ds)(hd:Vals dvs ds)(hx:zCJ CX X E)
  (ha:PA X (e::es) t) (hdb:(x == ("__debug__":Str))=false:=by decide) (he:starEach (e::es) X.env=(false,eval e X.env)::starEach es X.env:=by rfl) (hpl:(backTo pos (starEach es X.env)).any (·.1)=false:=by rfl):
  PE X (.Call (.Name x p) (e::es) [] pos) (tCall sp dvs E t):=by
 intro pins s σ H Q I h
 refine YM (zJj I hg hm ?_ hdb)
 refine PySem.W.callWith_K (h₀:=X.base) I.ok.mod.kin hk (thn (ha pos pins s σ H _ I h) fun us s1 ⟨vs,H1,I1,r,q⟩=>⟨I1.kIn,?_⟩) he hpl
 exact zHs F hr hb hd hx I1 r q
theorem zCX{pl:Sem Bool}(he:PE X o ta)(c:Cls X.K C)(hm:Meth X.K C m f)(F:FnOk X.prog X.w X.K X.mg X.base CX k f fd ps sp)(hr:Room k X.A)(hb:Binds X.K fd ps ds)(hd:Vals dvs ds)(hx:zCJ CX X E)(ha:PA X (e::es) t)
  (hst:starEach (e::es) X.env=(false,eval e X.env)::starEach es X.env:=by rfl) (hpl:(backTo pos (starEach es X.env)).any (·.1)=false:=by rfl)
  (ht:eval (.Call (.Attribute o m apos) (e::es) [] pos) X.env=(do
   let ov <- eval o X.env
   standAt apos.atName
   let(f,first) <- holding [ov] (getMethod ov m pl)
   callWith pos f first (backTo pos (starEach (e::es) X.env)) (backToKw pos (keywordEach [] X.env))):=by rfl):
  PE X (.Call (.Attribute o m apos) (e::es) [] pos) (zKG C m sp dvs E ta t):=by
 intro pins s σ H Q I h
 refine PySem.W.methodCall_KW (pl:=pl) (thn (he pins s σ H _ I h) fun u s1 ⟨x,H1,I1,rx,a,dx,fs,ex,ea,l,q⟩=>?_) ht
 subst ex
 obtain rfl:u=Value.ref a:=rx
 refine zIN I1 ea c hm l ?_
 refine PySem.W.callWith_K (first:=[.ref a]) (h₀:=X.base) I.ok.mod.kin hm.kp (thn (ha pos pins s1 σ H1 _ I1 q) fun us s2 ⟨vs,H2,I2,r,q2⟩=>⟨I2.kIn,?_⟩) hst hpl
 exact zHs (us:=.ref a::us) (vs:=.ref a::vs) F hr hb hd hx I2 (.cons rfl r) q2
theorem zJX{pl:Sem Bool}(he:PE X o ta)(c:Cls X.K C)(hm:Meth X.K C m f)(F:FnOk X.prog X.w X.K X.mg X.base CX k f fd ps sp)(hr:Room k X.A)(hb:Binds X.K fd ps ds)(hd:Vals dvs ds)(hx:zCJ CX X E)
  (ht:eval (.Call (.Attribute o m apos) [] [] pos) X.env=(do
   let ov <- eval o X.env
   standAt apos.atName
   let(f,first) <- holding [ov] (getMethod ov m pl)
   callWith pos f first (backTo pos (starEach [] X.env)) (backToKw pos (keywordEach [] X.env))):=by rfl):
  PE X (.Call (.Attribute o m apos) [] [] pos) (zKG C m sp dvs E ta tNil):=by
 intro pins s σ H Q I h
 refine PySem.W.methodCall_KW (pl:=pl) (thn (he pins s σ H _ I h) fun u s1 ⟨x,H1,I1,rx,a,dx,fs,ex,ea,l,q⟩=>?_) ht
 subst ex
 obtain rfl:u=Value.ref a:=rx
 refine zIN I1 ea c hm l ?_
 exact PySem.W.callWith_K0 (first:=[.ref a]) I1.kIn hm.kp (zHs (us:=[.ref a]) (vs:=[.ref a]) F hr hb hd hx I1 (.cons rfl .nil) q)
structure Mk(K:PySem.W.Frag)(C f:Addr):Prop where
 makes:PySem.W.makesIn K C=true
 init:PySem.W.findIn K (.ref C) "__init__"=some (some (.ref f))
 fn:PySem.W.isFn K (.ref f)=true
 kp:PySem.W.keepIn K (.ref C)=true
theorem zOR{pins:List (Addr × Obj)}{σ:St}{H:Hp}{s:Shared}{Q:VK}{us:List Value}{vs:List V}(M:Mk X.K C f)(F:FnOk X.prog X.w X.K X.mg X.base CX k f fd ps sp)(hr:Room (k+1) X.A)(hb:Binds X.K fd ps ds)(hd:Vals dvs ds)
  (hx:zCJ CX X E) (I:Inv X pins σ H s) (r:Vals vs us)
  (h:∀ x dx,H x=none->H dx=none->dx≠x->sp (.ref x::(vs++dvs)) (upd (upd H dx (.own x)) x (.ins C dx [])) (fun v H2=>v=.non/\Q (.ref x) H2) E):
  wpAny (model X.prog X.w) X.A (call (.ref C) us) (EP X pins σ Q) X.xe s:=by
 have hq:=h (s.heap.objs.size+1) s.heap.objs.size (I.hok.fresh (Nat.le_succ _)) (I.hok.fresh (Qi _)) (Qt (Je _))
 have I2:=Inv.made (C:=C) I
 have r2:Vals (V.ref (s.heap.objs.size+1)::(vs++dvs)) (Value.ref (s.heap.objs.size+1)::(us++ds)):=.cons rfl (r.append hd)
 have hl:(Value.ref (s.heap.objs.size+1)::us++ds).length=ps.length:=by
  have e:=r2.length
  rw [F.len _ _ _ _ hq]at e
  exact e.symm
 refine wpAny_call (zNa (f:=f) I.kIn M.makes M.init (beq_iff_eq.mp M.fn) (Y6 (F.run _ X.stack _ _ ⟨Value.ref (s.heap.objs.size+1)::us,[]⟩ (Value.ref (s.heap.objs.size+1)::(us++ds)) _ _ E (hr.make C us [])
  (I2.env0.make C us []) (hb _ (Value.ref (s.heap.objs.size+1)::us) I2.kIn hl) r2 hq) fun r s' hq'=>?_))
 cases r with
 | error e=>exact hx pins σ _ _ e s' I2 hq'
 | ok fl=>
  cases fl with
  | ret u=>
   obtain⟨v,H',I3,rv,ev,q3⟩:=I2.after hq'
   subst ev
   exact⟨rv,⟨V.ref (s.heap.objs.size+1),H',I3,rfl,q3⟩⟩
  | next=>exact False.elim hq'
  | brk=>exact False.elim hq'
  | cont=>exact False.elim hq'
theorem zJW(M:Mk X.K C f)(F:FnOk X.prog X.w X.K X.mg X.base CX k f fd ps sp)(hr:Room (k+1) X.A)(hg:Gl X x)(hm:X.mg x=some (.ref C))(hb:Binds X.K fd ps ds)(hd:Vals dvs ds)(hx:zCJ CX X E)
  (ha:PA X (e::es) t) (hdb:(x == ("__debug__":Str))=false:=by decide) (he:starEach (e::es) X.env=(false,eval e X.env)::starEach es X.env:=by rfl) (hpl:(backTo pos (starEach es X.env)).any (·.1)=false:=by rfl):
  PE X (.Call (.Name x p) (e::es) [] pos) (tMake C sp dvs E t):=by
 intro pins s σ H Q I h
 refine YM (zJj I hg hm ?_ hdb)
 refine PySem.W.callWith_K (h₀:=X.base) I.ok.mod.kin M.kp (thn (ha pos pins s σ H _ I h) fun us s1 ⟨vs,H1,I1,r,q⟩=>⟨I1.kIn,?_⟩) he hpl
 exact zOR M F hr hb hd hx I1 r q
end
section
variable {X:Cx}{CX:CXT}{k:Nat}{f C:Addr}{fd:FuncData}{ps ks:List Str}{sp:Sp}{E:XK}{x m:Str}{p pos apos kpos:Pos}{e o:Expr}{es:List Expr}{kws:List Keyword}{te ta:TE}{t tk:TA}{nm:Option Str}
variable {g:List Value->List Value->List Value}{gV:List V->List V->List V}
end
structure zAm(N P:List Str)(sc:Scope):Prop where
 kind:sc.kind=.function
 co:sc.isCoroutine=false
 gen:sc.isGenerator=false
 nd:N.Nodup
 pre:N.take P.length=P
 par:∀ x∈P,sc.names.lookup x=some .local ∨ sc.names.lookup x=some .cell
 nofree:∀ y∈sc.names,y.2≠.free
theorem zH7{kindOf:Str->Option NameKind}{x:Str}:∀{binds:List (Str × Value)}{m:Str->Option Value},(∀ v,(x,v)∉binds)->bindL kindOf binds m x=m x
 | [],_,_=>rfl
 | (n,v)::r,m,h=>by
  unfold bindL
  rw [zH7 fun w hw=>h w (Qe _ hw)]
  split
  ·have:x≠n:=by rintro rfl;exact h v Qj
   simp [this]
  ·rfl
theorem zH5{kindOf:Str->Option NameKind}{x:Str}:∀{binds:List (Str × Value)}{m:Str->Option Value},(∀ v,(x,v)∉binds)->bindC kindOf binds m x=m x
 | [],_,_=>rfl
 | (n,v)::r,m,h=>by
  unfold bindC
  rw [zH5 fun w hw=>h w (Qe _ hw)]
  split
  ·rfl
  ·have:x≠n:=by rintro rfl;exact h v Qj
   simp [this]
theorem zH6{kindOf:Str->Option NameKind}{x:Str}{v:Value}:∀{P:List Str}{vs:List Value}{i:Nat}{m:Str->Option Value},P.Nodup->P[i]?=some x->vs[i]?=some v->kindOf x=some .local->
  bindL kindOf (P.zip vs) m x=some v
 | [],_,_,_,_,h,_,_=>by simp at h
 | _::_,[],_,_,_,_,h,_=>by simp at h
 | p::P,w::vs,0,m,nd,h1,h2,hk=>by
  simp at h1 h2;subst h1;subst h2
  show bindL kindOf ((p,w)::P.zip vs) m p=_
  unfold bindL
  rw [zH7 fun v hv=>(Yc.mp nd).1 (List.of_mem_zip hv).1,if_pos hk]
  simp
 | p::P,w::vs,i+1,m,nd,h1,h2,hk=>by
  show bindL kindOf ((p,w)::P.zip vs) m x=_
  unfold bindL
  exact zH6 (i:=i) (Yc.mp nd).2 (by simpa using h1) (by simpa using h2) hk
theorem zH4{kindOf:Str->Option NameKind}{x:Str}{v:Value}:∀{P:List Str}{vs:List Value}{i:Nat}{m:Str->Option Value},P.Nodup->P[i]?=some x->vs[i]?=some v->kindOf x≠some .local->
  bindC kindOf (P.zip vs) m x=some v
 | [],_,_,_,_,h,_,_=>by simp at h
 | _::_,[],_,_,_,_,h,_=>by simp at h
 | p::P,w::vs,0,m,nd,h1,h2,hk=>by
  simp at h1 h2;subst h1;subst h2
  show bindC kindOf ((p,w)::P.zip vs) m p=_
  unfold bindC
  rw [zH5 fun v hv=>(Yc.mp nd).1 (List.of_mem_zip hv).1,if_neg hk]
  simp
 | p::P,w::vs,i+1,m,nd,h1,h2,hk=>by
  show bindC kindOf ((p,w)::P.zip vs) m x=_
  unfold bindC
  exact zH4 (i:=i) (Yc.mp nd).2 (by simpa using h1) (by simpa using h2) hk
def start(N:List Str)(vs:List V):St:=vs.map some++List.replicate (N.length-vs.length) none
def cxOf(CX:CXT)(P:Program)(w:World)(K:PySem.W.Frag)(mg:Str->Option Value)(base:Heap)(N:List Str)(qual:Str)(scope:Scope)(f:Addr)(cd:Value)(A:Around)(outer:List Env)(s:Shared)(H:Hp)(E:XK):Cx where
 prog:=P
 w:=w
 K:=K
 mg:=mg
 base:=base
 A:=A.deeper (envOfC qual scope s.heap.objs.size f cd)
 N:=N
 s₀:=s
 H₀:=H
 env:=envOfC qual scope s.heap.objs.size f cd
 outer:=outer
 stack:=envOfC qual scope s.heap.objs.size f cd::outer
 ex:=[]
 calm:=true
 fn:=fun _=>true
 pn:=[]
 xe:=fun e s'=>wpAny (model P w) (A.deeper (envOfC qual scope s.heap.objs.size f cd)) (leaving (envOfC qual scope s.heap.objs.size f cd) e) (fun _ s''=>CX outer H s E e s'') (fun e' s''=>CX outer H s E e' s'') s'
theorem zH9{sc:Scope}{n:Nat}{x:Str}(h:sc.names.lookup x=some .cell):∃ c,(cellsFrom n sc.names []).lookup x=some c:=by
 have q:=PySem.W.cellsFrom_some sc.names n [] (.inl h)
 exact Option.isSome_iff_exists.mp q
theorem zMG{CX:CXT}{P:Program}{w:World}{K:PySem.W.Frag}{mg:Str->Option Value}{base:Heap}{N ps:List Str}{qual:Str}{scope:Scope}{f:Addr}{cd:Value}{A:Around}{outer:List Env}{s s1:Shared}{H:Hp}{E:XK}{us:List Value}{vs:List V}
  (S:zAm N ps scope) (hd:A.handled=none) (e0:Env0 P w K mg base A outer s H) (hl:vs.length=ps.length) (r:Vals vs us)
  (x:InCallC s s.heap.objs.size (bindL (envOfC qual scope s.heap.objs.size f cd).kindOf (ps.zip us) fun _=>none) (cellsFrom (s.heap.objs.size+1) scope.names []) (bindC (envOfC qual scope s.heap.objs.size f cd).kindOf (ps.zip us) fun _=>none) s1):
  Inv (cxOf CX P w K mg base N qual scope f cd A outer s H E) [] (start N vs) H s1:=by
 have hpl:ps.length<=N.length:=by have:=congrArg List.length S.pre;rw [QU]at this;lia
 obtain⟨h1,tk,rfl,hk⟩:=x.done
 have noA:∀ b:Addr,b∉(cxOf CX P w K mg base N qual scope f cd A outer s H E).ex:=fun b z=>absurd (show b∈([]:List Addr)from z) (by simp)
 refine⟨⟨e0.mod,S.kind,rfl,rfl,Qi _,fun y z c h1 h2=>?_,fun y hy=>?_,fun y c _ h=>?_,fun _=>hd,Around.frames_deeper e0.frames,.inr ⟨rfl,rfl⟩,fun b z=>absurd z (noA b),e0.bs,e0.bsz,fun b _ _=>noA b,fun b z=>absurd z (noA b),e0.funs,e0.frf⟩,
  rfl,e0.bare,Un.kept hk,⟨_,x.toInCall.ns,fun i y v h1 h2 h3=>?_⟩,fun y c h=>⟨_,x.cell y c h⟩,e0.hok.fresh (Qi _),fun y c h=>?_,fun p hp=>absurd (show p∈([]:List (Addr × Obj))from hp) (by simp),e0.hok.kept hk,?_⟩
 ·exact name_of_addr x.apart (PySem.mem_of_lookup h1) (PySem.mem_of_lookup h2)
 ·have hy:scope.names.lookup y=some .cell ∨ scope.names.lookup y=some .free:=hy
  rcases hy with hy | hy
  ·exact zH9 hy
  ·exact absurd rfl (S.nofree _ (PySem.mem_of_lookup hy))
 ·exact YA (x.above y c (PySem.mem_of_lookup h))
 ·have hi:i<vs.length:=by
   unfold start at h2
   by_cases hi:i<vs.length
   ·exact hi
   ·rw [QX (by simpa using hi)]at h2
    rw [Yv]at h2
    split at h2 <;> cases h2
  have ha:vs[i]?=some v:=by
   unfold start at h2
   rw [QS (by simpa using hi),QB]at h2
   cases e:vs[i]? with
   | none=>rw [e]at h2;cases h2
   | some a=>rw [e]at h2;cases h2;rfl
  obtain⟨u,hu,rv⟩:=r.get ha
  have hp:ps[i]?=some y:=by
   rw [<- S.pre,List.getElem?_take_of_lt (by lia)];exact h1
  have ndP:ps.Nodup:=by rw [<- S.pre];exact S.nd.sublist (List.take_sublist _ _)
  refine⟨u,rv,?_⟩
  rcases S.par y (QH hp)with k | k
  ·exact .inl ⟨k,zH6 ndP hp hu k⟩
  ·obtain⟨c,e⟩:=zH9 (n:=s.heap.objs.size+1) k
   refine .inr ⟨.inl k,c,e,?_⟩
   have q:=x.cell y c e
   rw [zH4 ndP hp hu (by show scope.names.lookup y≠_;rw [k];decide)]at q
   exact q
 ·exact e0.hok.fresh (YA (x.above y c (PySem.mem_of_lookup h)))
 ·unfold start
  show _=N.length
  rw [Qv,Ql,List.length_replicate]
  lia
theorem fn_of{CX:CXT}{P:Program}{w:World}{K:PySem.W.Frag}{mg:Str->Option Value}{base:Heap}{k:Nat}{f:Addr}{name qual:Str}{params:Arguments}{body:List Stmt}{scope:Scope}{dV kV doc pm cdv ct oc:Value}{an od:Option Addr}
  {osl:Array (Option Value)}{N ps:List Str}{sp:Sp} (lk:K.lookup f=some ⟨oc,od,.func (PySem.W.fnOf name qual params body scope dV kV doc pm an cdv ct),osl⟩) (hcd:PySem.W.codeIn K cdv qual=true) (S:zAm N ps scope)
  (len:∀ vs H Q E,sp vs H Q E->vs.length=ps.length)
  (hbody:∀(A:Around) (outer:List Env) (s:Shared) (H:Hp) (vs:List V) (Q:VK) (E:XK),Room k (A.deeper (envOfC qual scope s.heap.objs.size f cdv))->sp vs H Q E->
   ∃ t,PSs (cxOf CX P w K mg base N qual scope f cdv A outer s H E) body t/\t { nx:=fun _ H'=>Q .non H',rt:=Q } (start N vs) H):
  FnOk P w K mg base CX (k+1) f (PySem.W.fnOf name qual params body scope dV kV doc pm an cdv ct) ps sp:=by
 refine⟨len,fun A outer s H args us vs Q E hr e0 hb r hsp=>?_⟩
 have hl:=len _ _ _ _ hsp
 have KX:K.In s.heap:=e0.mod.kin.keeps fun b o e=>(e0.bs b o e).1
 have lim:s.heap.NoLimit:=e0.mod.nolimit.keeps fun b o e=>(e0.bs b o e).1
 have hkind:∀ y∈ps.zip us,scope.names.lookup y.1=some .local ∨ (scope.names.lookup y.1=some .cell/\((cellsFrom (s.heap.objs.size+1) scope.names []).lookup y.1).isSome=true):=fun zz hy=>by
  obtain⟨n,v⟩:=zz
  rcases S.par n (List.of_mem_zip hy).1 with q | q
  ·exact .inl q
  ·exact .inr ⟨q,PySem.W.cellsFrom_some _ _ _ (.inl q)⟩
 refine codeAny_call_function hr.depth (KX _ _ lk) rfl S.co S.gen rfl (PySem.W.codeRec_of KX hcd) (hb _ _ _ _ ?_)
 refine wpAny_newFunctionEnv_cells S.kind hkind fun env he s1 x=>?_
 subst he
 refine⟨lim.keeps x.toInCall.keep,codeAny_func ?_⟩
 obtain⟨t,ht,hq⟩:=hbody A outer s H vs Q E (hr.deeper _) hsp
 have I:Inv (cxOf CX P w K mg base N qual scope f cdv A outer s H E) [] (start N vs) H s1:=zMG S hr.hd e0 hl r x
 refine YE (ht [] s1 (start N vs) H _ I hq) (fun fl s' hs=>?_) fun e s' hs=>hs
 have fin:∀{σ':St}{H':Hp}{v:V}{u:Value},Inv (cxOf CX P w K mg base N qual scope f cdv A outer s H E) [] σ' H' s'->RelV v u->Q v H'->CE outer P w H s Q u s':=
  fun{σ' H' v u} J rv q=>⟨v,H',J.os,J.bare,J.base,J.hok,rv,q⟩
 cases fl with
 | ret u=>
  obtain⟨v,σ',H',J,rv,q⟩:=hs
  exact fin J rv q
 | next=>
  obtain⟨σ',H',J,q⟩:=hs
  exact fin (v:=V.non) (u:=Value.none) J rfl q
 | brk=>
  obtain⟨_,_,_,q⟩:=hs
  exact False.elim q
 | cont=>
  obtain⟨_,_,_,q⟩:=hs
  exact False.elim q
end L2
namespace L2
open PySem PySem.Spec PyProof.Rows
section
variable {X:Cx}{x:Str}{p pos:Pos}{e:Expr}{es:List Expr}{t:TA}{id T:String}{r:List V->Hp->VK->Prop}
def tCB(r:List V->Hp->VK->Prop)(t:TA):TE:=fun σ H Q=>t σ H fun vs H1=>r vs H1 Q
theorem zFA(hc:zA0 X (.builtin id) r)(hg:Gl X x)(hm:X.mg x=none)(hv:bootBuiltins x=some (.builtin id))(ha:PA X (e::es) t)(hn:x≠"__name__":=by decide)(hdb:(x == ("__debug__":Str))=false:=by decide)
  (he:starEach (e::es) X.env=(false,eval e X.env)::starEach es X.env:=by rfl) (hpl:(backTo pos (starEach es X.env)).any (·.1)=false:=by rfl):PE X (.Call (.Name x p) (e::es) [] pos) (tCB r t):=by
 intro pins s σ H Q I h
 refine YM (zBT I hg hm hv ?_ hn hdb)
 exact PyProof.Rows.callWith_builtin1 (thn (ha pos pins s σ H _ I h) fun us s1 ⟨vs,H1,I1,r1,q1⟩=>hc pins s1 σ H1 vs us Q I1 r1 q1) he hpl
theorem zHb(hc:zA0 X (.type T) r)(hg:Gl X x)(hm:X.mg x=none)(hv:bootBuiltins x=some (.type T))(ha:PA X (e::es) t)(hn:x≠"__name__":=by decide)(hdb:(x == ("__debug__":Str))=false:=by decide)
  (he:starEach (e::es) X.env=(false,eval e X.env)::starEach es X.env:=by rfl) (hpl:(backTo pos (starEach es X.env)).any (·.1)=false:=by rfl):PE X (.Call (.Name x p) (e::es) [] pos) (tCB r t):=by
 intro pins s σ H Q I h
 refine YM (zBT I hg hm hv ?_ hn hdb)
 exact Q3 (thn (ha pos pins s σ H _ I h) fun us s1 ⟨vs,H1,I1,r1,q1⟩=>hc pins s1 σ H1 vs us Q I1 r1 q1) he hpl
end
end L2
namespace HT
open PySem PyProof.Rows
def lexLt:List Int->List Int->Bool
 | [],[]=>false
 | [],_::_=>true
 | _::_,[]=>false
 | x::xs,y::ys=>if x=y then lexLt xs ys else decide (x<y)
theorem lexLt_cons(x y:Int)(xs ys:List Int):lexLt (x::xs) (y::ys)=if x=y then lexLt xs ys else decide (x<y):=rfl
theorem zM4:lexLt [] []=false:=rfl
theorem zM3(y:Int)(ys:List Int):lexLt [] (y::ys)=true:=rfl
theorem zM2(x:Int)(xs:List Int):lexLt (x::xs) []=false:=rfl
theorem zMd(A:Around)(s:Shared)(a:Int)(t:Tok)(c:Int)(u:Tok):∃ e,SeqAt.EqAt A s (.int a t) (.int c u) e/\(e=true ↔ a=c):=
 ⟨(a == c),SeqAt.EqAt.int_int a t c u,by simp⟩
theorem rcLt_int(A:Around)(s:Shared)(a:Int)(t:Tok)(c:Int)(u:Tok)(prog:Program)(w:World)(E:Value->Shared->Prop)(Q:Value->Shared->Prop)(h:Q (.bool (decide (a<c))) s):
  wpAny (model prog w) A (richCompare .Lt (.int a t) (.int c u)) Q E s:=
 (PyProof.Rows.lt_int h:wpAny (model prog w) A (compareOp .Lt (.int a t) (.int c u)) Q E s)
section
open PySem.SeqAt
open PySem.AutoSeq1 (wpAny_loadPart')
open PySem.MeetsSeq PySem.MeetsSeq2 PySem.MeetsSeq3
theorem zPD(l b:Addr)(items items2:Array Value)(n n2:Nat)(dd dd2:Option Addr)(sl sl2:Array (Option Value))(ns ms:List Int)(hi:IntsAre items.toList ns)(hj:IntsAre items2.toList ms):
  Meets (Builtin.«tuple.__lt__» ⟨[.ref l,.ref b],[]⟩)
   (fun _ R s=>s.heap.get? l=some { cls:=.type "tuple",dict:=dd,data:=.seq items n,slots:=sl }/\s.heap.get? b=some { cls:=.type "tuple",dict:=dd2,data:=.seq items2 n2,slots:=sl2 } /\
    R (.ok (.ret (.bool (lexLt ns ms)))) s):=
 .of_wp fun prog w A R s h=>by
  obtain⟨hp,g,d,tk,os⟩:=s;obtain⟨hl,hb,h⟩:=h
  have f2:=AutoSeq1.sub_tuple_tuple
  have z1:items.size=ns.length:=by rw [<- hi.length];simp
  have z2:items2.size=ms.length:=by rw [<- hj.length];simp
  wp_walk using wpAny_loadPart' hl,wpAny_loadPart' hb,Y0 _ (fun rest b s'=>b.1=none/\s'=⟨hp,g,d,tk,os⟩/\∃(vs ws:List Value) (ns' ms':List Int),rest=vs.zip ws /\
   IntsAre vs ns'/\IntsAre ws ms'/\ns'.length+items2.size=ms'.length+items.size/\R (.ok (.ret (.bool (lexLt ns' ms')))) ⟨hp,g,d,tk,os⟩) _
  case turn=>
   rintro⟨y,x⟩ rest b s' ⟨hb',rfl,vs,ws,ns',ms',hz,hvi,hwi,hlen,hR⟩
   cases hvi with
   | nil=>rw [List.zip_nil_left]at hz;cases hz
   | cons a t hvi'=>
    cases hwi with
    | nil=>rw [List.zip_nil_right]at hz;cases hz
    | cons c u hwi'=>
     rw [List.zip_cons_cons]at hz
     injection hz with hyx hrest
     injection hyx with hy hx
     subst hy hx
     rw [lexLt_cons]at hR
     simp only [Qw]at hlen
     obtain⟨e,he,hiff⟩:=zMd A.in1 ⟨hp,g,d,tk,os⟩ a t c u
     refine Qa (he prog w _ _ ?_)
     cases e with
     | true=>
      rw [if_pos (hiff.mp rfl)]at hR
      wp_walk
      exact⟨rfl,rfl,_,_,_,_,hrest,hvi',hwi',by lia,hR⟩
     | false=>
      rw [if_neg (fun q=>absurd (hiff.mpr q) Qr)]at hR
      have hri:=rcLt_int A.in1 ⟨hp,g,d,tk,os⟩ a t c u prog w
      wp_walk using hri
      exact⟨_,rfl,by simpa using hR⟩
  case fin=>
   rintro⟨b1,b2⟩ s' ⟨hb',rfl,vs,ws,ns',ms',hz,hvi,hwi,hlen,hR⟩
   simp only at hb'
   subst hb'
   have hv:lexLt ns' ms'=decide (items.size<items2.size):=by
    cases hvi with
    | nil=>
     cases hwi with
     | nil=>
      simp only [YU]at hlen
      rw [zM4]
      exact(decide_eq_false (by lia)).symm
     | cons c u hw=>
      simp only [YU,Qw]at hlen
      rw [zM3]
      exact(decide_eq_true (by lia)).symm
    | cons a t hv=>
     cases hwi with
     | nil=>
      simp only [YU,Qw]at hlen
      rw [zM2]
      exact(decide_eq_false (by lia)).symm
     | cons c u hw=>
      rw [List.zip_cons_cons]at hz
      cases hz
   rw [hv]at hR
   wp_walk
   exact⟨_,rfl,by simpa [Builtin.Tuple.tupleCompareSizes]using hR⟩
  case h=>
   exact⟨rfl,rfl,items.toList,items2.toList,ns,ms,rfl,hi,hj,by lia,h⟩
end
section
variable {prog:Program}{w:World}{A:Around}{E:Value->Shared->Prop}{s:Shared}
theorem lt_tupInts{l b:Addr}{items items2:Array Value}{ns ms:List Int}{Q:Value->Shared->Prop}(hl:IsTup s.heap l items)(hb:IsTup s.heap b items2)(hi:IntsAre items.toList ns)(hj:IntsAre items2.toList ms)
  (hu:A.units<cLine) (h:Q (.bool (lexLt ns ms)) s):wpAny (model prog w) A (compareOp .Lt (.ref l) (.ref b)) Q E s:=by
 obtain⟨⟨cls,dd,data,sl⟩,ho,hc,n,hd⟩:=id hl
 obtain⟨⟨cls2,dd2,data2,sl2⟩,ho2,hc2,n2,hd2⟩:=id hb
 simp only at hc hd hc2 hd2
 subst hc hd hc2 hd2
 exact richCompare_meets_room (op:=.Lt) ⟨_,ho,rfl⟩ ⟨_,ho2,rfl⟩ PySem.F.slot_tuple_lt PySem.F.entry_tuple_lt (PySem.F.args_tuple_lt_2 _ _) (zPD l b items items2 n n2 dd dd2 sl sl2 ns ms hi hj)
  ⟨ho,ho2,show Value.bool (lexLt ns ms)≠Value.notImplemented/\Q (.bool (lexLt ns ms)) s from⟨(fun x=>nomatch x),h⟩⟩ hu
theorem cat_tup{t b:Addr}{vs ws:List Value}{Q:Value->Shared->Prop}(ht:IsTup s.heap t vs.toArray)(hb:IsTup s.heap b ws.toArray)(hv:vs≠[])
  (h1:ws=[]->Q (.ref t) s) (h2:ws≠[]->Q (.ref s.heap.objs.size) { s with heap:=s.heap.push { cls:=.type "tuple",data:=.seq (vs++ws).toArray } })
  (hsz:vs.length+ws.length<=sizeLine):wpAny (model prog w) A (binaryOp .Add (.ref t) (.ref b)) Q E s:=by
 obtain⟨⟨cls,dd,data,sl⟩,ho,hc,n,hd⟩:=id ht
 obtain⟨⟨cls2,dd2,data2,sl2⟩,ho2,hc2,n2,hd2⟩:=id hb
 simp only at hc hd hc2 hd2
 subst hc hd hc2 hd2
 have e:vs.toArray++ws.toArray=(vs++ws).toArray:=by simp
 by_cases hw:ws=[]
 ·exact concat_meets ⟨_,ho,rfl⟩ ⟨_,ho2,rfl⟩ noFill_tuple_add seq_tuple_add PySem.F.slot_tuple_add PySem.F.entry_tuple_add (PySem.F.args_tuple_add_2 _ _)
   (tuple_addW1 t b vs.toArray ws.toArray n n2 dd dd2 sl sl2 (by simpa using hv) (by simp [hw])) ⟨ho,ho2,h1 hw⟩
 ·refine concat_meets ⟨_,ho,rfl⟩ ⟨_,ho2,rfl⟩ noFill_tuple_add seq_tuple_add PySem.F.slot_tuple_add PySem.F.entry_tuple_add (PySem.F.args_tuple_add_2 _ _)
   (tuple_addW2 t b vs.toArray ws.toArray n n2 dd dd2 sl sl2 (by simpa using hv) (by simpa using hw) (by rw [Qx,Qx];exact hsz)) ⟨ho,ho2,?_⟩
  rw [e]
  exact h2 hw
def sIx(n d:Nat):Option Int->Nat
 | none=>d
 | some v=>if v<0 then(v+(n:Int)).toNat else min v.toNat n
theorem sIx_none(n d:Nat):sIx n d none=d:=rfl
theorem sIx_nat(n d k:Nat):sIx n d (some (k:Int))=min k n:=by
 show(if(k:Int)<0 then((k:Int)+(n:Int)).toNat else min (k:Int).toNat n)=min k n
 rw [if_neg (by lia),Jd]
theorem zOS(n d:Nat)(hd:d<=n)(o:Option Int):sIx n d o<=n:=by
 cases o with
 | none=>exact hd
 | some v=>
  show(if v<0 then(v+(n:Int)).toNat else min v.toNat n)<=n
  by_cases hv:v<0
  ·rw [if_pos hv];lia
  ·rw [if_neg hv];exact Nat.min_le_right _ _
theorem sb1{i:Int}{n:Nat}(h:i<0):max 0 (min (i+(n:Int)) (n:Int))=(((i+(n:Int)).toNat:Nat):Int):=by
 rw [Int.min_eq_left (by lia),Int.max_comm,<- Int.ofNat_toNat]
theorem sb4{i:Int}{n:Nat}(h:¬ i<0):min i (n:Int)=((min i.toNat n:Nat):Int):=by
 obtain⟨k,rfl⟩:=Int.eq_ofNat_of_zero_le (Int.not_lt.mp h)
 rw [Jd]
 by_cases c:k<=n
 ·rw [Nat.min_eq_left c,Int.min_eq_left (Int.ofNat_le.mpr c)]
 ·rw [Nat.min_eq_right (Nat.le_of_not_le c),Int.min_eq_right (Int.ofNat_le.mpr (Nat.le_of_not_le c))]
theorem sb2{i:Int}{n:Nat}(h:¬ i<0):max 0 (min i (n:Int))=((min i.toNat n:Nat):Int):=by
 rw [sb4 h,Int.max_eq_right (Int.natCast_nonneg _)]
theorem sb3{i:Int}{n:Nat}:max (i+(n:Int)) 0=(((i+(n:Int)).toNat:Nat):Int):=(Int.ofNat_toNat _).symm
theorem zIa(v:Int)(n d:Nat):(if v<0 then max (v+(n:Int)) 0 else min v (n:Int))=((sIx n d (some v):Nat):Int):=by
 show(if v<0 then max (v+(n:Int)) 0 else min v (n:Int))=(((if v<0 then(v+(n:Int)).toNat else min v.toNat n):Nat):Int)
 by_cases hv:v<0
 ·simp only [if_pos hv];exact sb3
 ·simp only [if_neg hv];exact sb4 hv
theorem zK8(lo hi:Option Int)(n:Nat):Builtin.Slice.sliceAdjust lo hi 1 (n:Int)=(((sIx n 0 lo:Nat):Int),((sIx n n hi:Nat):Int)):=by
 have h1:¬ ((1:Int)<0):=by lia
 unfold Builtin.Slice.sliceAdjust
 simp only [h1,if_false]
 refine Prod.ext ?_ ?_
 ·cases lo with
  | none=>rfl
  | some v=>exact zIa v n 0
 ·cases hi with
  | none=>rfl
  | some v=>exact zIa v n n
theorem zOr(i j:Nat):Builtin.Slice.slicePlaces (i:Int) (j:Int) 1=j-i:=by
 unfold Builtin.Slice.slicePlaces
 have h1:(1:Int) > 0:=by lia
 simp only [h1,if_true,Int.ediv_one]
 split <;> lia
theorem zKw{v:Value}{o:Option Int}{Q:Option Int->Shared->Prop}(p:IsPart v o)(h:Q o s):wpAny (model prog w) A (Builtin.Slice.slicePartIndex v) Q E s:=by
 cases p with
 | none=>exact slicePart_none h
 | int i t=>exact slicePart_int h
theorem zKv{sl:Addr}{vl vu:Value}{lo hi:Option Int}{n:Nat}{Q:Int × Int × Nat->Shared->Prop}(hs:s.heap.IsSliceOf sl vl vu .none)(pl:IsPart vl lo)(pu:IsPart vu hi)
  (h:Q (((sIx n 0 lo:Nat):Int),1,sIx n n hi-sIx n 0 lo) s):wpAny (model prog w) A (Builtin.Slice.sliceApplied (.ref sl) (pure (n:Int))) Q E s:=by
 obtain⟨os,hos,hcs,hds⟩:=id hs
 unfold Builtin.Slice.sliceApplied Builtin.Slice.sliceFields
 refine Qa (Qa (Jo hos hds (x:=vl) rfl (Qa (Jo hos hds (x:=vu) rfl (Qa (Jo hos hds (x:=.none) rfl (Qb ?_)))))))
 refine Qa (slicePart_none ?_)
 show wpAny _ _ (if((1:Int) == 0)=true then _ else _) _ _ s
 rw [if_neg (by decide)]
 refine Qa (zKw pl (Qa (zKw pu (Qa (Qb ?_)))))
 show wpAny _ _ (match Builtin.Slice.sliceAdjust lo hi 1 (n:Int)with | (lo,hi)=>pure (lo,(1:Int),Builtin.Slice.slicePlaces lo hi 1)) _ _ s
 rw [zK8 lo hi n]
 show wpAny _ _ (pure (((sIx n 0 lo:Nat):Int),(1:Int),Builtin.Slice.slicePlaces ((sIx n 0 lo:Nat):Int) ((sIx n n hi:Nat):Int) 1)) _ _ s
 rw [zOr]
 exact Qb h
theorem zOp(xs:Array Value)(i k:Nat):((List.range k).filterMap fun(m:Nat)=>xs[((i:Int)+(m:Int) * 1).toNat]?).toArray=((xs.toList.drop i).take k).toArray:=by
 have e:(fun(m:Nat)=>xs[((i:Int)+(m:Int) * 1).toNat]?)=fun m=>xs[i+m]?:=by
  funext m
  have:((i:Int)+(m:Int) * 1).toNat=i+m:=by lia
  rw [this]
 rw [e]
 have:=pick_run xs i k
 rw [List.filterMap_map]at this
 have e2:((fun x=>xs[x]?) ∘ fun x=>i+x)=fun m=>xs[i+m]?:=rfl
 rw [e2]at this
 rw [this]
theorem getItem_tuple_cut{t sl:Addr}{items:Array Value}{vl vu:Value}{lo hi:Option Int}{Q:Value->Shared->Prop}(ht:IsTup s.heap t items)(hs:s.heap.IsSliceOf sl vl vu .none)(pl:IsPart vl lo)(pu:IsPart vu hi)
  (hw:¬ (sIx items.size 0 lo=0/\sIx items.size items.size hi=items.size))
  (h:Q (.ref s.heap.objs.size) { s with heap:=s.heap.push { cls:=.type "tuple",data:=.seq ((items.toList.drop (sIx items.size 0 lo)).take (sIx items.size items.size hi-sIx items.size 0 lo)).toArray } })
  (hsz:items.size<=sizeLine):wpAny (model prog w) A (getItem (.ref t) (.ref sl)) Q E s:=by
 have htake:sizeOk (.seq ((items.toList.drop (sIx items.size 0 lo)).take (sIx items.size items.size hi-sIx items.size 0 lo)).toArray):=by
  show((items.toList.drop (sIx items.size 0 lo)).take (sIx items.size items.size hi-sIx items.size 0 lo)).toArray.size<=sizeLine
  rw [Qx,QU,Yd,Qp]
  lia
 have hj:sIx items.size items.size hi<=items.size:=zOS _ _ (Qi _) hi
 obtain⟨os,hos,hcs,hds⟩:=id hs
 have hTs:s.TypeIs (.ref sl) "slice":=⟨os,hos,hcs⟩
 unfold getItem
 try with_reducible refine Q2 ?_
 first | refine Qa (Qb ?_) | skip
 refine Qa (wpAny_sequenceKey ht.typeIs (by decide) ?_)
 refine Qa (Yw (name:=Str.ofString "__getitem__") ht.typeIs Yx
  (Yl Yx ht.typeIs entry_tuple_getitem ?_ (args_tuple_getitem _ _)))
 show wpAny _ _ (Builtin.Tuple.tupleItemsOf (.ref t) >>= _) _ _ s
 refine Qa (tupleItemsOf_ ht ?_)
 refine Qa (YI hTs ?_)
 rw [if_pos (by decide)]
 refine Qa (zKv hs pl pu ?_)
 have hno:¬ ((((sIx items.size 0 lo:Nat):Int) == 0 && (1:Int) == 1 && (sIx items.size items.size hi-sIx items.size 0 lo) == items.size)=true):=by
  intro q
  rw [QQ,QQ]at q
  have q1:((sIx items.size 0 lo:Nat):Int)=0:=Yj q.1.1
  have q2:sIx items.size items.size hi-sIx items.size 0 lo=items.size:=Yj q.2
  exact hw ⟨by lia,by lia⟩
 show wpAny _ _ (if(((sIx items.size 0 lo:Nat):Int) == 0 && (1:Int) == 1 && (sIx items.size items.size hi-sIx items.size 0 lo) == items.size)=true then _ else _) _ _ s
 rw [if_neg hno,zOp]
 first
  | exact Qa (m:=Builtin.Tuple.tupleExact _) (Yh (Qb ⟨_,rfl,Qb h⟩) htake)
  | exact Qa (m:=Builtin.Tuple.tupleExact _) (Yh (Qa (Qb (Qb ⟨_,rfl,Qb h⟩))) htake)
  | exact Qa (Qa (m:=Builtin.Tuple.tupleExact _) (Yh (Qb (Qb ⟨_,rfl,Qb h⟩)) htake))
  | exact Qa (Qa (m:=Builtin.Tuple.tupleExact _) (Yh (Qb ⟨_,rfl,Qb h⟩) htake))
end
end HT
namespace L2
open PySem PySem.Spec PyProof.Rows
abbrev TO:=St->Hp->(Option Int->Hp->Prop)->Prop
def PO(X:Cx)(e:Option Expr)(t:TO):Prop:=
 ∀(pins:List (Addr × Obj)) (s:Shared) (σ:St) (H:Hp) (Q:Option Int->Hp->Prop),Inv X pins σ H s->t σ H Q->
  wpAny (model X.prog X.w) X.A (evalPart e X.env) (fun u s'=>∃ o H',Inv X pins σ H' s'/\IsPart u o/\Q o H') X.xe s
def zPy:TO:=fun _ H Q=>Q none H
def tPart(t:TE):TO:=fun σ H Q=>t σ H fun x H1=>∃ i,x=.int i/\Q (some i) H1
theorem zI8{ns:List Int}:∀{us:List Value},Vals (ns.map V.int) us->IntsAre us ns:=by
 induction ns with
 | nil=>intro us r;rw [List.map_nil]at r;cases r;exact .nil
 | cons n ns ih=>
  intro us r
  rw [Qq]at r
  cases r with
  | cons r1 r2=>
   obtain⟨t,e⟩:=r1
   subst e
   exact .cons n t (ih r2)
section
variable {X:Cx}{e:Expr}{te:TE}{lo hi:Option Expr}{tl th:TO}{pos p2:Pos}
theorem zOt:PO X none zPy:=by
 intro pins s σ H Q I h
 rw [evalPart_none]
 exact Qb ⟨none,H,I,.none,h⟩
theorem zOu(h:PE X e te):PO X (some e) (tPart te):=by
 intro pins s σ H Q I hw
 rw [evalPart_some]
 refine thn (h pins s σ H _ I hw) fun u s1 zz=>?_
 obtain⟨x,H1,I1,r1,q1⟩:=zz
 obtain⟨i,rfl,q⟩:=q1
 obtain⟨t,rfl⟩:=r1
 exact⟨some i,H1,I1,.int i t,q⟩
def SlR(X:Cx)(r:V->Option Int->Option Int->Hp->VK->Prop):Prop:=
 ∀(pins:List (Addr × Obj)) (s:Shared) (σ:St) (H:Hp) (x:V) (v vl vu:Value) (lo hi:Option Int) (sl:Addr) (Q:VK),Inv X pins σ H s->RelV x v->s.heap.IsSliceOf sl vl vu .none->IsPart vl lo->IsPart vu hi->r x lo hi H Q->
  ∃ T id,typeLookup (.type T) "__getitem__"=pure (some (.builtin id))/\s.TypeIs v T/\wpAny (model X.prog X.w) X.A (getItem v (.ref sl)) (EP X pins σ Q) X.xe s
theorem SlR.or{r r':V->Option Int->Option Int->Hp->VK->Prop}(h:SlR X r)(h':SlR X r'):SlR X (fun x lo hi H Q=>r x lo hi H Q ∨ r' x lo hi H Q):=by
 intro pins s σ H x v vl vu lo hi sl Q I rx hs pl pu q
 rcases q with q | q
 ·exact h pins s σ H x v vl vu lo hi sl Q I rx hs pl pu q
 ·exact h' pins s σ H x v vl vu lo hi sl Q I rx hs pl pu q
def tSl(r:V->Option Int->Option Int->Hp->VK->Prop)(te:TE)(tl th:TO):TE:=fun σ H Q=>te σ H fun x H1=>tl σ H1 fun l H2=>th σ H2 fun u H3=>r x l u H3 Q
theorem zOf{r:V->Option Int->Option Int->Hp->VK->Prop}(hr:SlR X r)(he:PE X e te)(hl:PO X lo tl)(hu:PO X hi th):PE X (.Subscript e (.Slice lo hi none p2) pos) (tSl r te tl th):=by
 intro pins s σ H Q I h
 refine Subscript_ (thn (he pins s σ H _ I h) fun v s1 zz=>?_)
 obtain⟨x,H1,I1,r1,q1⟩:=zz
 refine wpAny_Slice (thn (hl pins s1 σ H1 _ I1 q1) fun vl s2 ⟨l,H2,I2,pl,q2⟩=>thn (hu pins s2 σ H2 _ I2 q2) fun vu s3 zz=>?_)
 obtain⟨u,H3,I3,pu,q3⟩:=zz
 rw [evalPart_none]
 refine Qb ?_
 have I4:Inv X pins σ H3 { s3 with heap:=s3.heap.push { cls:=.type "slice",data:=.fields #[vl,vu,.none] } }:=I3.kept (t':=s3.toks) fun b ob q=>Qd _ q
 obtain⟨T,id,hT,ht,hg⟩:=hr pins { s3 with heap:=s3.heap.push { cls:=.type "slice",data:=.fields #[vl,vu,.none] } } σ H3 x v vl vu l u s3.heap.objs.size Q I4 r1 (Heap.IsSliceOf.new ..) pl pu q3
 show wpAny (model X.prog X.w) X.A (subscriptTail e (.Slice lo hi none p2) v (.ref s3.heap.objs.size)) (EP X pins σ Q) X.xe { s3 with heap:=s3.heap.push { cls:=.type "slice",data:=.fields #[vl,vu,.none] } }
 exact tail_any (ops:=[.ref s3.heap.objs.size,v]) ht hT hg (by with_unfolding_all rfl)
def cutV(xs:List V)(lo hi:Option Int):List V:=(xs.drop (HT.sIx xs.length 0 lo)).take (HT.sIx xs.length xs.length hi-HT.sIx xs.length 0 lo)
theorem zIe(xs:List V)(lo hi:Option Int):(cutV xs lo hi).length<=xs.length:=by
 unfold cutV
 rw [QU,Yd]
 lia
def rSlT(K:PySem.W.Frag):V->Option Int->Option Int->Hp->VK->Prop:=fun x lo hi H Q=>∃ a xs,x=.ref a/\SqT K H a xs /\
 ¬ (HT.sIx xs.length 0 lo=0/\HT.sIx xs.length xs.length hi=xs.length)/\∀ p,H p=none->Q (.ref p) (upd H p (.tup (cutV xs lo hi)))
theorem zPb:SlR X (rSlT X.K):=by
 intro pins s σ H x v vl vu lo hi sl Q I rx hs pl pu h
 obtain⟨a,xs,rfl,hx,hw,q⟩:=h
 cases rx
 obtain⟨its,r,ht,hz⟩:=I.tuple hx
 have hlen:its.toArray.size=xs.length:=by rw [Qx];exact r.length.symm
 refine⟨"tuple",_,Yx.lookup,ht.typeIs,?_⟩
 refine HT.getItem_tuple_cut ht hs pl pu (by rw [hlen];exact hw) ?_ (by rw [hlen];exact hz)
 rw [hlen]
 refine⟨.ref s.heap.objs.size,_,I.laid (t':=s.toks) (o:=.tup (cutV xs lo hi)) (fun b ob q=>Qd _ q) (Qi _) ?_,rfl,q _ (I.hok.fresh (Qi _))⟩
 exact⟨QI (zIe xs lo hi) hz,_,(r.drop (HT.sIx xs.length 0 lo)).take (HT.sIx xs.length xs.length hi-HT.sIx xs.length 0 lo),IsTup.new _ _⟩
def rLtT(K:PySem.W.Frag):R2:=fun x y H Q=>∃ a b ns ms,x=.ref a/\y=.ref b/\SqT K H a (ns.map V.int)/\SqT K H b (ms.map V.int)/\Q (.bl (HT.lexLt ns ms)) H
theorem zNZ(hu:X.A.units<cLine):OpR X (compareOp .Lt) (rLtT X.K):=by
 intro pins s σ H x y v u Q I rx ry h
 obtain⟨a,b,ns,ms,rfl,rfl,ha,hb,q⟩:=h
 cases rx
 cases ry
 obtain⟨its,r1,p1,_⟩:=I.tuple ha
 obtain⟨its2,r2,p2,_⟩:=I.tuple hb
 have i1:IntsAre its.toArray.toList ns:=zI8 r1
 have i2:IntsAre its2.toArray.toList ms:=zI8 r2
 exact HT.lt_tupInts p1 p2 i1 i2 hu ⟨.bl (HT.lexLt ns ms),H,I,rfl,q⟩
def rCatT(K:PySem.W.Frag):R2:=fun x y H Q=>∃ a b xs ys,x=.ref a/\y=.ref b/\SqT K H a xs/\SqT K H b ys/\xs≠[]/\xs.length+ys.length<=sizeLine /\
 (ys=[]->Q (.ref a) H)/\(ys≠[]->∀ p,H p=none->Q (.ref p) (upd H p (.tup (xs++ys))))
theorem Vals.nil_iff{xs:List V}{us:List Value}(r:Vals xs us):us=[] ↔ xs=[]:=by
 cases r with
 | nil=>simp
 | cons _ _=>simp
theorem zNX:OpR X (binaryOp .Add) (rCatT X.K):=by
 intro pins s σ H x y v u Q I rx ry h
 obtain⟨a,b,xs,ys,rfl,rfl,ha,hb,hx,hz,q1,q2⟩:=h
 cases rx
 cases ry
 obtain⟨its,r1,p1,_⟩:=I.tuple ha
 obtain⟨its2,r2,p2,_⟩:=I.tuple hb
 refine HT.cat_tup p1 p2 (fun z=>hx (r1.nil_iff.mp z)) (fun z=>⟨.ref a,H,I,rfl,q1 (r2.nil_iff.mp z)⟩) (fun z=>?_) (by rw [<- r1.length,<- r2.length];exact hz)
 refine⟨.ref s.heap.objs.size,_,I.laid (t':=s.toks) (o:=.tup (xs++ys)) (fun b ob q=>Qd _ q) (Qi _) ?_,rfl,q2 (fun w=>z (r2.nil_iff.mpr w)) _ (I.hok.fresh (Qi _))⟩
 exact⟨by rw [Qv];exact hz,_,r1.append r2,IsTup.new _ _⟩
end
end L2
namespace L2
open PySem PySem.Spec PyProof.Rows
def ixN(n:Nat)(i:Int):Option Nat:=if 0<=i then(if i<n then some i.toNat else none)else if -(n:Int)<=i then some (i+n).toNat else none
def atI{α:Type}(xs:List α)(i:Int):Option α:=(ixN xs.length i).bind fun j=>xs[j]?
theorem zMO{n:Nat}{i:Int}{j:Nat}(h:ixN n i=some j):seqIndex? i n=some j/\j<n/\-(n:Int)<=i/\i<n:=by
 unfold ixN at h
 by_cases h0:0<=i
 ·rw [if_pos h0]at h
  by_cases h1:i<n
  ·rw [if_pos h1]at h
   have e:i.toNat=j:=Qy h
   exact⟨by rw [seqIndex_of h0 h1,e],by lia,by lia,h1⟩
  ·rw [if_neg h1]at h;cases h
 ·rw [if_neg h0]at h
  by_cases h1:-(n:Int)<=i
  ·rw [if_pos h1]at h
   have e:(i+n).toNat=j:=Qy h
   exact⟨by rw [seqIndex_neg (by lia) h1,e],by lia,h1,by lia⟩
  ·rw [if_neg h1]at h;cases h
theorem zH2{α:Type}{xs:List α}{i:Int}{v:α}(h:atI xs i=some v):∃ j,seqIndex? i xs.length=some j/\xs[j]?=some v/\j<xs.length/\-(xs.length:Int)<=i/\i<xs.length:=by
 unfold atI at h
 cases e:ixN xs.length i with
 | none=>rw [e]at h;cases h
 | some j=>
  rw [e]at h
  obtain⟨h1,h2,h3,h4⟩:=zMO e
  exact⟨j,h1,h,h2,h3,h4⟩
theorem atI_nat{α:Type}{xs:List α}{j:Nat}{v:α}(h:xs[j]?=some v):atI xs (j:Int)=some v:=by
 have hj:j<xs.length:=(Qc.mp h).1
 have e:ixN xs.length (j:Int)=some j:=by
  unfold ixN
  rw [if_pos (by lia),if_pos (by lia)];simp
 unfold atI;rw [e];exact h
theorem atI_last{α:Type}(xs:List α)(v:α):atI (xs++[v]) (-1)=some v:=by
 have hl:(xs++[v]).length=xs.length+1:=by simp
 have e:ixN (xs++[v]).length (-1)=some xs.length:=by
  unfold ixN
  rw [hl,if_neg (by decide),if_pos (by lia)]
  congr 1
  lia
 unfold atI
 rw [e]
 show(xs++[v])[xs.length]?=some v
 simp
def zHZ(b:Expr):Prop:=∀ o i,subscripted b false o i=operate [o,i] (getItem o i)
def IxR(X:Cx)(r:R2):Prop:=
 ∀(value slice:Expr) (pins:List (Addr × Obj)) (s:Shared) (σ:St) (H:Hp) (x y:V) (v u:Value) (Q:VK),Inv X pins σ H s->RelV x v->RelV y u->r x y H Q->
  subscripted slice false v u=operate [v,u] (getItem v u)->wpAny (model X.prog X.w) X.A (subscriptTail value slice v u) (EP X pins σ Q) X.xe s
def MtR(X:Cx)(id:String)(r:V->List V->Hp->VK->Prop):Prop:=
 ∀(pins:List (Addr × Obj)) (s:Shared) (σ:St) (H:Hp) (x:V) (xs:List V) (v:Value) (us:List Value) (Q:VK),Inv X pins σ H s->RelV x v->Vals xs us->r x xs H Q->
  wpAny (model X.prog X.w) X.A (call (.builtin id) (v::us)) (EP X pins σ Q) X.xe s
section
variable {X:Cx}{a b:Expr}{ta tb:TE}{pos:Pos}
theorem IxR.or{r r':R2}(h:IxR X r)(h':IxR X r'):IxR X (fun x y H Q=>r x y H Q ∨ r' x y H Q):=by
 intro value slice pins s σ H x y v u Q I rx ry q hs
 rcases q with q | q
 ·exact h value slice pins s σ H x y v u Q I rx ry q hs
 ·exact h' value slice pins s σ H x y v u Q I rx ry q hs
theorem zFB{r:R2}(hr:IxR X r)(ha:PE X a ta)(hb:PE X b tb)(hs:zHZ b):PE X (.Subscript a b pos) (tOp r ta tb):=by
 intro pins s σ H Q I h
 exact Subscript_ (binT ha hb I h fun v u s2 x y H2 I2 rx ry q=>hr a b pins s2 σ H2 x y v u Q I2 rx ry q (hs _ _))
def rIxL(K:PySem.W.Frag):R2:=fun x y H Q=>∃ p xs i v,x=.ref p/\y=.int i/\SqL K H p xs/\atI xs i=some v/\Q v H
def rIxT(K:PySem.W.Frag):R2:=fun x y H Q=>∃ p xs i v,x=.ref p/\y=.int i/\SqT K H p xs/\atI xs i=some v/\Q v H
theorem zMP:IxR X (rIxL X.K):=by
 intro value slice pins s σ H x y v u Q I rx ry h hs
 obtain⟨p,xs,i,z,rfl,rfl,hq,he,q⟩:=h
 cases rx
 obtain⟨t,rfl⟩:=ry
 obtain⟨its,r,pl,hz⟩:=I.list hq
 obtain⟨j,h1,h2,h3,h4,h5⟩:=zH2 he
 obtain⟨w,ew,rw'⟩:=r.get h2
 have hl:=r.length
 have hn:=zGV
 have fin:EP X pins σ Q w s:=⟨z,H,I,rw',q⟩
 by_cases h0:0<=i
 ·have hj:i.toNat=j:=by
   rw [seqIndex_of h0 h5]at h1
   exact Qy h1
  exact item_listR pl.isList h0 (by lia) (by rw [hj];simpa using ew) fin hs
 ·have hj:(i+(its.toArray.size:Int)).toNat=j:=by
   rw [seqIndex_neg (by lia) h4]at h1
   rw [Qx,<- hl]
   exact Qy h1
  exact subscriptTail_builtinR (x:=w) pl.isList.typeIs slot_list_getitem.lookup
   (wpAny_getItem_list_neg (Q:=fun r s'=>r=w/\EP X pins σ Q r s') pl.isList (by lia) (by rw [Qx] <;> lia) (by lia) (by rw [hj];simpa using ew) ⟨rfl,fin⟩) hs
theorem zE7:IxR X (rIxT X.K):=by
 intro value slice pins s σ H x y v u Q I rx ry h hs
 obtain⟨p,xs,i,z,rfl,rfl,hq,he,q⟩:=h
 cases rx
 obtain⟨t,rfl⟩:=ry
 obtain⟨its,r,pl,hz⟩:=I.tuple hq
 obtain⟨j,h1,h2,h3,h4,h5⟩:=zH2 he
 obtain⟨w,ew,rw'⟩:=r.get h2
 have hl:=r.length
 have hn:=zGV
 have fin:EP X pins σ Q w s:=⟨z,H,I,rw',q⟩
 exact subscriptTail_builtinR (x:=w) pl.typeIs slot_tuple_getitem.lookup
  (getItem_tuple (j:=j) (Q:=fun r s'=>r=w/\EP X pins σ Q r s') pl (by lia) (by lia) (by rw [Qx,<- hl];exact h1) (by simpa using ew) ⟨rfl,fin⟩) hs
theorem zPd(lo hi:Option Int)(n:Nat):(sliceBounds lo hi none n).1=((HT.sIx n 0 lo:Nat):Int)/\(sliceBounds lo hi none n).2.1=((HT.sIx n n hi:Nat):Int)/\(sliceBounds lo hi none n).2.2=1:=by
 refine⟨?_,?_,rfl⟩
 ·cases lo with
  | none=>simp [sliceBounds,HT.sIx]
  | some i=>
   simp only [sliceBounds,HT.sIx,Option.getD_none,show(1:Int) > 0 by decide,if_true]
   by_cases h:i<0
   ·simp only [h,if_true];exact HT.sb1 h
   ·simp only [h,if_false];exact HT.sb2 h
 ·cases hi with
  | none=>simp [sliceBounds,HT.sIx]
  | some i=>
   simp only [sliceBounds,HT.sIx,Option.getD_none,show(1:Int) > 0 by decide,if_true]
   by_cases h:i<0
   ·simp only [h,if_true];exact HT.sb1 h
   ·simp only [h,if_false];exact HT.sb2 h
theorem zPc(its:List Value)(lo hi:Option Int):slicePick its.toArray lo hi none=((its.drop (HT.sIx its.length 0 lo)).take (HT.sIx its.length its.length hi-HT.sIx its.length 0 lo)).toArray:=by
 obtain⟨h1,h2,h3⟩:=zPd lo hi its.toArray.size
 unfold slicePick
 rw [h1,h2,h3]
 simp only [sliceRange_one,pick_run,Qx] <;> rfl
def rSlL(K:PySem.W.Frag):V->Option Int->Option Int->Hp->VK->Prop:=fun x lo hi H Q=>∃ a xs,x=.ref a/\SqL K H a xs/\∀ p,H p=none->Q (.ref p) (upd H p (.lst (cutV xs lo hi)))
theorem zPa:SlR X (rSlL X.K):=by
 intro pins s σ H x v vl vu lo hi sl Q I rx hs pl pu h
 obtain⟨a,xs,rfl,hx,q⟩:=h
 cases rx
 obtain⟨its,r,ht,hz⟩:=I.list hx
 have hlen:=r.length
 refine⟨"list",_,slot_list_getitem.lookup,ht.isList.typeIs,?_⟩
 refine wpAny_getItem_list_slice ht.isList hs pl pu .none (by simp) ?_ (by rw [Qx] <;> lia)
 rw [zPc,<- hlen]
 refine⟨.ref s.heap.objs.size,_,I.laid (t':=s.toks) (o:=.lst (cutV xs lo hi)) (fun b ob q=>Qd _ q) (Qi _) ?_,rfl,q _ (I.hok.fresh (Qi _))⟩
 exact⟨QI (zIe xs lo hi) hz,_,0,(r.drop (HT.sIx xs.length 0 lo)).take (HT.sIx xs.length xs.length hi-HT.sIx xs.length 0 lo),Qu _ rfl⟩
theorem zF5:zA0 X (.builtin "len") (fun xs H Q=>∃ p ys,xs=[.ref p]/\(SqL X.K H p ys ∨ SqT X.K H p ys)/\Q (.int ys.length) H):=by
 intro pins s σ H xs us Q I r h
 obtain⟨p,ys,rfl,hq,q⟩:=h
 obtain⟨u,rfl,rx⟩:=zCf r
 cases rx
 have hn:=zGV
 rcases hq with hq | hq
 ·obtain⟨its,r',pl,hz⟩:=I.list hq
  have hlen:=r'.length
  exact Calls.call_len_list pl.isList (by simp only [Qx] <;> lia) ⟨.int ys.length,H,I.tok _,⟨s.toks+1,by rw [Qx,hlen]⟩,q⟩
 ·obtain⟨its,r',pl,hz⟩:=I.tuple hq
  have hlen:=r'.length
  exact len_tuple pl (by simp only [Qx] <;> lia) ⟨.int ys.length,H,I.tok _,⟨s.toks+1,by rw [Qx,hlen]⟩,q⟩
theorem zH8:zA0 X (.type "list") (fun xs H Q=>∃ p ys,xs=[.ref p]/\(SqL X.K H p ys ∨ SqT X.K H p ys)/\∀ l,H l=none->Q (.ref l) (upd H l (.lst ys))):=by
 intro pins s σ H xs us Q I r h
 obtain⟨p,ys,rfl,hq,q⟩:=h
 obtain⟨u,rfl,rx⟩:=zCf r
 cases rx
 have fin:∀(its:List Value),Vals ys its->ys.length<=sizeLine->∀(h':Heap) (c':Nat),(∀ b o',s.heap.get? b=some o'->h'.get? b=some o')->
   h'.get? s.heap.objs.size=some { cls:=.type "list",dict:=none,data:=.seq its.toArray c',slots:=#[] }->EP X pins σ Q (.ref s.heap.objs.size) { s with heap:=h' }:=fun its r' hz h' c' kp e=>
  ⟨.ref s.heap.objs.size,_,I.laid (t':=s.toks) kp (Qi _) (show zA1 X.prog X.w _ h' _ (.lst ys)from⟨hz,its,c',r',e⟩),rfl,q _ (I.hok.fresh (Qi _))⟩
 rcases hq with hq | hq
 ·obtain⟨its,r',pl,hz⟩:=I.list hq
  have hlen:=r'.length
  obtain⟨o,ho,hc,n,hd⟩:=pl.isList
  exact call_list_seq p (.inl rfl) ho hc hd (fun h' c' kp e=>fin its r' hz h' c' kp e) (by simp only [Qx] <;> lia)
 ·obtain⟨its,r',pl,hz⟩:=I.tuple hq
  have hlen:=r'.length
  obtain⟨o,ho,hc,n,hd⟩:=pl
  exact call_list_seq p (.inr rfl) ho hc hd (fun h' c' kp e=>fin its r' hz h' c' kp e) (by simp only [Qx] <;> lia)
theorem zLs:zA0 X (.type "tuple") (fun xs H Q=>∃ p ys,xs=[.ref p]/\((SqL X.K H p ys/\∀ l,H l=none->Q (.ref l) (upd H l (.tup ys))) ∨ (SqT X.K H p ys/\Q (.ref p) H))):=by
 intro pins s σ H xs us Q I r h
 obtain⟨p,ys,rfl,h⟩:=h
 obtain⟨u,rfl,rx⟩:=zCf r
 cases rx
 rcases h with⟨hq,q⟩ | ⟨hq,q⟩
 ·obtain⟨its,r',pl,hz⟩:=I.list hq
  have hlen:=r'.length
  refine call_tuple_list pl.isList (fun h' kp=>?_) (by simp only [Qx] <;> lia)
  have I1:Inv X pins σ H { s with heap:=h' }:=I.kept (t':=s.toks) kp
  have I2:Inv X pins σ (upd H h'.objs.size (.tup ys)) { s with heap:=h'.push { cls:=.type "tuple",data:=.seq its.toArray } }:=
   I1.laid (t':=s.toks) (fun b o e=>Qd _ e) (Qi _) (show zA1 X.prog X.w _ _ _ (.tup ys)from⟨hz,its,r',IsTup.new _ _⟩)
  exact⟨.ref h'.objs.size,_,I2,rfl,q _ (I1.hok.fresh (Qi _))⟩
 ·obtain⟨its,r',pl,hz⟩:=I.tuple hq
  exact call_tuple_same pl ⟨.ref p,H,I,rfl,q⟩
def tyV(K:PySem.W.Frag)(T:String)(x:V)(H:Hp):Prop:=match x with
 | .str _=>T="str"
 | .int _=>T="int"
 | .ref p=>(T="list"/\∃ xs,SqL K H p xs) ∨ (T="tuple"/\∃ o,K.lookup p=some o/\o.cls=.type "tuple"/\o.dict=none) ∨
   (T="dict"/\((∃ kvs,H p=some (.dK kvs)) ∨ ∃ kvs,H p=some (.dT kvs))) ∨ (T="set"/\∃ S n,H p=some (.set S n))
 | _=>False
theorem zKN{pins:List (Addr × Obj)}{σ:St}{H:Hp}{s:Shared}{T:String}{x:V}{v:Value}(I:Inv X pins σ H s)(r:RelV x v)(ty:tyV X.K T x H):
  s.TypeIs v T/\∀ a,v=.ref a->∃ ob,s.heap.get? a=some ob/\ob.dict=none:=by
 cases x with
 | str z=>
  obtain⟨t,rfl⟩:=r
  cases(show T="str" from ty)
  exact⟨typeIs_str s z t,fun _ e=>nomatch e⟩
 | int i=>
  obtain⟨t,rfl⟩:=r
  cases(show T="int" from ty)
  exact⟨typeIs_int s i t,fun _ e=>nomatch e⟩
 | ref p=>
  cases r
  rcases ty with⟨rfl,xs,hq⟩ | ⟨rfl,o,hk,hc,hd⟩ | ⟨rfl,hk⟩ | ⟨rfl,S,n,hk⟩
  ·obtain⟨its,_,pl,_⟩:=I.list hq
   refine⟨pl.isList.typeIs,fun a e=>?_⟩
   cases e
   obtain⟨o,n,e,c,hd,_⟩:=pl
   exact⟨o,e,hd⟩
  ·refine⟨⟨o,I.kIn p o hk,hc⟩,fun a e=>?_⟩
   cases e
   exact⟨o,I.kIn _ o hk,hd⟩
  ·have z:∃ o,s.heap.get? p=some o/\o.ExactDict:=by
    rcases hk with⟨kvs,hk⟩ | ⟨kvs,hk⟩
    ·obtain⟨_,_,_,_,o,_,_,e,ex,_⟩:=I.hok p _ hk
     exact⟨o,e,ex⟩
    ·obtain⟨_,_,_,_,o,_,_,e,ex,_⟩:=I.hok p _ hk
     exact⟨o,e,ex⟩
   obtain⟨o,e,ex⟩:=z
   refine⟨⟨o,e,ex.1⟩,fun a e2=>?_⟩
   cases e2
   exact⟨o,e,ex.2.1⟩
  ·obtain⟨o,_,_,_,e,ex,_⟩:=I.hok p _ hk
   refine⟨⟨o,e,ex.1⟩,fun a e2=>?_⟩
   cases e2
   exact⟨o,e,ex.2.1⟩
 | _=>exact False.elim ty
def tBM0(K:PySem.W.Frag)(T:String)(r:V->List V->Hp->VK->Prop)(to:TE):TE:=fun σ H Q=>to σ H fun x H1=>tyV K T x H1/\r x [] H1 Q
def tBM(K:PySem.W.Frag)(T:String)(r:V->List V->Hp->VK->Prop)(to:TE)(t:TA):TE:=fun σ H Q=>to σ H fun x H1=>tyV K T x H1/\t σ H1 fun xs H2=>r x xs H2 Q
variable {o e:Expr}{es:List Expr}{to:TE}{t:TA}{name:Str}{apos cpos:Pos}{T id:String}{r:V->List V->Hp->VK->Prop}
theorem zOb(pa:PlainAttrs T)(slot:Slot T name id)(hty:typeOf (.builtin id)=pure (.type "method_descriptor"))(hm:MtR X id r)(ho:PE X o to)
  (hbase:attributeBase o name X.env (eval o X.env)=eval o X.env:=by rfl) (hline:(apos.endLine == cpos.line)=true:=by rfl):PE X (.Call (.Attribute o name apos) [] [] cpos) (tBM0 X.K T r to):=by
 intro pins s σ H Q I h
 refine wpAny_Call_method0_late hbase hline (thn (ho pins s σ H _ I h) fun v s1 zz=>?_)
 obtain⟨x,H1,I1,r1,ty,q1⟩:=zz
 obtain⟨h1,h2⟩:=zKN I1 r1 ty
 exact⟨T,id,pa,slot,hty,h1,h2,Calls.callWith_builtin rfl (PySem.evalArgs_none (hm pins s1 σ H1 x [] v [] Q I1 r1 .nil q1))⟩
theorem zEq(pa:PlainAttrs T)(slot:Slot T name id)(hty:typeOf (.builtin id)=pure (.type "method_descriptor"))(hm:MtR X id r)(ho:PE X o to)(ha:PA X (e::es) t)
  (hbase:attributeBase o name X.env (eval o X.env)=eval o X.env:=by rfl)
  (hfew:((backTo cpos (starEach (e::es) X.env)).all (fun x => !x.1) && (backToKw cpos (keywordEach [] X.env)).all (fun x=>x.1.isSome)
   && decide ((e::es).length+([]:List Keyword).length+(if([]:List Keyword).isEmpty then 0 else 1)<30))=true:=by rfl)
  (hline:(apos.endLine == cpos.line)=true:=by rfl) (hs:starEach (e::es) X.env=(false,eval e X.env)::starEach es X.env:=by rfl) (hplain:(backTo cpos (starEach es X.env)).any (·.1)=false:=by rfl):
  PE X (.Call (.Attribute o name apos) (e::es) [] cpos) (tBM X.K T r to t):=by
 intro pins s σ H Q I h
 refine wpAny_Call_method_late hbase hfew hline rfl (thn (ho pins s σ H _ I h) fun v s1 zz=>?_)
 obtain⟨x,H1,I1,r1,ty,q1⟩:=zz
 obtain⟨h1,h2⟩:=zKN I1 r1 ty
 refine⟨T,id,pa,slot,hty,h1,h2,?_⟩
 have hA:=ha cpos pins s1 σ H1 _ I1 q1
 rw [hs]at hA ⊢
 refine Calls.callWith_builtin (by show(false || (backTo cpos (starEach es X.env)).any (·.1))=false;rw [hplain] <;> rfl) (Calls.evalArgs_plain ?_)
 exact thn hA fun us s2 ⟨vs,H2,I2,r2,q2⟩=>hm pins s2 σ H2 x vs v us Q I2 r1 r2 q2
end
end L2
namespace L2
open PySem PySem.Spec PyProof.Rows
def MtM(X:Cx)(id:String)(r:V->List V->Hp->VK->Prop):Prop:=
 ∀(pins:List (Addr × Obj)) (s:Shared) (σ:St) (H:Hp) (x:V) (xs:List V) (v:Value) (us:List Value) (Q:VK),Inv X pins σ H s->RelV x v->Vals xs us->r x xs H Q->
  wpAny (model X.prog X.w) X.A (call (.builtin id) (v::us)) (EP X pins σ Q) X.xe s
theorem Vals.one{x:V}{us:List Value}(h:Vals [x] us):∃ u,us=[u]/\RelV x u:=by
 cases h with
 | cons r h=>cases h;exact⟨_,rfl,r⟩
theorem Vals.zero:∀{us:List Value},Vals [] us->us=[]
 | _,.nil=>rfl
theorem Vals.dropLast{xs:List V}{us:List Value}(h:Vals xs us):Vals xs.dropLast us.dropLast:=by
 induction h with
 | nil=>exact .nil
 | cons r t ih=>
  cases t with
  | nil=>exact .nil
  | cons q t'=>exact .cons r ih
theorem zMf{α:Type}(l:List α):l.eraseIdx (l.length-1)=l.dropLast:=by
 induction l with
 | nil=>rfl
 | cons a r ih=>
  cases r with
  | nil=>rfl
  | cons b r=>
   have e:(a::b::r).length-1=((b::r).length-1)+1:=by
    have h1:(a::b::r).length=r.length+2:=rfl
    have h2:(b::r).length=r.length+1:=rfl
    lia
   rw [e,List.eraseIdx_cons_succ,ih]
   all_goals rfl
section
variable {X:Cx}{pins:List (Addr × Obj)}{σ:St}{H:Hp}{s:Shared}{l b:Addr}{xs ys zs:List V}
theorem Inv.lset{its its':List Value}{n:Nat}{f:Array Value->Array Value}{t':Nat}(I:Inv X pins σ H s)(hH:H l=some (.lst xs))
  (e:s.heap.get? l=some { cls:=.type "list",data:=.seq its.toArray n }) (hf:f its.toArray=its'.toArray) (hv:Vals ys its') (hz:ys.length<=sizeLine):
  Inv X pins σ (upd H l (.lst ys)) { s with heap:=s.heap.update l (Obj.mapSeq f),toks:=t' }:=by
 have q:=PySem.IsL.update e f
 rw [hf]at q
 refine I.write (x:=l) (e:=l) (by rw [hH];exact trivial) (.inl rfl) (fun b' u hb hu=>(Heap.get?_update_other s.heap (Obj.mapSeq f) (Ne.symm hb)).trans hu) ⟨_,q⟩ ?_
 exact⟨hz,its',_,hv,q⟩
theorem Inv.lstM(I:Inv X pins σ H s)(hH:H l=some (.lst xs)):xs.length<=sizeLine/\∃(its:List Value) (n:Nat),Vals xs its/\xs.length=its.length/\s.heap.get? l=some { cls:=.type "list",data:=.seq its.toArray n }:=by
 obtain⟨z,its,n,r,e⟩:=I.hok l _ hH
 exact⟨z,its,n,r,r.length,e⟩
theorem zNH{n:Nat}(h:n<=sizeLine):Builtin.List.listTooLong n=false:=by
 unfold Builtin.List.listTooLong
 exact decide_eq_false (by lia)
end
section
variable {X:Cx}
def zOG:V->List V->Hp->VK->Prop:=fun x vs H Q=>∃ l xs y,x=.ref l/\vs=[y]/\H l=some (.lst xs)/\xs.length<sizeLine/\Q .non (upd H l (.lst (xs++[y])))
theorem zEj:MtM X "list.append" zOG:=by
 intro pins s σ H x vs v us Q I rx rv h
 obtain⟨l,xs,y,rfl,rfl,hH,hz,q⟩:=h
 cases rx
 obtain⟨u,rfl,ru⟩:=rv.one
 obtain⟨z,its,n,r,hl,e⟩:=I.lstM hH
 refine call_meets F.slot_list_append ⟨_,e,rfl⟩ F.entry_list_append (F.args_list_append_2 _ _) (PySem.list_append l its.toArray n u (by rw [Qx];lia)) ⟨e,?_⟩
 refine⟨.non,_,I.lset (its':=its++[u]) hH e (by simp) (r.append (.cons ru .nil)) ?_,rfl,q⟩
 rw [Qv,Yg]
 lia
def rPop:V->List V->Hp->VK->Prop:=fun x vs H Q=>∃ l xs y,x=.ref l/\vs=[]/\H l=some (.lst xs)/\xs[xs.length-1]?=some y/\Q y (upd H l (.lst xs.dropLast))
theorem zNk:MtM X "list.pop" rPop:=by
 intro pins s σ H x vs v us Q I rx rv h
 obtain⟨l,xs,y,rfl,rfl,hH,hy,q⟩:=h
 cases rx
 have hus:=rv.zero
 subst hus
 obtain⟨z,its,n,r,hl,e⟩:=I.lstM hH
 obtain⟨u,hu,ru⟩:=r.get hy
 have hy':its.toArray[its.toArray.size-1]?=some u:=by
  show its.toArray[its.length-1]?=some u
  rw [<- QA,<- hl]
  exact hu
 refine call_meets F.slot_list_pop ⟨_,e,rfl⟩ F.entry_list_pop (F.args_list_pop_1 _) (MeetsSeq.list_pop_last l its.toArray n u hy' (by rw [Qx];lia)) ⟨e,?_⟩
 refine⟨y,_,I.lset (its':=its.dropLast) hH e ?_ r.dropLast ?_,ru,q⟩
 ·show its.toArray.eraseIdxIfInBounds (its.toArray.size-1)=its.dropLast.toArray
  rw [Qx,List.eraseIdxIfInBounds_toArray,zMf]
 ·rw [List.length_dropLast]
  lia
end
section
variable {prog:Program}{w:World}{A:Around}{E:Value->Shared->Prop}{s:Shared}
end
section
variable {X:Cx}
end
end L2
namespace Att
open PySem PySem.W PySem.Calls PyProof.Rows
theorem zMF{P:Params}{h:Heap}:∀(ns:List Int) (vs:List Value),WellAll P h vs (ns.map WData.int)->IntsAre vs ns:=by
 intro ns
 induction ns with
 | nil=>
  intro vs w
  rw [List.map_nil]at w
  cases w
  exact .nil
 | cons n ns ih=>
  intro vs w
  rw [Qq]at w
  cases w with
  | cons a b=>
   cases a
   exact .cons _ _ (ih _ b)
theorem zO1{l:OpenLaw}{n:Nat}(hn:l.most=some n){P:Params}{h:Heap}{args:List WData}{vals:List Value}
  (hpre:l.row.toRowW.claim.pre args=true) (hwl:WellAll P h vals args):
  ∃ a vs ns,vals=[Value.ref a]/\args=[WData.list (ns.map WData.int)]/\h.get? a=some { cls:=.type "list",data:=.seq vs.toArray }/\IntsAre vs ns/\ns.length<=n:=by
 have hsh:WShape.hasAll [] args [.list .int]=true:=(pre_splitW hpre).1
 have hc:l.pre.holds [] { args:=args }=true:=(pre_splitW hpre).2
 obtain⟨d,r,rfl,h1,h2⟩:=hasAllW_cons hsh
 obtain rfl:=hasAllW_nil h2
 obtain⟨xs,rfl,h3⟩:=hasW_list h1
 obtain⟨ns,rfl⟩:=items_int h3
 have hlen:ns.length<=n:=by
  unfold OpenLaw.pre at hc
  have h4:(WTm.not (.lt (.lit (.int (n:Int))) (.len (.arg 0)))).holds [] { args:=[.list (ns.map .int)] }=true:=by
   have h4:=(holds_andW hc).1
   rw [hn]at h4
   exact h4
  have h5:=condW_of h4 (w_not (w_lt w_lit (w_len_list (w_arg rfl))))
  rw [Ql]at h5
  refine Yz fun q=>?_
  have q':(n:Int)<((ns.length:Nat):Int):=by lia
  first
   | (rw [decide_eq_true q']at h5;exact absurd h5 (by decide))
   | (simp at h5;lia)
 cases hwl with
 | cons w1 w2=>
  cases w2
  cases w1 with
  | list ho hall=>exact⟨_,_,ns,rfl,rfl,ho,zMF ns _ hall,hlen⟩
theorem zOv(l:OpenLaw)(args:List WData):l.row.toRowW.claim.post args (.bool true) args=true:=
 postW_of (r:=l.row.toRowW) (X:=(true == true))
  (show WShape.has [] (.bool true) .bool=true by first | rfl | decide | simp [WShape.has,WShape.arms,WShape.armsAll])
  (show(WTm.eq .res (.lit (.bool true))).value [] { args:=args,res:=some (.bool true),after:=args }=some (.bool (true == true))from w_eq_bool (w_res rfl) w_lit) rfl
theorem attach_call{l:OpenLaw}{n:Nat}{q:Program}{loose:List Str}{XP:(Str->Option Value)->Heap->Prop}{YP:World->Heap->Prop}{d:DefRec}
  (hn:l.most=some n) (hdf:d.params.defaults=[])
  (call:∀(w:World) (s₀ s₁:Shared) (mg mb:Str->Option Value) (fa:Addr) (o:Obj) (pm cd doc:Value) (a:Addr) (vs:List Value) (ns:List Int),
   Ground q loose [] XP w s₀ mg mb s₁.heap->YP w s₁.heap->
   s₁.heap.get? fa=some o->o.data=.func (docDef d.name d.params d.body d.scope pm cd doc)->s₁.heap.CodeRec cd d.name->mg d.name=some (.ref fa)->
   s₁.heap.get? a=some { cls:=.type "list",data:=.seq vs.toArray }->IntsAre vs ns->ns.length<=n->s₁.gens=#[]->
   codeAny (model l.prog w) callerA (.call (.ref fa) ⟨[.ref a],[]⟩) (fun r s'=>r=.ok (.ret (.bool true))/\OldK s₁.heap s'.heap/\s'.os=s₁.os/\AllBare s'.gens) s₁):
  WalkO q loose XP YP l.row.toRowW d [] (fun f vs=>PySem.call f vs):=by
 intro w s₀ s₁ mg mb G Y fa o pm cd doc dV kV ho hd hcd hD hmg hg args vals as hpre hlay hrd hwl hlo
 obtain rfl:dV=.none:=Dflts.none hD hdf
 obtain rfl:kV=.none:=Dflts.noKw hD
 obtain⟨a,vs,ns,rfl,rfl,hobj,hints,hlen⟩:=zO1 hn hpre hwl
 refine enter_call (Y6 (call w s₀ s₁ mg mb fa o pm cd doc a vs ns G Y ho (fd_plain hd) hcd hmg hobj hints hlen hg) fun r s' hq=>?_)
 obtain⟨rfl,h2,h3,h4⟩:=hq
 exact⟨.inl ⟨.bool true,.bool true,[],rfl,fun _=>rfl,.bool true,zOv l _,fun _=>⟨List.Pairwise.nil,fun _ hm=>(nomatch hm)⟩⟩,h2,h3,h4⟩
section
variable {prog:Program}{w:World}{A:Around}{E:Value->Shared->Prop}{s:Shared}{K:Frag}
end
end Att
namespace L2
open PySem PySem.Spec PyProof.Rows
theorem zKS:∀{vs:List Value}{ns:List Int},IntsAre vs ns->Vals (ns.map V.int) vs
 | _,_,.nil=>.nil
 | _,_,.cons n t h=>.cons ⟨t,rfl⟩ (zKS h)
def Only(H:Hp):Prop:=∀ b,H b=none ∨ ∃ o xs,H b=some (.frz o (.lst xs))
theorem zMZ{P:Program}{w:World}{K:PySem.W.Frag}{mg mb:Str->Option Value}{CX:CXT}{k:Nat}{fa a:Addr}{fd:FuncData}{x:Str}{sp:Sp}{s₁:Shared}{vs:List Value}{ns:List Int}
  (KX:K.In s₁.heap) (hns:s₁.heap.Ns mainGlobals mg) (hb:s₁.heap.Ns builtinsNs mb) (hbb:∀ x:Str,x≠"__name__"->mb x=bootBuiltins x) (hlim:s₁.heap.NoLimit) (hg:s₁.gens=#[])
  (ha:s₁.heap.get? a=some { cls:=.type "list",data:=.seq vs.toArray }) (hi:IntsAre vs ns) (hl:ns.length<=sizeLine) (hr:Room k callerA)
  (F:∀ base:Heap,K.In base->base.Ns mainGlobals mg->FnOk P w K mg base CX k fa fd [x] sp) (hbind:∀(s:Shared) (u:Value),BindsTo s fd ⟨[u],[]⟩ [(x,u)])
  (hsp:∀ H:Hp,Only H->SqL K H a (ns.map V.int)->sp [.ref a] H (fun v _=>v=.bl true) fun _ _ _=>False)
  (hCX:∀ H e s',CX [] H s₁ (fun _ _ _=>False) e s'->False):
  codeAny (model P w) callerA (.call (.ref fa) ⟨[.ref a],[]⟩) (fun r s'=>r=.ok (.ret (.bool true))/\OldK s₁.heap s'.heap/\s'.os=s₁.os/\AllBare s'.gens) s₁:=by
 have rv:=zKS hi
 have lenV:=hi.length
 have core:∀ H:Hp,Only H->SqL K H a (ns.map V.int)->HOk P w H s₁.heap->(∀ b,H b≠none->b=a)->(H a≠none->K.lookup a=none)->
   codeAny (model P w) callerA (.call (.ref fa) ⟨[.ref a],[]⟩) (fun r s'=>r=.ok (.ret (.bool true))/\OldK s₁.heap s'.heap/\s'.os=s₁.os/\AllBare s'.gens) s₁:=by
  intro H hO hS hok hA hK
  have base_of:∀{b:Addr}{o:Obj},s₁.heap.get? b=some o->H b=none->(hidT s₁.heap H).get? b=some o:=fun e n=>zMz e n
  have noA:∀{b:Addr}{o:Obj}{es:Array DictEntry}{ep:Nat},s₁.heap.get? b=some o->o.data=.dict es ep->H b=none:=fun{b o es ep} e d=>by
   cases q:H b with
   | none=>rfl
   | some u=>
    have e':b=a:=hA b (by rw [q];simp)
    subst e'
    rw [ha]at e;cases e
    have d':Data.seq vs.toArray _=Data.dict es ep:=d
    cases d'
  have nsK:∀{b:Addr}{m:Str->Option Value},s₁.heap.Ns b m->(hidT s₁.heap H).Ns b m:=fun{b m} ⟨o,es,ep,e,d,r⟩=>⟨o,es,ep,base_of e (noA e d),d,r⟩
  have hKb:K.In (hidT s₁.heap H):=fun b o e=>base_of (KX b o e) (by
   cases q:H b with
   | none=>rfl
   | some u=>
    have e':b=a:=hA b (by rw [q];simp)
    subst e'
    rw [hK (by rw [q];simp)]at e;cases e)
  have hM:Mod K mg (hidT s₁.heap H):=⟨hKb,nsK hns,⟨mb,nsK hb,hbb⟩,let⟨mc,h1,h2⟩:=hlim;⟨mc,nsK h1,h2⟩⟩
  have e0:Env0 P w K mg (hidT s₁.heap H) callerA [] s₁ H:=⟨rfl,hM,fun b o e=>zNI e,Nat.le_of_eq (zMA _ _),trivial,fun b hb=>absurd (show b∈([]:List Addr)from hb) (by simp),hok,.of_eq hg⟩
  refine Y6 ((F _ hKb (nsK hns)).run callerA [] s₁ H ⟨[.ref a],[]⟩ [.ref a] [.ref a] _ _ hr e0 (hbind s₁ (.ref a)) (.cons rfl .nil) (hsp H hO hS)) fun r s' h=>?_
  cases r with
  | error e=>exact(hCX H e s' h).elim
  | ok fl=>
   cases fl with
   | next=>exact False.elim h
   | brk=>exact False.elim h
   | cont=>exact False.elim h
   | ret u=>
    obtain⟨v,H',os,bare,un,hok',r',q⟩:=h
    have q':v=.bl true:=q
    subst q'
    obtain rfl:u=Value.bool true:=r'
    refine⟨rfl,OldK.of_keep fun b o e=>?_,os,bare⟩
    cases q:H b with
    | none=>exact un.keep b o e q (by intro z;exact absurd (show b∈([]:List Addr)from z) (by simp)) (by simp)
    | some u=>
     rcases hO b with z | ⟨ob,xs,z⟩
     ·rw [q]at z;cases z
     ·have z2:=un.frzs b ob _ z
      obtain⟨e1,_⟩:=hok b _ z
      obtain⟨e2,_⟩:=hok' b _ z2
      rw [e]at e1;cases e1
      exact e2
 cases hk:K.lookup a with
 | some o=>
  have e:=KX a o hk
  rw [ha]at e
  cases e
  refine core (fun _=>none) (fun _=>.inl rfl) (.inr ⟨_,vs.toArray,_,hk,rfl,rfl,rfl,by rw [Qx,lenV];exact hl,by simpa using rv⟩) (fun b u z=>by have z':(none:Option HO)=some u:=z;cases z') (fun b z=>absurd rfl z) fun z=>absurd rfl z
 | none=>
  refine core (fun b=>if b=a then some (.frz { cls:=.type "list",data:=.seq vs.toArray } (.lst (ns.map V.int)))else none) (fun b=>?_) (.inl (.inr ⟨{ cls:=.type "list",data:=.seq vs.toArray },if_pos rfl⟩)) (fun b u z=>?_) (fun b z=>?_) fun _=>hk
  ·by_cases hb:b=a
   ·exact .inr ⟨_,_,if_pos hb⟩
   ·exact .inl (if_neg hb)
  ·by_cases hb:b=a
   ·have z':=(if_pos hb).symm.trans z
    cases z'
    subst hb
    exact⟨ha,by rw [Ql];exact hl,vs,_,rv,ha⟩
   ·have z':=(if_neg hb).symm.trans z
    cases z'
  ·by_cases hb:b=a
   ·exact hb
   ·exact absurd (if_neg hb) z
end L2
namespace L2
open PySem PySem.Spec PyProof.Rows
theorem walk_of{l:PySem.W.OpenLaw}{n k:Nat}{q:Program}{loose:List Str}{XP:(Str->Option Value)->Heap->Prop}{YP:World->Heap->Prop}{d:DefRec}{K:Params->PySem.W.Frag}{CX:World->CXT}{sp:World->Sp}{x:Str}
  (hn:l.most=some n) (hn2:n<=sizeLine) (hdf:d.params.defaults=[]) (hr:Room k callerA)
  (hY:∀(w:World) (h:Heap),YP w h->(K w.params).In h)
  (F:∀(w:World) (mg:Str->Option Value) (fa:Addr) (h:Heap),(K w.params).In h->h.Ns mainGlobals mg->mg d.name=some (.ref fa)->
   ∃ fd:FuncData,(∀(s:Shared) (u:Value),BindsTo s fd ⟨[u],[]⟩ [(x,u)]) /\
    ∀ base:Heap,(K w.params).In base->base.Ns mainGlobals mg->FnOk l.prog w (K w.params) mg base (CX w) k fa fd [x] (sp w))
  (hsp:∀(w:World) (H:Hp) (a:Addr) (ns:List Int),ns.length<=n->Only H->SqL (K w.params) H a (ns.map V.int)->sp w [.ref a] H (fun v _=>v=.bl true) fun _ _ _=>False)
  (hCX:∀(w:World) (H:Hp) (s:Shared) (e:Value) (s':Shared),CX w [] H s (fun _ _ _=>False) e s'->False):
  PySem.W.WalkO q loose XP YP l.row.toRowW d [] (fun f vs=>PySem.call f vs):=by
 refine Att.attach_call hn hdf fun w s₀ s₁ mg mb fa o pm cd doc a vs ns G Y ho hd hcd hmg hobj hints hlen hg=>?_
 have KX:=hY w _ Y
 obtain⟨fd,hb,hF⟩:=F w mg fa _ KX G.T.g hmg
 exact zMZ KX G.T.g G.T.b G.T.builtins G.T.nolimit hg hobj hints (QI hlen hn2) hr hF hb (fun H hO hS=>hsp w H a ns hlen hO hS) fun H e s'=>hCX w H s₁ e s'
end L2
namespace L2
open PySem PySem.Spec PyProof.Rows
def zBu(s:Stmt)(j:Nat):Stmt:=match s with
 | .ClassDef _ _ _ body _ _ _ _ _ _ _=>body.getD j (.Pass ⟨0,0,0,0⟩)
 | _=>.Pass ⟨0,0,0,0⟩
def zAT(s:Stmt):Arguments:=match s with
 | .FunctionDef _ a _ _ _ _ _ _ _ _=>a
 | _=>{ posonlyargs:=[],args:=[],vararg:=none,kwonlyargs:=[],kw_defaults:=[],kwarg:=none,defaults:=[] }
def zAD(s:Stmt):List Stmt:=match s with
 | .FunctionDef _ _ b _ _ _ _ _ _ _=>b
 | _=>[]
def zAg(s:Stmt):Scope:=match s with
 | .FunctionDef _ _ _ _ _ _ sc _ _ _=>sc
 | _=>{ kind:=.function,names:=[],isGenerator:=false,isCoroutine:=false }
abbrev CX0:CXT:=fun _ _ _ _ _ _=>False
abbrev E0:XK:=fun _ _ _=>False
theorem zAV{X:Cx}:zCJ CX0 X E0:=fun _ _ _ _ _ _ _ h=>h.elim
structure Fun(K:PySem.W.Frag)(x qual:Str)(st:Stmt)(f:Addr)(fd:FuncData):Prop where
 ex:∃(oc:Value) (od:Option Addr) (kV doc pm:Value) (an:Option Addr) (cdv ct:Value) (osl:Array (Option Value)),
  fd=PySem.W.fnOf x qual (zAT st) (zAD st) (zAg st) .none kV doc pm an cdv ct/\K.lookup f=some ⟨oc,od,.func fd,osl⟩/\PySem.W.codeIn K cdv qual=true
 kp:PySem.W.keepIn K (.ref f)=true
section
variable {P:Program}{w:World}{K:PySem.W.Frag}{mg:Str->Option Value}{base:Heap}
theorem Fun.ok{x qual:Str}{st:Stmt}{f:Addr}{fd:FuncData}{N ps:List Str}{k:Nat}{sp:Sp}(F:Fun K x qual st f fd)(S:zAm N ps (zAg st))(len:∀ vs H Q E,sp vs H Q E->vs.length=ps.length)
  (hbody:∀(cdv:Value) (A:Around) (outer:List Env) (s:Shared) (H:Hp) (vs:List V) (Q:VK) (E:XK),Room k (A.deeper (envOfC qual (zAg st) s.heap.objs.size f cdv))->sp vs H Q E->
   ∃ t,PSs (cxOf CX0 P w K mg base N qual (zAg st) f cdv A outer s H E).nox (zAD st) t/\t { nx:=fun _ H'=>Q .non H',rt:=Q } (start N vs) H):FnOk P w K mg base CX0 (k+1) f fd ps sp:=by
 obtain⟨oc,od,kV,doc,pm,an,cdv,ct,osl,rfl,lk,hcd⟩:=F.ex
 refine fn_of lk hcd S len fun A outer s H vs Q E hr hsp=>?_
 obtain⟨t,h,q⟩:=hbody cdv A outer s H vs Q E hr hsp
 exact⟨t,h.nox,q⟩
theorem zDk{x qual:Str}{st:Stmt}{f:Addr}{oc:Value}{od an:Option Addr}{osl:Array (Option Value)}{kV doc pm cdv ct:Value}(l:K.lookup f=some ⟨oc,od,.func (PySem.W.fnOf x qual (zAT st) (zAD st) (zAg st) .none kV doc pm an cdv ct),osl⟩)
  (c:PySem.W.codeIn K cdv qual=true) (k:PySem.W.keepIn K (.ref f)=true):Fun K x qual st f (PySem.W.fnOf x qual (zAT st) (zAD st) (zAg st) .none kV doc pm an cdv ct):=⟨⟨oc,od,kV,doc,pm,an,cdv,ct,osl,rfl,l,c⟩,k⟩
end
theorem zDB{n:Nat}(h:n<=1000):n<sizeLine:=Yk h (by decide)
section
variable {X:Cx}
theorem pv(i:Nat){x:Str}{pos:Pos}(hN:X.N[i]?=some x:=by rfl)(hv:Vis X.env.scope x:=by first | exact Or.inl rfl | exact Or.inr (Or.inl rfl) | exact Or.inr (Or.inr rfl))(hd:(x == ("__debug__":Str))=false:=by decide)
  (hcd:(x == ("__classdict__":Str))=false:=by decide):PE X (.Name x pos) (tVar i):=zCd hN hv hd hcd
end
def Same(H H':Hp):Prop:=∀ b o,H b=some o->H' b=some o
theorem Same.refl(H:Hp):Same H H:=fun _ _ h=>h
theorem Same.trans{H H1 H2:Hp}(a:Same H H1)(b:Same H1 H2):Same H H2:=fun c o h=>b c o (a c o h)
theorem Same.free{H H':Hp}(e:Same H H'){l:Addr}(h:H' l=Option.none):H l=Option.none:=by
 cases q:H l with
 | none=>rfl
 | some o=>
  rw [e l o q]at h
  cases h
end L2
namespace SG
open PySem PyProof.Rows
structure Fit(src:Array Keyed)(kd:SortKind)(z:SortSt):Prop where
 mix:(arrOf z).Perm src
 kd:kindOf z=kd
 fine:failedOf z=none
 none:pendingOf z=#[]
theorem Fit.len{src:Array Keyed}{kd:SortKind}{z:SortSt}(f:Fit src kd z):(arrOf z).size=src.size:=f.mix.size_eq
theorem Fit.re{src:Array Keyed}{kd:SortKind}{z:SortSt}(f:Fit src kd z){ys:Array Keyed}(m:ys.Perm (arrOf z)):Fit src kd (setArr z ys):=⟨m.trans f.mix,f.kd,f.fine,f.none⟩
section
variable {prog:Program}{w:World}{A:Around}{E:Value->Shared->Prop}{s:Shared}{src:Array Keyed}{κ:KeyKind}{kd:SortKind}
def Asks(prog:Program)(w:World)(A:Around)(s:Shared)(κ:KeyKind)(kd:SortKind):Prop:=
 ∀(x y:Value) (a b:κ.α) (E:Value->Shared->Prop) (Q:Bool->Shared->Prop),κ.keyOf x=some a->κ.keyOf y=some b->Q (κ.blt a b) s->wpAny (model prog w) A (keyLt' kd x y) Q E s
theorem Fit.item{z:SortSt}(f:Fit src kd z)(all:KeysOf κ src){i:Nat}(h:i<src.size):∃ x y a,(arrOf z)[i]?=some (x,y)/\κ.keyOf x=some a/\KK κ (arrOf z) i=a:=by
 have h':i<(arrOf z).size:=by rw [f.len];exact h
 have e:=getElem?_pos (arrOf z) i h'
 obtain⟨a,ha⟩:=all (arrOf z)[i] ((Array.perm_iff_toList_perm.mp f.mix).mem_iff.mp (by simp))
 exact⟨_,_,a,e,ha,by unfold KK;rw [e];simp [ha]⟩
theorem zEi{z:SortSt}{i j:Nat}{Q:Option Bool->SortSt->Prop}(L:Asks prog w A s κ kd)(f:Fit src kd z)(all:KeysOf κ src)(hi:i<src.size)(hj:j<src.size)
  (k:Q (some (κ.blt (KK κ (arrOf z) i) (KK κ (arrOf z) j))) z):wpS (model prog w) A E s (ltAt' i j) Q z:=by
 obtain⟨x,x',a,e1,ka,qa⟩:=f.item all hi
 obtain⟨y,y',b,e2,kb,qb⟩:=f.item all hj
 rw [qa,qb]at k
 rw [ltAt'_eq]
 refine QY (wpS_get ?_)
 show wpS _ _ _ _ (elem' (arrOf z) i >>= fun u=>elem' (arrOf z) j >>= fun v=>lt' u v) Q z
 rw [elem'_eq,e1,elem'_eq,e2]
 refine QY (Ys (QY (Ys ?_)))
 rw [lt'_eq]
 refine QY (wpS_get (QY (wpS_lift (wpAny_attempt ?_))))
 rw [f.kd]
 exact L x y a b _ _ ka kb ⟨rfl,Ys k⟩
theorem zKQ{z:SortSt}{a top:Nat}{Q:AscSt->SortSt->Prop}(L:Asks prog w A s κ kd)(all:KeysOf κ src)(f:Fit src kd z)(h1:1<=a)(h2:a<=top)(h3:top<=src.size)(r:SortedToK κ (arrOf z) a)
  (k:∀ n,a<=n->n<=top->SortedToK κ (arrOf z) n->n=top ∨ κ.klt (KK κ (arrOf z) n) (KK κ (arrOf z) (n-1))->Q (none,n) z):wpS (model prog w) A E s (ascLoop a top) Q z:=by
 unfold ascLoop
 refine wpS_forRange (fun x c z'=>z'=z/\c=(none,x)/\SortedToK κ (arrOf z) x) (fun x c z' g1 g2 hI=>?_) (fun c z' hI=>?_) ⟨rfl,rfl,r⟩
 ·obtain⟨hz,hc,hr⟩:=hI
  subst hz hc
  dsimp only
  refine QY (zEi L f all (QG g2 h3) (by lia) ?_)
  cases q:κ.blt (KK κ (arrOf z') x) (KK κ (arrOf z') (x-1))with
  | true=>simp only [if_true];exact Ys (k x g1 (YA g2) hr (Or.inr q))
  | false=>
   simp only [Qm,if_false]
   refine Ys ⟨rfl,rfl,fun i j le lt=>?_⟩
   rcases Nat.lt_or_ge j x with c1 | c1
   ·exact hr i j le c1
   ·obtain rfl:j=x:=by lia
    rcases YN le with c2 | c2
    ·subst c2;exact Yt _
    ·exact KeyOrd.kle_trans (hr i (j-1) (by lia) (by lia)) q
 ·obtain⟨hz,hc,hr⟩:=hI
  subst hz hc
  have e:max a top=top:=by lia
  rw [e]at hr ⊢
  exact k top h2 (Qi _) hr (Or.inl rfl)
theorem zKL{z:SortSt}{n top:Nat}{Q:Option Nat->SortSt->Prop}(L:Asks prog w A s κ kd)(all:KeysOf κ src)(f:Fit src kd z)(h1:1<=n)(h2:n<=top)(h3:top<=src.size)(r:NonIncK κ (arrOf z) n)
  (k:∀ m z',Fit src kd z'->1<=m->m<=top->SortedToK κ (arrOf z') m->Q (some m) z'):wpS (model prog w) A E s (tail3 n top) Q z:=by
 have sz:n<=(arrOf z).size:=by rw [f.len];lia
 have f':Fit src kd (setArr z (mirror (arrOf z) 0 n ((n-0) / 2))):=f.re (mirror_perm _ _ _ _)
 have r':SortedToK κ (arrOf (setArr z (mirror (arrOf z) 0 n ((n-0) / 2)))) n:=by
  intro i j le lt
  show κ.kle (KK κ (mirror (arrOf z) 0 n ((n-0) / 2)) i) (KK κ (mirror (arrOf z) 0 n ((n-0) / 2)) j)
  rw [KK_mirror sz,KK_mirror sz,if_pos ⟨QN _,by lia⟩,if_pos ⟨QN _,lt⟩]
  exact r _ _ (by lia) (by lia)
 unfold tail3
 refine QY (wpS_reverse (QY (zKQ L all f' h1 h2 h3 r' fun m g1 g2 g3 _=>?_)))
 exact Ys (k m _ f' (QI h1 g1) g2 g3)
theorem zL5{z:SortSt}{n top:Nat}{Q:DescSt->SortSt->Prop}(L:Asks prog w A s κ kd)(all:KeysOf κ src)(f:Fit src kd z)(h1:1<=n)(h2:n<=top)(h3:top<=src.size)(r:NonIncK κ (arrOf z) n)
  (k:∀ m q z',Fit src kd z'->n<=m->m<=top->NonIncK κ (arrOf z') m->q+1<=m->(∀ i,m-(q+1)<=i->i<m->KK κ (arrOf z') i=KK κ (arrOf z') (m-1))->Q (none,m,q) z'):wpS (model prog w) A E s (descLoop n top) Q z:=by
 have one:∀(ys:Array Keyed) (x:Nat) (i:Nat),x-(0+1)<=i->i<x->KK κ ys i=KK κ ys (x-1):=fun ys x i c1 c2=>by
  have:i=x-1:=Jj (Nat.le_sub_one_of_lt c2) c1
  rw [this]
 unfold descLoop
 refine wpS_forRange (fun x c z'=>∃ q,c=(none,x,q)/\Fit src kd z'/\NonIncK κ (arrOf z') x/\q+1<=x/\∀ i,x-(q+1)<=i->i<x->KK κ (arrOf z') i=KK κ (arrOf z') (x-1))
  (fun x c z' g1 g2 hI=>?_) (fun c z' hI=>?_) ⟨0,rfl,f,r,h1,one _ _⟩
 ·obtain⟨q,hc,f',r',hq,he⟩:=hI
  subst hc
  dsimp only
  have lx:x<src.size:=QG g2 h3
  have sz:x<=(arrOf z').size:=by rw [f'.len];exact YA lx
  have lx1:x-1<src.size:=Yk (Nat.sub_le x 1) lx
  refine QY (zEi L f' all lx lx1 ?_)
  cases c1:κ.blt (KK κ (arrOf z') x) (KK κ (arrOf z') (x-1))with
  | true=>
   simp only [if_true]
   have more:∀ ys:Array Keyed,(∀ m,KK κ ys m=KK κ (arrOf z') m)->NonIncK κ ys (x+1):=fun ys same i j le lt=>by
    rw [same i,same j]
    rcases Nat.lt_or_ge j x with d1 | d1
    ·exact r' i j le d1
    ·obtain rfl:j=x:=Jj (YD lt) d1
     rcases YN le with d2 | d2
     ·subst d2;exact Yt _
     ·exact KeyOrd.kle_trans (KeyOrd.kle_of_klt c1) (r' i (j-1) (Nat.le_sub_one_of_lt d2) (Nat.sub_lt (Yk (QN i) d2) Nat.one_pos))
   by_cases c2:q > 0
   ·rw [if_pos c2]
    exact QY (wpS_reverse (Ys ⟨0,rfl,f'.re (mirror_perm _ _ _ _),more _ (Jk sz he),Nat.succ_le_succ (QN _),one _ _⟩))
   ·rw [if_neg c2]
    exact Ys ⟨0,rfl,f',more _ fun _=>rfl,Nat.succ_le_succ (QN _),one _ _⟩
  | false=>
   simp only [Qm,if_false]
   refine QY (zEi L f' all (by lia) lx ?_)
   cases c2:κ.blt (KK κ (arrOf z') (x-1)) (KK κ (arrOf z') x)with
   | true=>simp only [if_true];exact Ys (k x q z' f' g1 (YA g2) r' hq he)
   | false=>
    simp only [Qm,if_false]
    have same:KK κ (arrOf z') x=KK κ (arrOf z') (x-1):=KeyOrd.kle_antisymm c2 c1
    refine Ys ⟨q+1,rfl,f',fun i j le lt=>?_,by lia,fun i d1 d2=>?_⟩
    ·rcases Nat.lt_or_ge j x with e1 | e1
     ·exact r' i j le e1
     ·obtain rfl:j=x:=by lia
      rcases YN le with e2 | e2
      ·subst e2;exact Yt _
      ·rw [same];exact r' i (j-1) (by lia) (by lia)
    ·show KK κ (arrOf z') i=KK κ (arrOf z') x
     rcases Nat.lt_or_ge i x with e1 | e1
     ·rw [same];exact he i (by lia) e1
     ·have:i=x:=by lia
      rw [this]
 ·obtain⟨q,hc,f',r',hq,he⟩:=hI
  have e:max n top=top:=by lia
  rw [e]at hc r' hq he
  subst hc
  exact k top q z' f' h2 (Qi _) r' hq he
theorem zIm{z:SortSt}{n top:Nat}{Q:Option Nat->SortSt->Prop}(L:Asks prog w A s κ kd)(all:KeysOf κ src)(f:Fit src kd z)(h2:n+1<=top)(h3:top<=src.size)(r:NonIncK κ (arrOf z) (n+1))
  (k:∀ m z',Fit src kd z'->1<=m->m<=top->SortedToK κ (arrOf z') m->Q (some m) z'):wpS (model prog w) A E s (descPart n top) Q z:=by
 unfold descPart
 refine QY (wpS_lift (wpAny_rule ⟨rfl,QY (zL5 L all f (Nat.le_add_left 1 n) h2 h3 r fun m q z' f' g1 g2 r' hq he=>?_)⟩))
 have sz:m<=(arrOf z').size:=by rw [f'.len];lia
 dsimp only
 by_cases c:q > 0
 ·rw [if_pos c]
  refine QY (wpS_reverse (zKL L all (f'.re (mirror_perm _ _ _ _)) (by lia) g2 h3 (fun i j le lt=>?_) k))
  show κ.kle (KK κ (mirror (arrOf z') (m-(q+1)) m ((m-(m-(q+1))) / 2)) j) (KK κ (mirror (arrOf z') (m-(q+1)) m ((m-(m-(q+1))) / 2)) i)
  rw [Jk sz he,Jk sz he]
  exact r' i j le lt
 ·rw [if_neg c]
  exact zKL L all f' (by lia) g2 h3 r' k
theorem zMi{z:SortSt}{top:Nat}{Q:Option Nat->SortSt->Prop}(L:Asks prog w A s κ kd)(all:KeysOf κ src)(f:Fit src kd z)(h1:1<=top)(h3:top<=src.size)
  (k:∀ m z',Fit src kd z'->1<=m->m<=top->SortedToK κ (arrOf z') m->Q (some m) z'):wpS (model prog w) A E s (countRun' 0 top) Q z:=by
 have r1:SortedToK κ (arrOf z) 1:=fun i j le lt=>by
  obtain rfl:i=j:=Jj le (QI (YD lt) (QN _))
  exact Yt _
 rw [countRun0_eq]
 refine QY (zKQ L all f (Qi 1) h1 h3 r1 fun n g1 g2 g3 g4=>?_)
 dsimp only
 by_cases c:n=top
 ·rw [if_pos (beq_iff_eq.mpr c)]
  exact Ys (k n z f g1 g2 g3)
 ·rw [if_neg (fun h=>c (beq_iff_eq.mp h))]
  have fall:=g4.resolve_left c
  by_cases c2:n > 1
  ·rw [if_pos c2]
   have n1:n-1<n:=Nat.sub_lt g1 Nat.one_pos
   refine QY (zEi L f all (QG g1 (QI g2 h3)) (QG n1 (QI g2 h3)) ?_)
   cases c3:κ.blt (KK κ (arrOf z) 0) (KK κ (arrOf z) (n-1))with
   | true=>simp only [if_true];exact Ys (k n z f g1 g2 g3)
   | false=>
    simp only [Qm,if_false]
    have sz:n<=(arrOf z).size:=by rw [f.len];exact QI g2 h3
    have eq:∀ m,0<=m->m<n->KK κ (arrOf z) m=KK κ (arrOf z) (n-1):=fun m _ lt=>
     KeyOrd.kle_antisymm (g3 m (n-1) (Nat.le_sub_one_of_lt lt) n1) (KeyOrd.kle_trans c3 (g3 0 m (QN _) lt))
    refine QY (wpS_reverse (zIm L all (f.re (mirror_perm _ _ _ _)) (Nat.lt_of_le_of_ne g2 c) h3 (fun i j le lt=>?_) k))
    show κ.kle (KK κ (mirror (arrOf z) 0 n ((n-0) / 2)) j) (KK κ (mirror (arrOf z) 0 n ((n-0) / 2)) i)
    rw [Jk sz eq,Jk sz eq]
    rcases Nat.lt_or_ge j n with d | d
    ·rw [eq i (QN _) (Yk le d),eq j (QN _) d]
     exact Yt _
    ·obtain rfl:j=n:=Jj (YD lt) d
     rcases YN le with d2 | d2
     ·subst d2;exact Yt _
     ·rw [eq i (QN _) d2];exact KeyOrd.kle_of_klt fall
  ·rw [if_neg c2]
   obtain rfl:n=1:=Jj (Yz c2) g1
   refine zIm L all f (by lia) h3 (fun i j le lt=>?_) k
   rcases YN le with d2 | d2
   ·subst d2;exact Yt _
   ·obtain rfl:i=0:=by lia
    obtain rfl:j=1:=by lia
    exact KeyOrd.kle_of_klt fall
theorem zME{z:SortSt}{n ok:Nat}{Q:Bool->SortSt->Prop}(L:Asks prog w A s κ kd)(all:KeysOf κ src)(f:Fit src kd z)(h1:ok<=n)(h3:n<=src.size)(r:SortedToK κ (arrOf z) ok)
  (k:∀ z',Fit src kd z'->SortedToK κ (arrOf z') n->Q true z'):wpS (model prog w) A E s (binarySort' 0 n ok) Q z:=by
 rw [binarySort'_eq]
 simp only [Y7]
 have r0:SortedToK κ (arrOf z) (min (max ok 1) n):=fun i j le lt=>by
  rcases YN le with c | c
  ·subst c;exact Yt _
  ·exact r i j le (by lia)
 refine QY (wpS_mono (wpS_forRange (fun m c z'=>c=(none,())/\Fit src kd z'/\SortedToK κ (arrOf z') (min m n)) (Q:=fun c z'=>c=(none,())/\Fit src kd z'/\SortedToK κ (arrOf z') n)
  (fun m c z' g1 g2 hI=>?_) (fun c z' hI=>?_) ⟨rfl,f,r0⟩) fun c z' hQ=>?_)
 ·obtain⟨hc,f',r'⟩:=hI
  subst hc
  have em:min m n=m:=by lia
  rw [em]at r'
  have lm:m<src.size:=by lia
  refine QY (wpS_mono (wpS_forRange (fun t c z2=>z2=z'/\∃ lo hi,c=(none,lo,hi)/\lo<=hi/\hi<=m/\hi+t<=m+lo/\(∀ i,i<lo->κ.kle (KK κ (arrOf z') i) (KK κ (arrOf z') m)) /\
    ∀ i,hi<=i->i<m->κ.klt (KK κ (arrOf z') m) (KK κ (arrOf z') i))
   (Q:=fun c z2=>z2=z'/\∃ lo hi,c=(none,lo,hi)/\lo<=m/\(∀ i,i<lo->κ.kle (KK κ (arrOf z') i) (KK κ (arrOf z') m))/\∀ i,lo<=i->i<m->κ.klt (KK κ (arrOf z') m) (KK κ (arrOf z') i))
   (fun t c z2 _ lt hJ=>?_) (fun c z2 hJ=>?_) ⟨rfl,0,m,rfl,QN _,Qi _,by lia,fun i c=>absurd c (Yu _),fun i c1 c2=>absurd c2 (Nat.not_lt.mpr c1)⟩) fun c z2 hJ=>?_)
  ·obtain⟨hz,lo,hi,hc,c1,c2,c3,c4,c5⟩:=hJ
   subst hz hc
   dsimp only
   by_cases d:lo >= hi
   ·rw [if_pos d]
    obtain rfl:lo=hi:=by lia
    exact Ys ⟨rfl,lo,lo,rfl,c2,c4,c5⟩
   ·rw [if_neg d]
    have hm:lo<=(lo+hi) / 2/\(lo+hi) / 2<hi:=by clear c2 c3;lia
    generalize (lo+hi) / 2=md at hm ⊢
    have hmm:=QG hm.2 c2
    refine QY (zEi L f' all lm (Nat.lt_trans hmm lm) ?_)
    cases q:κ.blt (KK κ (arrOf z2) m) (KK κ (arrOf z2) md)with
    | true=>
     simp only [if_true]
     exact Ys ⟨rfl,lo,md,rfl,hm.1,YA hmm,QI (Nat.add_right_comm md t 1 ▸ Nat.add_le_add_right hm.2 t) c3,c4,fun i e1 e2=>KeyOrd.klt_of_klt_of_kle q (r' _ _ e1 e2)⟩
    | false=>
     simp only [Qm,if_false]
     refine Ys ⟨rfl,md+1,hi,rfl,hm.2,c2,Nat.add_le_add (show lo<=md from hm.1) (Qi 1) |> fun z=>by lia,fun i e1=>?_,c5⟩
     have q':κ.kle (KK κ (arrOf z2) md) (KK κ (arrOf z2) m):=q
     exact KeyOrd.kle_trans (r' i md (YD e1) hmm) q'
  ·obtain⟨hz,lo,hi,hc,c1,c2,c3,c4,c5⟩:=hJ
   obtain rfl:lo=hi:=by lia
   exact⟨hz,lo,lo,hc,c2,c4,c5⟩
  ·obtain⟨hz,lo,hi,hc,c2,c4,c5⟩:=hJ
   subst hz hc
   show wpS _ _ _ _ (moveDown' m lo >>= fun _=>pure (ForInStep.yield (none,()))) _ _
   rw [moveDown'_eq]
   refine QY (wpS_modify (Ys ⟨rfl,f'.re (bubble_perm _ _ _),?_⟩))
   have es:m<(arrOf z2).size:=by rw [f'.len];exact lm
   have e2:min (m+1) n=m+1:=by lia
   rw [e2]
   intro i j le lt
   show κ.kle (KK κ (bubble (arrOf z2) m (m-lo)) i) (KK κ (bubble (arrOf z2) m (m-lo)) j)
   have e3:m-(m-lo)=lo:=by lia
   rw [KK_bubble es (by lia),KK_bubble es (by lia),e3]
   by_cases i1:i=lo <;> by_cases j1:j=lo
   ·rw [if_pos i1,if_pos j1];exact Yt _
   ·rw [if_pos i1,if_neg j1,if_pos ⟨by lia,by lia⟩]
    exact KeyOrd.kle_of_klt (c5 _ (by lia) (by lia))
   ·rw [if_neg i1,if_pos j1,if_neg (by lia)]
    exact c4 _ (by lia)
   ·rw [if_neg i1,if_neg j1]
    by_cases i2:lo<i/\i<=m <;> by_cases j2:lo<j/\j<=m
    ·rw [if_pos i2,if_pos j2];exact r' _ _ (by lia) (by lia)
    ·exact absurd ⟨by lia,by lia⟩ j2
    ·rw [if_neg i2,if_pos j2];exact r' _ _ (by lia) (by lia)
    ·rw [if_neg i2,if_neg j2];exact r' _ _ le (by lia)
 ·obtain⟨hc,f',r'⟩:=hI
  have e:min (max (max ok 1) n) n=n:=by lia
  rw [e]at r'
  exact⟨hc,f',r'⟩
 ·obtain⟨hc,f',r'⟩:=hQ
  subst hc
  exact Ys (k z' f' r')
theorem zLa{z:SortSt}{Q:Unit->SortSt->Prop}(L:Asks prog w A s κ kd)(all:KeysOf κ src)(f:Fit src kd z)(h2:2<=src.size)(h64:src.size<64)
  (k:∀ z',(arrOf z').Perm src->failedOf z'=none->SortedToK κ (arrOf z') src.size->Q () z'):wpS (model prog w) A E s sortRuns' Q z:=by
 have em:minRun' src.size src.size 0=src.size:=by
  have g:∀ t,t=src.size->minRun' t src.size 0=src.size:=fun t e=>by
   cases t with
   | zero=>lia
   | succ t=>rw [minRun'_succ,if_pos h64];rfl
  exact g _ rfl
 rw [sortRuns'_eq]
 refine QY (wpS_get ?_)
 dsimp only
 simp only [f.len,em]
 refine QY (wpS_mono (wpS_forRange (fun t c z'=>(t=0/\c=(none,0)/\Fit src kd z') ∨ (0<t/\c=(none,src.size)/\(arrOf z').Perm src/\failedOf z'=none/\pendingOf z'=#[(0,src.size,0)]/\SortedToK κ (arrOf z') src.size))
  (Q:=fun c z'=>c=(none,src.size)/\(arrOf z').Perm src/\failedOf z'=none/\pendingOf z'=#[(0,src.size,0)]/\SortedToK κ (arrOf z') src.size)
  (fun t c z' _ lt hI=>?_) (fun c z' hI=>?_) (Or.inl ⟨rfl,rfl,f⟩)) fun c z' hQ=>?_)
 ·rcases hI with⟨ht,hc,f'⟩ | ⟨ht,hc,d1,d2,d3,d4⟩
  ·subst ht hc
   dsimp only
   rw [if_neg (by lia)]
   simp only [Nat.sub_zero,Nat.min_self,Y7]
   have close:∀ z3,Fit src kd z3->SortedToK κ (arrOf z3) src.size->(0<0+1/\((none:Option Unit),src.size)=(none,src.size)/\(arrOf (setPending z3 ((pendingOf z3).push (0,src.size,0)))).Perm src/\failedOf (setPending z3 ((pendingOf z3).push (0,src.size,0)))=none /\
     pendingOf (setPending z3 ((pendingOf z3).push (0,src.size,0)))=#[(0,src.size,0)]/\SortedToK κ (arrOf (setPending z3 ((pendingOf z3).push (0,src.size,0)))) src.size):=fun z3 f3 r3=>
    ⟨Nat.zero_lt_succ _,rfl,f3.mix,f3.fine,by show(pendingOf z3).push (0,src.size,0)=_;rw [f3.none];rfl,r3⟩
   refine QY (zMi L all f' (by lia) (Qi _) fun m z2 f2 g1 g2 r2=>?_)
   dsimp only
   by_cases c:m<src.size
   ·rw [if_pos c]
    refine QY (wpS_lift (wpAny_rule ⟨rfl,QY (zME L all f2 g2 (Qi _) r2 fun z3 f3 r3=>?_)⟩))
    simp only [YK,Qm,if_false]
    refine QY (wpS_get ?_)
    have eb:(pendingOf z3).back?=none:=by rw [f3.none];rfl
    rw [eb]
    dsimp only
    exact QY (wpS_modify (Ys (Or.inr (close z3 f3 r3))))
   ·rw [if_neg c]
    obtain rfl:m=src.size:=by lia
    refine QY (wpS_get ?_)
    have eb:(pendingOf z2).back?=none:=by rw [f2.none];rfl
    rw [eb]
    dsimp only
    exact QY (wpS_modify (Ys (Or.inr (close z2 f2 r2))))
  ·subst hc
   dsimp only
   rw [if_pos (Qi _)]
   exact Ys ⟨rfl,d1,d2,d3,d4⟩
 ·rcases hI with⟨ht,_⟩ | ⟨_,d⟩
  ·lia
  ·exact d
 ·obtain⟨hc,d1,d2,d3,d4⟩:=hQ
  subst hc
  dsimp only
  refine QY (wpS_mono (wpS_forRange (fun _ c z2=>z2=z'/\c=(none,())) (Q:=fun c z2=>z2=z'/\c=(none,())) (fun t c z2 _ _ hJ=>?_) (fun _ _ hJ=>hJ) ⟨rfl,rfl⟩) fun c z2 hJ=>?_)
  ·obtain⟨hz,hc⟩:=hJ
   subst hz hc
   refine QY (wpS_get ?_)
   rw [if_pos (by rw [d3];exact Qi 1)]
   exact Ys ⟨rfl,rfl⟩
  ·obtain⟨hz,hc⟩:=hJ
   subst hz hc
   exact Ys (k _ d1 d2 d4)
theorem zPg{a:Addr}{vs:List Value}{n:Nat}{P:Fin->Shared->Prop}(ho:s.heap.get? a=some (seqObj "list" vs.toArray n))(all:KeysOf κ (pairsOf vs))(h64:vs.length<64)
  (kind:∀ h',(∀ b o,b≠a->s.heap.get? b=some o->h'.get? b=some o)->2<=vs.length->wpAny (model prog w) A (keyKind' vs.toArray) (fun q s'=>q=kd/\s'={ s with heap:=h' }) E { s with heap:=h' })
  (L:∀ h',(∀ b o,b≠a->s.heap.get? b=some o->h'.get? b=some o)->Asks prog w A { s with heap:=h' } κ kd)
  (k:∀ z':SortSt,(arrOf z').Perm (pairsOf vs)->SortedToK κ (arrOf z') (pairsOf vs).size->P (.done (.ret .none)) { s with heap:=sortedHeap s.heap a vs ((arrOf z').map (·.2)) }):
  wpAny (model prog w) A (Builtin.«list.sort» ⟨[.ref a],[]⟩) P E s:=by
 have ha:a<s.heap.objs.size:=Qo ho
 have hl:vs.toArray.size=vs.length:=by simp
 rw [list_sort_plain]
 refine Qa (listItems_at ho rfl (Qa (listUpdate_at ho rfl ?_)))
 obtain⟨t,h1⟩:∃ t,(s.heap.update a (Obj.mapSeq fun _=>#[])).get? a=some (seqObj "list" #[] t):=⟨_,get?_update_seq ho fun _=>#[]⟩
 refine Qa (seqEpoch_at h1 rfl (Qa (wpAny_newTuple (Qa (wpAny_newList (Q2 ?_))))))
 show wpAny (model prog w) A _ P E { s with heap:=((s.heap.update a (Obj.mapSeq fun _=>#[])).push (seqObj "tuple" vs.toArray 0)).push (seqObj "list" #[] 0) }
 have keep:∀ b o,b≠a->s.heap.get? b=some o->(((s.heap.update a (Obj.mapSeq fun _=>#[])).push (seqObj "tuple" vs.toArray 0)).push (seqObj "list" #[] 0)).get? b=some o:=fun b o nb e=>
  Qd _ (Qd _ (by rw [Heap.get?_update_ne _ _ _ _ nb];exact e))
 have h6:(((s.heap.update a (Obj.mapSeq fun _=>#[])).push (seqObj "tuple" vs.toArray 0)).push (seqObj "list" #[] 0)).get? a=some (seqObj "list" #[] t):=Qd _ (Qd _ h1)
 dsimp only
 by_cases c:vs.toArray.size<2
 ·rw [if_pos c,if_pos c]
  refine Qa (Qb ?_)
  rw [StateT.run_pure]
  refine Qa (Qb (Qa (seqEpoch_at h6 rfl (Qa (listUpdate_at h6 rfl ?_ (hsz2:=by
   rw [YO];show(pairsOf vs).size<=_;rw [Jf,Ya];lia))))))
  simp only [bne_self_eq_false,Qm,if_false]
  refine Qb (k (SortSt.mk' general' (vs.toArray.zip vs.toArray) #[] 7 none) (Array.Perm.refl _) fun i j le lt=>?_)
  obtain rfl:i=j:=by rw [Jf]at lt;lia
  exact Yt _
 ·rw [if_neg c,if_neg c]
  refine Qa (YE (kind _ keep (by lia)) (fun q s' hq=>?_) fun _ _ e=>e)
  obtain⟨rfl,rfl⟩:=hq
  refine Qa (YE (zLa (src:=pairsOf vs) (z:=SortSt.mk' q (vs.toArray.zip vs.toArray) #[] 7 none)
   (Q:=fun _ z'=>(arrOf z').Perm (pairsOf vs)/\failedOf z'=none/\SortedToK κ (arrOf z') (pairsOf vs).size)
   (L _ keep) all ⟨Array.Perm.refl _,rfl,rfl,rfl⟩ (by rw [Jf];lia) (by rw [Jf];exact h64) fun z' d1 d2 d3=>⟨d1,d2,d3⟩) (fun rz s' hq=>?_) fun _ _ e=>e)
  obtain⟨⟨⟩,z'⟩:=rz
  obtain⟨rfl,d1,d2,d3⟩:=hq
  dsimp only at d1 d2 d3 ⊢
  refine Qa (seqEpoch_at h6 rfl (Qa (listUpdate_at h6 rfl ?_ (hsz2:=by
   refine QI (Nat.le_of_eq ((YO ..).trans (d1.size_eq.trans (Jf _)))) ?_
   rw [Ya];lia))))
  rw [d2]
  simp only [bne_self_eq_false,Qm,if_false]
  exact Qb (k z' d1 d3)
end
end SG
namespace DL
open PySem PySem.Spec PyProof.Rows L2
abbrev D:=PyData
def FzL(K:PySem.W.Frag)(F:Addr->Prop)(H:Hp)(a:Addr)(vs:List V):Prop:=(F a/\Rd H a (.lst vs)) ∨ SqL K (fun _=>none) a vs
theorem FzL.sq{K:PySem.W.Frag}{F:Addr->Prop}{H:Hp}{a:Addr}{vs:List V}(h:FzL K F H a vs):SqL K H a vs:=by
 rcases h with⟨_,h⟩ | (h | ⟨o,h⟩) | h
 ·exact .inl h
 ·cases h
 ·cases h
 ·exact .inr h
abbrev DKey:=Sum (List Int) (List (List Int))
def encT(ks:List Int):D:=.tuple (ks.map .int)
def encK:DKey->D
 | .inl ks=>encT ks
 | .inr kss=>.tuple (kss.map encT)
def zI2(ks:List Int):Int:=reduceHash (Builtin.Tuple.tupleHashOf (ks.map hashInt))
def zI1:DKey->Int
 | .inl ks=>zI2 ks
 | .inr kss=>reduceHash (Builtin.Tuple.tupleHashOf (kss.map zI2))
def zDa(K:PySem.W.Frag)(H:Hp)(k:DKey)(b:Addr):Prop:=match k with
 | .inl ks=>SqT K H b (ks.map V.int)
 | .inr kss=>kss≠[]/\∃ bs:List Addr,SqT K H b (bs.map V.ref)/\Paired (fun(ks:List Int) (b:Addr)=>SqT K H b (ks.map V.int)) kss bs
def DctO(a:Addr)(es:List (DKey × Addr × V))(ep:Nat):HO:=.ext fun h=>(a == sysModules)=false/\∃ o raw,h.get? a=some o/\o.ExactDict/\o.data=.dict raw ep/\Paired (fun(e:DKey × Addr × V) (r:DictEntry)=>r.hash=zI1 e.1/\r.key=.ref e.2.1/\RelV e.2.2 r.val) es raw.toList
def ExcO(a C:Addr):HO:=.ext fun h=>∃ o,h.get? a=some o/\o.cls=.ref C
def excD(x:Str):D:=.dict [(.none,.str x)]
def LstO(a:Addr)(vs:List V):HO:=.ext fun h=>vs.length<=sizeLine/\∃(its:List Value) (n:Nat),Vals vs its/\h.get? a=some { cls:=.type "list",data:=.seq its.toArray n }
mutual
inductive Rep(K:PySem.W.Frag)(F:Addr->Prop)(H:Hp):D->V->Prop
 | non:Rep K F H .none .non
 | bl (b:Bool):Rep K F H (.bool b) (.bl b)
 | int (i:Int):Rep K F H (.int i) (.int i)
 | str (x:Str):Rep K F H (.str x) (.str x)
 | tup {a:Addr}{vs:List V}{ds:List D}:SqT K H a vs->Reps K F H ds vs->Rep K F H (.tuple ds) (.ref a)
 | lst {a:Addr}{vs:List V}{ds:List D}:FzL K F H a vs->Reps K F H ds vs->Rep K F H (.list ds) (.ref a)
 | dct {a:Addr}{es:List (DKey × Addr × V)}{kvs:List (D × D)}{ep:Nat}:F a->H a=some (DctO a es ep)->(es.map (·.1)).Nodup->es.length<=1000->DReps K F H kvs es->Rep K F H (.dict kvs) (.ref a)
 | exn {a C:Addr}{x:Str}:F a->H a=some (ExcO a C)->PySem.W.nsIn K mainGlobals x=some (some (.ref C))->Rep K F H (excD x) (.ref a)
inductive DReps(K:PySem.W.Frag)(F:Addr->Prop)(H:Hp):List (D × D)->List (DKey × Addr × V)->Prop
 | nil:DReps K F H [] []
 | cons {k:DKey}{b:Addr}{d:D}{v:V}{kvs:List (D × D)}{es:List (DKey × Addr × V)}:zDa K H k b->Rep K F H d v->DReps K F H kvs es->DReps K F H ((encK k,d)::kvs) ((k,b,v)::es)
inductive Reps(K:PySem.W.Frag)(F:Addr->Prop)(H:Hp):List D->List V->Prop
 | nil:Reps K F H [] []
 | cons {d:D}{v:V}{ds:List D}{vs:List V}:Rep K F H d v->Reps K F H ds vs->Reps K F H (d::ds) (v::vs)
end
structure Stay(K:PySem.W.Frag)(F F':Addr->Prop)(H H':Hp):Prop where
 up:∀ a,F a->F' a
 tp:∀ a xs,SqT K H a xs->SqT K H' a xs
 ls:∀ a xs,F a->Rd H a (.lst xs)->Rd H' a (.lst xs)
 xt:∀ a φ,F a->H a=some (.ext φ)->H' a=some (.ext φ)
theorem zDa.stay{K:PySem.W.Frag}{F F':Addr->Prop}{H H':Hp}(S:Stay K F F' H H'){k:DKey}{b:Addr}(h:zDa K H k b):zDa K H' k b:=by
 cases k with
 | inl ks=>exact S.tp _ _ h
 | inr kss=>obtain⟨n,bs,h1,h2⟩:=h;exact⟨n,bs,S.tp _ _ h1,Paired.mapP h2 fun _ _ z=>S.tp _ _ z⟩
theorem FzL.stay{K:PySem.W.Frag}{F F':Addr->Prop}{H H':Hp}(S:Stay K F F' H H'){a:Addr}{vs:List V}(h:FzL K F H a vs):FzL K F' H' a vs:=by
 rcases h with⟨f,h⟩ | h
 ·exact .inl ⟨S.up a f,S.ls a vs f h⟩
 ·exact .inr h
mutual
theorem Rep.stay{K:PySem.W.Frag}{F F':Addr->Prop}{H H':Hp}(S:Stay K F F' H H'){d:D}{v:V}(h:Rep K F H d v):Rep K F' H' d v:=by
 cases h with
 | non=>exact .non
 | bl b=>exact .bl b
 | int i=>exact .int i
 | str x=>exact .str x
 | tup h r=>exact .tup (S.tp _ _ h) (Reps.stay S r)
 | lst h r=>exact .lst (h.stay S) (Reps.stay S r)
 | dct f h n l r=>exact .dct (S.up _ f) (S.xt _ _ f h) n l (DReps.stay S r)
 | exn f h n=>exact .exn (S.up _ f) (S.xt _ _ f h) n
theorem DReps.stay{K:PySem.W.Frag}{F F':Addr->Prop}{H H':Hp}(S:Stay K F F' H H'){kvs:List (D × D)}{es:List (DKey × Addr × V)}(h:DReps K F H kvs es):DReps K F' H' kvs es:=by
 cases h with
 | nil=>exact .nil
 | cons h r t=>exact .cons (h.stay S) (Rep.stay S r) (DReps.stay S t)
theorem Reps.stay{K:PySem.W.Frag}{F F':Addr->Prop}{H H':Hp}(S:Stay K F F' H H'){ds:List D}{vs:List V}(h:Reps K F H ds vs):Reps K F' H' ds vs:=by
 cases h with
 | nil=>exact .nil
 | cons h r=>exact .cons (Rep.stay S h) (Reps.stay S r)
end
theorem Reps.length{K:PySem.W.Frag}{F:Addr->Prop}{H:Hp}:∀{ds:List D}{vs:List V},Reps K F H ds vs->ds.length=vs.length
 | _,_,.nil=>rfl
 | _,_,.cons _ r=>by simp [Reps.length r]
theorem Reps.get{K:PySem.W.Frag}{F:Addr->Prop}{H:Hp}:∀{ds:List D}{vs:List V}{i:Nat}{d:D},Reps K F H ds vs->ds[i]?=some d->∃ v,vs[i]?=some v/\Rep K F H d v
 | _,_,_,_,.nil,e=>by simp at e
 | _,_,0,_,.cons h _,e=>by simp at e;subst e;exact⟨_,rfl,h⟩
 | _,_,i+1,d,.cons _ r,e=>by
  obtain⟨v,h1,h2⟩:=Reps.get (i:=i) (d:=d) r (by simpa using e)
  exact⟨v,by simpa using h1,h2⟩
theorem Reps.append{K:PySem.W.Frag}{F:Addr->Prop}{H:Hp}:∀{ds es:List D}{vs us:List V},Reps K F H ds vs->Reps K F H es us->Reps K F H (ds++es) (vs++us)
 | _,_,_,_,.nil,s=>s
 | _,_,_,_,.cons h r,s=>.cons h (Reps.append r s)
theorem Reps.take{K:PySem.W.Frag}{F:Addr->Prop}{H:Hp}:∀{ds:List D}{vs:List V} (n:Nat),Reps K F H ds vs->Reps K F H (ds.take n) (vs.take n)
 | _,_,0,_=>.nil
 | _,_,_+1,.nil=>.nil
 | _,_,n+1,.cons h r=>.cons h (Reps.take n r)
theorem Reps.drop{K:PySem.W.Frag}{F:Addr->Prop}{H:Hp}:∀{ds:List D}{vs:List V} (n:Nat),Reps K F H ds vs->Reps K F H (ds.drop n) (vs.drop n)
 | _,_,0,r=>r
 | _,_,_+1,.nil=>.nil
 | _,_,n+1,.cons _ r=>Reps.drop n r
structure Ext(F F':Addr->Prop)(H H':Hp):Prop where
 same:Same H H'
 up:∀ a,F a->F' a
 new:∀ a,F' a->F a ∨ (H a=none/\H' a≠none)
theorem Ext.refl(F:Addr->Prop)(H:Hp):Ext F F H H:=⟨Same.refl H,fun _ h=>h,fun _ h=>.inl h⟩
theorem Ext.trans{F F1 F2:Addr->Prop}{H H1 H2:Hp}(a:Ext F F1 H H1)(b:Ext F1 F2 H1 H2):Ext F F2 H H2:=
 ⟨a.same.trans b.same,fun x h=>b.up x (a.up x h),fun x h=>by
  rcases b.new x h with h1 | ⟨h1,h2⟩
  ·rcases a.new x h1 with h3 | ⟨h3,h4⟩
   ·exact .inl h3
   ·refine .inr ⟨h3,fun z=>h4 (b.same.free z)⟩
  ·exact .inr ⟨a.same.free h1,h2⟩⟩
theorem Same.sqT{K:PySem.W.Frag}{H H':Hp}{a:Addr}{xs:List V}(e:Same H H')(h:SqT K H a xs):SqT K H' a xs:=by
 rcases h with(h | ⟨o,h⟩) | h
 ·exact .inl (.inl (e _ _ h))
 ·exact .inl (.inr ⟨o,e _ _ h⟩)
 ·exact .inr h
theorem Same.rd{H H':Hp}{a:Addr}{u:HO}(e:Same H H')(h:Rd H a u):Rd H' a u:=by
 rcases h with h | ⟨o,h⟩
 ·exact .inl (e _ _ h)
 ·exact .inr ⟨o,e _ _ h⟩
theorem Ext.stay{K:PySem.W.Frag}{F F':Addr->Prop}{H H':Hp}(e:Ext F F' H H'):Stay K F F' H H':=
 ⟨e.up,fun _ _ h=>Same.sqT e.same h,fun _ _ _ h=>Same.rd e.same h,fun _ _ _ h=>e.same _ _ h⟩
theorem zKi{H:Hp}{p:Addr}{o:HO}(hp:H p=none):Same H (upd H p o):=fun b u e=>by
 rw [zAf (zAO e hp)];exact e
theorem Ext.fresh{F:Addr->Prop}{H:Hp}{p:Addr}{o:HO}(hp:H p=none):Ext F F H (upd H p o):=⟨zKi hp,fun _ h=>h,fun _ h=>.inl h⟩
theorem Ext.frozen{F:Addr->Prop}{H:Hp}{p:Addr}{o:HO}(hp:H p=none):Ext F (fun a=>F a ∨ a=p) H (upd H p o):=
 ⟨zKi hp,fun _ h=>.inl h,fun a h=>h.elim .inl fun e=>.inr (by subst e;exact⟨hp,by rw [zAs];simp⟩)⟩
theorem Rep.newTup{K:PySem.W.Frag}{F:Addr->Prop}{H:Hp}{p:Addr}{vs:List V}{ds:List D}(hp:H p=none)(r:Reps K F H ds vs):Rep K F (upd H p (.tup vs)) (.tuple ds) (.ref p):=
 .tup (.inl (.inl zAs)) (r.stay (Ext.fresh hp).stay)
theorem Rep.newLst{K:PySem.W.Frag}{F:Addr->Prop}{H:Hp}{p:Addr}{vs:List V}{ds:List D}(hp:H p=none)(r:Reps K F H ds vs):Rep K (fun a=>F a ∨ a=p) (upd H p (.lst vs)) (.list ds) (.ref p):=
 .lst (.inl ⟨.inr rfl,.inl zAs⟩) (r.stay (Ext.frozen hp).stay)
inductive Sl where
 | no
 | dat (d:D)
 | own (ds:List D)
 | ownD (kvs:List (D × D))
 | ownM (kvs:List (List Int × List D))
structure Q4 where
 k:List Int
 b:Addr
 c:Addr
 vs:List V
def Q4.ent(q:Q4):DKey × Addr × V:=(.inl q.k,q.b,.ref q.c)
structure MEnt(K:PySem.W.Frag)(F:Addr->Prop)(H H₀:Hp)(kv:List Int × List D)(q:Q4):Prop where
 key:kv.1=q.k
 sq:SqT K H q.b (q.k.map V.int)
 hc:H q.c=some (LstO q.c q.vs)
 nf:¬ F q.c
 h0:H₀ q.c=none
 rs:Reps K F H kv.2 q.vs
structure zEM(K:PySem.W.Frag)(F:Addr->Prop)(H H₀:Hp)(kvs:List (List Int × List D))(a:Addr)(qs:List Q4)(ep:Nat):Prop where
 hd:H a=some (DctO a (qs.map Q4.ent) ep)
 nf:¬ F a
 h0:H₀ a=none
 nd:(qs.map (·.k)).Nodup
 ln:qs.length<=1000
 nv:(qs.map (·.c)).Nodup
 na:a∉qs.map (·.c)
 ps:Paired (MEnt K F H H₀) kvs qs
def SlOk(K:PySem.W.Frag)(F:Addr->Prop)(H H₀:Hp):Option V->Sl->Prop
 | _,.no=>True
 | o,.dat d=>∃ v,o=some v/\Rep K F H d v
 | o,.own ds=>∃ a vs,o=some (.ref a)/\H a=some (.lst vs)/\¬ F a/\H₀ a=none/\Reps K F H ds vs
 | o,.ownD kvs=>∃ a es ep,o=some (.ref a)/\H a=some (DctO a es ep)/\¬ F a/\H₀ a=none/\(es.map (·.1)).Nodup/\es.length<=1000/\DReps K F H kvs es
 | o,.ownM kvs=>∃ a es ep,o=some (.ref a)/\zEM K F H H₀ kvs a es ep
structure StOk(K:PySem.W.Frag)(F:Addr->Prop)(H H₀:Hp)(σ:L2.St)(ρ:List Sl):Prop where
 len:σ.length=ρ.length
 sl:∀(i:Nat) (s:Sl),ρ[i]?=some s->∃ o,σ[i]?=some o/\SlOk K F H H₀ o s
 sep:∀(i j:Nat) (a:Addr) (ds es:List D),i≠j->ρ[i]?=some (.own ds)->ρ[j]?=some (.own es)->σ[i]?=some (some (.ref a))->σ[j]?≠some (some (.ref a))
 fz:∀ a,F a->H a≠none
theorem zEM.to{K:PySem.W.Frag}{F F':Addr->Prop}{H H' H₀:Hp}{kvs:List (List Int × List D)}{a:Addr}{es:List Q4}{ep:Nat}(m:zEM K F H H₀ kvs a es ep)(T:Stay K F F' H H')
  (k:∀ b φ,H b=some (.ext φ)->¬ F b->H' b=some (.ext φ)/\¬ F' b):zEM K F' H' H₀ kvs a es ep:=
 ⟨(k _ _ m.hd m.nf).1,(k _ _ m.hd m.nf).2,m.h0,m.nd,m.ln,m.nv,m.na,Paired.mapP m.ps fun _ _ q=>⟨q.key,T.tp _ _ q.sq,(k _ _ q.hc q.nf).1,(k _ _ q.hc q.nf).2,q.h0,q.rs.stay T⟩⟩
theorem SlOk.ext{K:PySem.W.Frag}{F F':Addr->Prop}{H H' H₀:Hp}(e:Ext F F' H H'){o:Option V}{s:Sl}(h:SlOk K F H H₀ o s):SlOk K F' H' H₀ o s:=by
 cases s with
 | no=>trivial
 | ownM kvs=>
  obtain⟨a,es,ep,q,m⟩:=h
  refine⟨a,es,ep,q,m.to e.stay fun b φ hb nf=>⟨e.same _ _ hb,fun f=>?_⟩⟩
  rcases e.new b f with f | ⟨f,_⟩
  ·exact nf f
  ·rw [hb]at f;cases f
 | ownD kvs=>
  obtain⟨a,es,ep,q,ha,nf,h0,n,l,r⟩:=h
  refine⟨a,es,ep,q,e.same _ _ ha,fun f=>?_,h0,n,l,r.stay e.stay⟩
  rcases e.new a f with f | ⟨f,_⟩
  ·exact nf f
  ·rw [ha]at f;cases f
 | dat d=>obtain⟨v,q,r⟩:=h;exact⟨v,q,r.stay e.stay⟩
 | own ds=>
  obtain⟨a,vs,q,ha,nf,h0,r⟩:=h
  refine⟨a,vs,q,e.same _ _ ha,fun f=>?_,h0,r.stay e.stay⟩
  rcases e.new a f with f | ⟨f,_⟩
  ·exact nf f
  ·rw [ha]at f;cases f
theorem Ext.fz{F F':Addr->Prop}{H H':Hp}(e:Ext F F' H H')(z:∀ a,F a->H a≠none):∀ a,F' a->H' a≠none:=fun a f q=>by
 rcases e.new a f with f | ⟨_,f⟩
 ·exact z a f (e.same.free q)
 ·exact f q
theorem StOk.ext{K:PySem.W.Frag}{F F':Addr->Prop}{H H' H₀:Hp}{σ:L2.St}{ρ:List Sl}(S:StOk K F H H₀ σ ρ)(e:Ext F F' H H'):StOk K F' H' H₀ σ ρ:=
 ⟨S.len,fun i s h=>let⟨o,q,r⟩:=S.sl i s h;⟨o,q,r.ext e⟩,S.sep,e.fz S.fz⟩
theorem StOk.dat{K:PySem.W.Frag}{F:Addr->Prop}{H H₀:Hp}{σ:L2.St}{ρ:List Sl}(S:StOk K F H H₀ σ ρ){i:Nat}{d:D}(h:ρ[i]?=some (.dat d)):∃ v,σ[i]?=some (some v)/\Rep K F H d v:=by
 obtain⟨o,q,v,e,r⟩:=S.sl i _ h
 exact⟨v,by rw [q,e],r⟩
theorem StOk.ownD{K:PySem.W.Frag}{F:Addr->Prop}{H H₀:Hp}{σ:L2.St}{ρ:List Sl}(S:StOk K F H H₀ σ ρ){i:Nat}{kvs:List (D × D)}(h:ρ[i]?=some (.ownD kvs)):
  ∃ a es ep,σ[i]?=some (some (.ref a))/\H a=some (DctO a es ep)/\¬ F a/\H₀ a=none/\(es.map (·.1)).Nodup/\es.length<=1000/\DReps K F H kvs es:=by
 obtain⟨o,q,a,es,ep,e,r⟩:=S.sl i _ h
 exact⟨a,es,ep,by rw [q,e],r⟩
theorem StOk.own{K:PySem.W.Frag}{F:Addr->Prop}{H H₀:Hp}{σ:L2.St}{ρ:List Sl}(S:StOk K F H H₀ σ ρ){i:Nat}{ds:List D}(h:ρ[i]?=some (.own ds)):
  ∃ a vs,σ[i]?=some (some (.ref a))/\H a=some (.lst vs)/\¬ F a/\H₀ a=none/\Reps K F H ds vs:=by
 obtain⟨o,q,a,vs,e,r⟩:=S.sl i _ h
 exact⟨a,vs,by rw [q,e],r⟩
theorem StOk.put{K:PySem.W.Frag}{F:Addr->Prop}{H H₀:Hp}{σ:L2.St}{ρ:List Sl}(S:StOk K F H H₀ σ ρ){i:Nat}{d:D}{v:V}(r:Rep K F H d v):StOk K F H H₀ (σ.set i (some v)) (ρ.set i (.dat d)):=by
 refine⟨by simp [S.len],fun j s h=>?_,fun j k a ds es hjk h1 h2 h3=>?_,S.fz⟩
 ·by_cases hij:i=j
  ·subst hij
   have hl:i<ρ.length:=by
    have:=Qc.mp h
    simpa using this.1
   rw [Qs hl]at h
   cases h
   exact⟨some v,by rw [Qs (by rw [S.len];exact hl)],v,rfl,r⟩
  ·rw [Qk hij]at h
   obtain⟨o,q,w⟩:=S.sl j s h
   exact⟨o,by rw [Qk hij];exact q,w⟩
 ·have nj:i≠j:=by
   intro e;subst e
   have hl:i<ρ.length:=by
    have:=Qc.mp h1
    simpa using this.1
   rw [Qs hl]at h1;cases h1
  have nk:i≠k:=by
   intro e;subst e
   have hl:i<ρ.length:=by
    have:=Qc.mp h2
    simpa using this.1
   rw [Qs hl]at h2;cases h2
  rw [Qk nj]at h1 h3
  rw [Qk nk]at h2 ⊢
  exact S.sep j k a ds es hjk h1 h2 h3
theorem StOk.putOwn{K:PySem.W.Frag}{F:Addr->Prop}{H H₀:Hp}{σ:L2.St}{ρ:List Sl}(S:StOk K F H H₀ σ ρ){i:Nat}{ds:List D}{vs:List V}{p:Addr}(hp:H p=none)(h0:H₀ p=none)(r:Reps K F H ds vs):
  StOk K F (upd H p (.lst vs)) H₀ (σ.set i (some (.ref p))) (ρ.set i (.own ds)):=by
 have e:Ext F F H (upd H p (.lst vs)):=Ext.fresh hp
 have S':=S.ext e
 have hf:¬ F p:=fun f=>S.fz p f hp
 refine⟨by simp [S.len],fun j s h=>?_,fun j k a ds' es hjk h1 h2 h3 h4=>?_,S'.fz⟩
 ·by_cases hij:i=j
  ·subst hij
   have hl:i<ρ.length:=by
    have:=Qc.mp h
    simpa using this.1
   rw [Qs hl]at h
   cases h
   exact⟨some (.ref p),by rw [Qs (by rw [S.len];exact hl)],p,vs,rfl,zAs,hf,h0,r.stay e.stay⟩
  ·rw [Qk hij]at h
   obtain⟨o,q,w⟩:=S'.sl j s h
   exact⟨o,by rw [Qk hij];exact q,w⟩
 ·have old:∀(m:Nat) (a:Addr) (es:List D),i≠m->(ρ.set i (.own ds))[m]?=some (.own es)->(σ.set i (some (.ref p)))[m]?=some (some (.ref a))->a≠p:=fun m a es nm g1 g2 z=>by
   rw [Qk nm]at g1 g2
   obtain⟨b,us,q1,q2,_⟩:=S.own g1
   rw [q1]at g2;cases g2
   subst z
   rw [hp]at q2;cases q2
  by_cases hij:i=j
  ·subst hij
   have hik:i≠k:=hjk
   have hl:i<ρ.length:=by
    have:=Qc.mp h1
    simpa using this.1
   rw [Qs (by rw [S.len];exact hl)]at h3
   cases h3
   exact old k p es hik h2 h4 rfl
  ·by_cases hik:i=k
   ·subst hik
    have hl:i<ρ.length:=by
     have:=Qc.mp h2
     simpa using this.1
    rw [Qs (by rw [S.len];exact hl)]at h4
    cases h4
    exact old j p ds' hij h1 h3 rfl
   ·rw [Qk hij]at h1 h3
    rw [Qk hik]at h2 h4
    exact S.sep j k a ds' es hjk h1 h2 h3 h4
theorem StOk.turn{K:PySem.W.Frag}{F:Addr->Prop}{H H₀:Hp}{σ:L2.St}{ρ:List Sl}(S:StOk K F H H₀ σ ρ){i:Nat}{ds es:List D}{vs us:List V}{p:Addr}(hi:ρ[i]?=some (.own ds))(hs:σ[i]?=some (some (.ref p)))
  (hp:H p=some (.lst vs)) (hf:¬ F p) (r:Reps K F H es us):StOk K F (upd H p (.lst us)) H₀ σ (ρ.set i (.own es))/\Stay K F F H (upd H p (.lst us)):=by
 have T:Stay K F F H (upd H p (.lst us)):=⟨fun _ h=>h,fun a xs h=>by
   rcases h with(h | ⟨o,h⟩) | h
   ·exact .inl (.inl (by rw [zAf (by intro z;subst z;rw [hp]at h;cases h)];exact h))
   ·exact .inl (.inr ⟨o,by rw [zAf (by intro z;subst z;rw [hp]at h;cases h)];exact h⟩)
   ·exact .inr h,fun a xs f h=>by
   have na:a≠p:=fun z=>hf (z ▸ f)
   rcases h with h | ⟨o,h⟩
   ·exact .inl (by rw [zAf na];exact h)
   ·exact .inr ⟨o,by rw [zAf na];exact h⟩,fun a φ f h=>by rw [zAf (fun z=>hf (by rw [<- z];exact f))];exact h⟩
 refine⟨⟨by simp [S.len],fun j s h=>?_,fun j k a ds' es' hjk h1 h2 h3=>?_,fun a f z=>S.fz a f (by
  have na:a≠p:=fun y=>hf (by rw [<- y];exact f)
  rwa [zAf na]at z)⟩,T⟩
 ·by_cases hij:i=j
  ·subst hij
   have hl:i<ρ.length:=(Qc.mp hi).1
   rw [Qs hl]at h
   cases h
   obtain⟨a,ws,q1,_,_,q4,_⟩:=S.own hi
   rw [hs]at q1;cases q1
   exact⟨_,hs,p,us,rfl,zAs,hf,q4,r.stay T⟩
  ·rw [Qk hij]at h
   obtain⟨o,q,w⟩:=S.sl j s h
   refine⟨o,q,?_⟩
   cases s with
   | no=>trivial
   | ownM kvs=>
    obtain⟨a,es',ep,q',m⟩:=w
    exact⟨a,es',ep,q',m.to T fun b φ hb nf=>⟨by rw [zAf (by intro z;subst z;rw [hp]at hb;cases hb)];exact hb,nf⟩⟩
   | ownD kvs=>
    obtain⟨a,es',ep,q',ha,nf,h0,n,l,r'⟩:=w
    exact⟨a,es',ep,q',by rw [zAf (by intro z;subst z;rw [hp]at ha;cases ha)];exact ha,nf,h0,n,l,r'.stay T⟩
   | dat d=>obtain⟨v,q',r'⟩:=w;exact⟨v,q',r'.stay T⟩
   | own ds'=>
    obtain⟨a,ws,q',ha,nf,h0,r'⟩:=w
    have na:a≠p:=by
     intro z;subst z
     exact S.sep i j a ds ds' hij hi h hs (by rw [q,q'])
    exact⟨a,ws,q',by rw [zAf na];exact ha,nf,h0,r'.stay T⟩
 ·have get:∀(m:Nat) (es':List D),(ρ.set i (.own es))[m]?=some (.own es')->∃ ds'':List D,ρ[m]?=some (.own ds''):=fun m es' g=>by
   by_cases him:i=m
   ·subst him;exact⟨ds,hi⟩
   ·rw [Qk him]at g;exact⟨es',g⟩
  obtain⟨d1,g1⟩:=get j ds' h1
  obtain⟨d2,g2⟩:=get k es' h2
  exact S.sep j k a d1 d2 hjk g1 g2 h3
def frz:Sl->Sl
 | .own ds=>.dat (.list ds)
 | .ownD kvs=>.dat (.dict kvs)
 | .ownM _=>.no
 | s=>s
def Own(σ:L2.St)(ρ:List Sl)(a:Addr):Prop:=(∃(i:Nat) (ds:List D),ρ[i]?=some (.own ds)/\σ[i]?=some (some (.ref a))) ∨ ∃(i:Nat) (kvs:List (D × D)),ρ[i]?=some (.ownD kvs)/\σ[i]?=some (some (.ref a))
theorem StOk.frz{K:PySem.W.Frag}{F:Addr->Prop}{H H₀:Hp}{σ:L2.St}{ρ:List Sl}(S:StOk K F H H₀ σ ρ):StOk K (fun a=>F a ∨ Own σ ρ a) H H₀ σ (ρ.map frz):=by
 have T:Stay K F (fun a=>F a ∨ Own σ ρ a) H H:=⟨fun _ h=>.inl h,fun _ _ h=>h,fun _ _ _ h=>h,fun _ _ _ h=>h⟩
 refine⟨by simp [S.len],fun j s h=>?_,fun j k a ds es _ h1=>?_,fun a f=>?_⟩
 ·rw [QB]at h
  cases e:ρ[j]? with
  | none=>rw [e]at h;cases h
  | some s'=>
   rw [e]at h
   obtain⟨o,q,w⟩:=S.sl j s' e
   refine⟨o,q,?_⟩
   cases s' with
   | no=>cases h;trivial
   | ownM kvs=>cases h;trivial
   | ownD kvs=>
    cases h
    obtain⟨a,es,ep,q',ha,nf,h0,n,l,r⟩:=w
    exact⟨.ref a,q',.dct (.inr (.inr ⟨j,kvs,e,by rw [q,q']⟩)) ha n l (r.stay T)⟩
   | dat d=>cases h;obtain⟨v,q',r⟩:=w;exact⟨v,q',r.stay T⟩
   | own ds=>
    cases h
    obtain⟨a,vs,q',ha,nf,h0,r⟩:=w
    exact⟨.ref a,q',.lst (.inl ⟨.inr (.inl ⟨j,ds,e,by rw [q,q']⟩),.inl ha⟩) (r.stay T)⟩
 ·rw [QB]at h1
  cases e:ρ[j]? with
  | none=>rw [e]at h1;cases h1
  | some s'=>rw [e]at h1;cases s' <;> cases h1
 ·rcases f with f | ⟨i,ds,q1,q2⟩ | ⟨i,kvs,q1,q2⟩
  ·exact S.fz a f
  ·obtain⟨b,vs,g1,g2,_⟩:=S.own q1
   rw [g1]at q2;cases q2
   rw [g2];simp
  ·obtain⟨b,vs,ep,g1,g2,_⟩:=S.ownD q1
   rw [g1]at q2;cases q2
   rw [g2];simp
end DL
namespace DL
open PySem PySem.Spec PyProof.Rows L2
abbrev Rho:=List Sl
section
variable {X:Cx}
theorem zAE{e:Expr}{t t':TE}(h:PE X e t)(m:∀ σ H Q,t' σ H Q->t σ H Q):PE X e t':=fun pins s σ H Q I q=>h pins s σ H Q I (m σ H Q q)
theorem zCY{e:Expr}{t t':TT}(h:PT X e t)(m:∀ σ H Q,t' σ H Q->t σ H Q):PT X e t':=fun pins s σ H Q I q=>h pins s σ H Q I (m σ H Q q)
theorem zHk{e:Expr}{t t':TT}(h:PW X e t)(m:∀ σ H Q,t' σ H Q->t σ H Q):PW X e t':=fun wh pins s σ H Q I q=>h wh pins s σ H Q I (m σ H Q q)
theorem zCU{es:List Expr}{t t':TA}(h:PA X es t)(m:∀ σ H Q,t' σ H Q->t σ H Q):PA X es t':=fun pos pins s σ H Q I q=>h pos pins s σ H Q I (m σ H Q q)
theorem ps_mono{e:Stmt}{t t':TS}(h:PS X e t)(m:∀ W σ H,t' W σ H->t W σ H):PS X e t':=fun pins s σ H W I q=>h pins s σ H W I (m W σ H q)
theorem zEw{e:List Stmt}{t t':TS}(h:PSs X e t)(m:∀ W σ H,t' W σ H->t W σ H):PSs X e t':=fun pins s σ H W I q=>h pins s σ H W I (m W σ H q)
theorem zEn{f:Value->Value->Sem Value}{r r':R2}(h:OpR X f r)(m:∀ x y H Q,r' x y H Q->r x y H Q):OpR X f r':=fun pins s σ H x y v u Q I rx ry q=>h pins s σ H x y v u Q I rx ry (m x y H Q q)
theorem zPL{f:Value->Sem Value}{r r':V->Hp->VK->Prop}(h:UnR X f r)(m:∀ x H Q,r' x H Q->r x H Q):UnR X f r':=fun pins s σ H x v Q I rx q=>h pins s σ H x v Q I rx (m x H Q q)
theorem zEQ{f:Value}{r r':List V->Hp->VK->Prop}(h:zA0 X f r)(m:∀ x H Q,r' x H Q->r x H Q):zA0 X f r':=fun pins s σ H x v Q I rx q=>h pins s σ H x v Q I rx (m x H Q q)
theorem zMQ{r r':R2}(h:IxR X r)(m:∀ x y H Q,r' x y H Q->r x y H Q):IxR X r':=fun a b pins s σ H x y v u Q I rx ry q hs=>h a b pins s σ H x y v u Q I rx ry (m x y H Q q) hs
end
inductive TDx(K:PySem.W.Frag)(σ:L2.St)(H:Hp){α:Type}(g:Rho->Option α)(h:(Addr->Prop)->α->Prop):Prop
 | mk (F:Addr->Prop) (H₀:Hp) (ρ:Rho) (x:α) (S:StOk K F H H₀ σ ρ) (q:g ρ=some x) (k:h F x):TDx K σ H g h
def tD(K:PySem.W.Frag)(g:Rho->Option D):TE:=fun σ H Q=>TDx K σ H g fun F d=>∀ F' H' v,Ext F F' H H'->Rep K F' H' d v->Q v H'
def tDT(K:PySem.W.Frag)(g:Rho->Option Bool):TT:=fun σ H Q=>TDx K σ H g fun F b=>∀ F' H',Ext F F' H H'->Q b H'
def tDA(K:PySem.W.Frag)(g:Rho->Option (List D)):TA:=fun σ H Q=>TDx K σ H g fun F ds=>∀ F' H' vs,Ext F F' H H'->Reps K F' H' ds vs->Q vs H'
def DE(X:Cx)(e:Expr)(g:Rho->Option D):Prop:=PE X e (tD X.K g)
def DT(X:Cx)(e:Expr)(g:Rho->Option Bool):Prop:=PT X e (tDT X.K g)
def DW(X:Cx)(e:Expr)(g:Rho->Option Bool):Prop:=PW X e (tDT X.K g)
def DA(X:Cx)(es:List Expr)(g:Rho->Option (List D)):Prop:=PA X es (tDA X.K g)
def eC(d:D):Rho->Option D:=fun _=>some d
def eV(i:Nat):Rho->Option D:=fun ρ=>match ρ[i]? with
 | some (.dat d)=>some d
 | _=>none
def eOp(f:D->D->Option D)(ga gb:Rho->Option D):Rho->Option D:=fun ρ=>(ga ρ).bind fun x=>(gb ρ).bind fun y=>f x y
def eUn(f:D->Option D)(ga:Rho->Option D):Rho->Option D:=fun ρ=>(ga ρ).bind f
def eNil:Rho->Option (List D):=fun _=>some []
def zAc(ga:Rho->Option D)(gr:Rho->Option (List D)):Rho->Option (List D):=fun ρ=>(ga ρ).bind fun x=>(gr ρ).bind fun xs=>some (x::xs)
def eTup(ga:Rho->Option (List D)):Rho->Option D:=fun ρ=>(ga ρ).bind fun xs=>if xs.length<=1000 then some (.tuple xs)else none
def eLst(ga:Rho->Option (List D)):Rho->Option D:=fun ρ=>(ga ρ).bind fun xs=>if xs.length<=1000 then some (.list xs)else none
def zAj(G:List D->Option D)(ga:Rho->Option (List D)):Rho->Option D:=fun ρ=>(ga ρ).bind G
def asB:D->Option Bool
 | .bool b=>some b
 | _=>none
def asI:D->Option Int
 | .int i=>some i
 | _=>none
def eB(ga:Rho->Option D):Rho->Option Bool:=fun ρ=>(ga ρ).bind asB
def eAnd(t u:Rho->Option Bool):Rho->Option Bool:=fun ρ=>(t ρ).bind fun b=>if b=true then u ρ else some false
def eOr(t u:Rho->Option Bool):Rho->Option Bool:=fun ρ=>(t ρ).bind fun b=>if b=true then some true else u ρ
def eNot(t:Rho->Option Bool):Rho->Option Bool:=fun ρ=>(t ρ).bind fun b=>some (!b)
def eIf(t:Rho->Option Bool)(ga gb:Rho->Option D):Rho->Option D:=fun ρ=>(t ρ).bind fun b=>if b=true then ga ρ else gb ρ
def zB4(ga gb:Rho->Option D):Rho->Option D:=fun ρ=>(ga ρ).bind fun x=>(asB x).bind fun c=>if c=true then gb ρ else some (.bool false)
def eOrV(ga gb:Rho->Option D):Rho->Option D:=fun ρ=>(ga ρ).bind fun x=>(asB x).bind fun c=>if c=true then some (.bool true)else gb ρ
def zIq(ga:Rho->Option D):Rho->Option D:=fun ρ=>(ga ρ).bind fun x=>(asB x).bind fun c=>some (.bool (!c))
def zDj(h h':D->D->Option D)(ga gb gc:Rho->Option D):Rho->Option D:=fun ρ=>(ga ρ).bind fun x=>(gb ρ).bind fun y=>(h x y).bind fun z=>(asB z).bind fun k=>if k=true then(gc ρ).bind fun w=>h' y w else some (.bool false)
inductive RD2(K:PySem.W.Frag)(h:D->D->Option D)(x y:V)(H:Hp)(Q:VK):Prop
 | mk (F:Addr->Prop) (d e r:D) (z:∀ a,F a->H a≠none) (R1:Rep K F H d x) (R2:Rep K F H e y) (q:h d e=some r) (k:∀ F' H' v,Ext F F' H H'->Rep K F' H' r v->Q v H'):RD2 K h x y H Q
def rD2(K:PySem.W.Frag)(h:D->D->Option D):R2:=fun x y H Q=>RD2 K h x y H Q
inductive RD1(K:PySem.W.Frag)(h:D->Option D)(x:V)(H:Hp)(Q:VK):Prop
 | mk (F:Addr->Prop) (d r:D) (z:∀ a,F a->H a≠none) (R1:Rep K F H d x) (q:h d=some r) (k:∀ F' H' v,Ext F F' H H'->Rep K F' H' r v->Q v H'):RD1 K h x H Q
def rD1(K:PySem.W.Frag)(h:D->Option D):V->Hp->VK->Prop:=fun x H Q=>RD1 K h x H Q
inductive RDA(K:PySem.W.Frag)(h:List D->Option D)(xs:List V)(H:Hp)(Q:VK):Prop
 | mk (F:Addr->Prop) (ds:List D) (r:D) (z:∀ a,F a->H a≠none) (R1:Reps K F H ds xs) (q:h ds=some r) (k:∀ F' H' v,Ext F F' H H'->Rep K F' H' r v->Q v H'):RDA K h xs H Q
def rDA(K:PySem.W.Frag)(h:List D->Option D):List V->Hp->VK->Prop:=fun xs H Q=>RDA K h xs H Q
section
variable {X:Cx}{a b c e:Expr}{es:List Expr}{ga gb gc:Rho->Option D}{pos p:Pos}
theorem bnd{α β:Type}{o:Option α}{f:α->Option β}{b:β}(h:o.bind f=some b):∃ a,o=some a/\f a=some b:=by
 cases o with
 | none=>cases h
 | some a=>exact⟨a,rfl,h⟩
theorem zGc{v:V}{d:D}(h:PE X e (tC v))(r:∀ K F H,Rep K F H d v):DE X e (eC d):=
 zAE h fun σ H Q zz=>by
  obtain⟨F,H₀,ρ,d',S,q,k⟩:=zz
  cases q
  exact k F H v (Ext.refl F H) (r _ _ _)
theorem zAd{i:Int}{j:Nat}:DE X (.Constant (.int i) j pos) (eC (.int i)):=zGc zDu fun _ _ _=>.int i
theorem zBb{i:Bool}{j:Nat}:DE X (.Constant (.bool i) j pos) (eC (.bool i)):=zGc pe_bl fun _ _ _=>.bl i
theorem zEY{x:Str}{j:Nat}:DE X (.Constant (.str x) j pos) (eC (.str x)):=zGc zEr fun _ _ _=>.str x
theorem zAa(i:Nat){x:Str}(hN:X.N[i]?=some x:=by rfl)(hv:Vis X.env.scope x:=by first | exact Or.inl rfl | exact Or.inr (Or.inl rfl) | exact Or.inr (Or.inr rfl))(hd:(x == ("__debug__":Str))=false:=by decide)
  (hcd:(x == ("__classdict__":Str))=false:=by decide):DE X (.Name x pos) (eV i):=
 zAE (zCd hN hv hd hcd) fun σ H Q zz=>by
  obtain⟨F,H₀,ρ,d,S,q,k⟩:=zz
  unfold eV at q
  split at q
  ·rename_i d' e
   cases q
   obtain⟨v,hs,r⟩:=S.dat e
   exact⟨v,hs,k F H v (Ext.refl F H) r⟩
  ·cases q
theorem zFc{h:D->D->Option D}{σ:L2.St}{H:Hp}{Q:VK}(q:tD X.K (eOp h ga gb) σ H Q):tOp (rD2 X.K h) (tD X.K ga) (tD X.K gb) σ H Q:=by
 obtain⟨F,H₀,ρ,d,S,q,k⟩:=q
 obtain⟨x,e1,q⟩:=bnd q
 obtain⟨y,e2,q⟩:=bnd q
 exact⟨F,H₀,ρ,x,S,e1,fun F1 H1 v E1 R1=>⟨F1,H₀,ρ,y,S.ext E1,e2,fun F2 H2 u E2 R2=>⟨F2,x,y,d,((S.ext E1).ext E2).fz,R1.stay E2.stay,R2,q,fun F3 H3 w E3 R3=>k F3 H3 w (E1.trans (E2.trans E3)) R3⟩⟩⟩
theorem zAh{op:Operator}{h:D->D->Option D}(ho:OpR X (binaryOp op) (rD2 X.K h))(ha:DE X a ga)(hb:DE X b gb):DE X (.BinOp a op b pos) (eOp h ga gb):=
 zAE (pe_op ho ha hb) fun _ _ _ q=>zFc q
theorem zEW{op:CmpOp}{h:D->D->Option D}(ho:OpR X (compareOp op) (rD2 X.K h))(ha:DE X a ga)(hb:DE X b gb)(hm:behindInMarks op b=false):DE X (.Compare a [op] [b] pos) (eOp h ga gb):=
 zAE (zJV ho ha hb hm) fun _ _ _ q=>zFc q
theorem zAi{h:D->D->Option D}(ho:IxR X (rD2 X.K h))(ha:DE X a ga)(hb:DE X b gb)(hs:zHZ b:=by exact fun _ _=>rfl):DE X (.Subscript a b pos) (eOp h ga gb):=
 zAE (zFB ho ha hb hs) fun _ _ _ q=>zFc q
theorem zDf{op:UnaryOp}{h:D->Option D}(ho:UnR X (unaryOp op) (rD1 X.K h))(ha:DE X a ga):DE X (.UnaryOp op a pos) (eUn h ga):=
 zAE (pe_un ho ha) fun σ H Q zz=>by
  obtain⟨F,H₀,ρ,d,S,q,k⟩:=zz
  obtain⟨x,e1,q⟩:=bnd q
  exact⟨F,H₀,ρ,x,S,e1,fun F1 H1 v E1 R1=>⟨F1,x,d,(S.ext E1).fz,R1,q,fun F3 H3 w E3 R3=>k F3 H3 w (E1.trans E3) R3⟩⟩
theorem zBx{K:PySem.W.Frag}{F:Addr->Prop}{H:Hp}{d:D}{v:V}{b:Bool}(r:Rep K F H d v)(h:asB d=some b):v=.bl b:=by
 cases r with
 | bl c=>cases h;rfl
 | _=>cases h
theorem zOL{K:PySem.W.Frag}{F:Addr->Prop}{H:Hp}{d:D}{v:V}{i:Int}(r:Rep K F H d v)(h:asI d=some i):v=.int i:=by
 cases r with
 | int c=>cases h;rfl
 | _=>cases h
theorem liftT{t:TE}{g:Rho->Option D}(m:∀ σ H Q,tD X.K g σ H Q->t σ H Q){σ:L2.St}{H:Hp}{Q:Bool->Hp->Prop}(q:tDT X.K (eB g) σ H Q):zHH t σ H Q:=by
 obtain⟨F,H₀,ρ,b,S,q,k⟩:=q
 obtain⟨d,e1,q⟩:=bnd q
 exact m σ H _ ⟨F,H₀,ρ,d,S,e1,fun F1 H1 v E1 R1=>⟨b,zBx R1 q,k F1 H1 E1⟩⟩
theorem zAU{op:CmpOp}{h:D->D->Option D}(ho:OpR X (compareOp op) (rD2 X.K h))(ha:DE X a ga)(hb:DE X b gb)(hm:behindInMarks op b=false):DT X (.Compare a [op] [b] pos) (eB (eOp h ga gb)):=
 zCY (zHh ho ha hb hm) fun _ _ _ q=>liftT (fun _ _ _=>zFc) q
theorem lift3{h h':D->D->Option D}{σ:L2.St}{H:Hp}{Q:VK}(q:tD X.K (zDj h h' ga gb gc) σ H Q):zKF (rD2 X.K h) (rD2 X.K h') (tD X.K ga) (tD X.K gb) (tD X.K gc) σ H Q:=by
 obtain⟨F,H₀,ρ,d,S,q,k⟩:=q
 obtain⟨x,e1,q⟩:=bnd q
 obtain⟨y,e2,q⟩:=bnd q
 obtain⟨z,e3,q⟩:=bnd q
 obtain⟨c',e4,q⟩:=bnd q
 refine⟨F,H₀,ρ,x,S,e1,fun F1 H1 v E1 R1=>⟨F1,H₀,ρ,y,S.ext E1,e2,fun F2 H2 u E2 R2=>⟨F2,x,y,z,((S.ext E1).ext E2).fz,R1.stay E2.stay,R2,e3,fun F3 H3 w E3 R3=>⟨c',zBx R3 e4,?_⟩⟩⟩⟩
 cases c' with
 | false=>
  simp only [Qm,if_false]at q ⊢
  cases q
  exact k F3 H3 _ (E1.trans (E2.trans E3)) (.bl false)
 | true=>
  simp only [if_true]at q ⊢
  obtain⟨w',e5,q⟩:=bnd q
  have S3:=((S.ext E1).ext E2).ext E3
  exact⟨F3,H₀,ρ,w',S3,e5,fun F4 H4 v4 E4 R4=>⟨F4,y,w',d,(S3.ext E4).fz,(R2.stay E3.stay).stay E4.stay,R4,q,fun F5 H5 v5 E5 R5=>k F5 H5 v5 (E1.trans (E2.trans (E3.trans (E4.trans E5)))) R5⟩⟩
theorem zEV{op op':CmpOp}{h h':D->D->Option D}(ho:OpR X (compareOp op) (rD2 X.K h))(ho':OpR X (compareOp op') (rD2 X.K h'))(ha:DE X a ga)(hb:DE X b gb)(hc:DE X c gc)
  (hm:lastMarks [op,op'] [b,c]=false:=by with_unfolding_all rfl):DE X (.Compare a [op,op'] [b,c] pos) (zDj h h' ga gb gc):=
 zAE (zOc ho ho' ha hb hc hm) fun _ _ _ q=>lift3 q
theorem zCk(ha:DE X a ga)(he:∀ whole,isTrue a X.env whole=(do let v <- whole;standAt a.pos;holding [v] (truthy v)):=by intro _;rfl):DT X a (eB ga):=
 zCY (zFD ha he) fun σ H Q zz=>by
  obtain⟨F,H₀,ρ,b,S,q,k⟩:=zz
  obtain⟨d,e1,q⟩:=bnd q
  exact⟨F,H₀,ρ,d,S,e1,fun F1 H1 v E1 R1=>⟨b,zBx R1 q,k F1 H1 E1⟩⟩
variable {t u:Rho->Option Bool}{rest:List Expr}
theorem zIp(ha:DT X a t):DW X (.BoolOp .And [a] pos) t:=zOF ha
theorem zGm(ha:DT X a t):DW X (.BoolOp .Or [a] pos) t:=zJ8 ha
theorem zIo(ha:DT X a t)(hb:DW X (.BoolOp .And (b::rest) pos) u):DW X (.BoolOp .And (a::b::rest) pos) (eAnd t u):=
 zHk (zOE ha hb) fun σ H Q zz=>by
  obtain⟨F,H₀,ρ,r,S,q,k⟩:=zz
  obtain⟨d,e1,q⟩:=bnd q
  refine⟨F,H₀,ρ,d,S,e1,fun F1 H1 E1=>?_⟩
  cases d with
  | true=>simp only [if_true]at q ⊢;exact⟨F1,H₀,ρ,r,S.ext E1,q,fun F2 H2 E2=>k F2 H2 (E1.trans E2)⟩
  | false=>simp only [Qm,if_false]at q ⊢;cases q;exact k F1 H1 E1
theorem zGl(ha:DT X a t)(hb:DW X (.BoolOp .Or (b::rest) pos) u):DW X (.BoolOp .Or (a::b::rest) pos) (eOr t u):=
 zHk (zJ7 ha hb) fun σ H Q zz=>by
  obtain⟨F,H₀,ρ,r,S,q,k⟩:=zz
  obtain⟨d,e1,q⟩:=bnd q
  refine⟨F,H₀,ρ,d,S,e1,fun F1 H1 E1=>?_⟩
  cases d with
  | false=>simp only [Qm,if_false]at q ⊢;exact⟨F1,H₀,ρ,r,S.ext E1,q,fun F2 H2 E2=>k F2 H2 (E1.trans E2)⟩
  | true=>simp only [if_true]at q ⊢;cases q;exact k F1 H1 E1
theorem dw_t(h:DW X a t):DT X a t:=PW.pt h
theorem zDh(ha:DT X a t):DT X (.UnaryOp .Not a pos) (eNot t):=
 zCY (zJ6 ha) fun σ H Q zz=>by
  obtain⟨F,H₀,ρ,r,S,q,k⟩:=zz
  obtain⟨d,e1,q⟩:=bnd q
  cases q
  exact⟨F,H₀,ρ,d,S,e1,fun F1 H1 E1=>k F1 H1 E1⟩
theorem zD0{op:BoolOp}(ha:DE X a ga):DE X (.BoolOp op [a] pos) ga:=zJY ha
theorem zEU(ha:DE X a ga)(hb:DE X (.BoolOp .And (b::rest) pos) gb):DE X (.BoolOp .And (a::b::rest) pos) (zB4 ga gb):=
 zAE (zJU ha hb) fun σ H Q zz=>by
  obtain⟨F,H₀,ρ,r,S,q,k⟩:=zz
  obtain⟨d,e1,q⟩:=bnd q
  obtain⟨c,e2,q⟩:=bnd q
  refine⟨F,H₀,ρ,d,S,e1,fun F1 H1 v E1 R1=>⟨c,zBx R1 e2,?_⟩⟩
  cases c with
  | true=>simp only [if_true]at q ⊢;exact⟨F1,H₀,ρ,r,S.ext E1,q,fun F2 H2 w E2 R2=>k F2 H2 w (E1.trans E2) R2⟩
  | false=>simp only [Qm,if_false]at q ⊢;cases q;exact k F1 H1 _ E1 (.bl false)
theorem de_or(ha:DE X a ga)(hb:DE X (.BoolOp .Or (b::rest) pos) gb):DE X (.BoolOp .Or (a::b::rest) pos) (eOrV ga gb):=
 zAE (pe_or ha hb) fun σ H Q zz=>by
  obtain⟨F,H₀,ρ,r,S,q,k⟩:=zz
  obtain⟨d,e1,q⟩:=bnd q
  obtain⟨c,e2,q⟩:=bnd q
  refine⟨F,H₀,ρ,d,S,e1,fun F1 H1 v E1 R1=>⟨c,zBx R1 e2,?_⟩⟩
  cases c with
  | false=>simp only [Qm,if_false]at q ⊢;exact⟨F1,H₀,ρ,r,S.ext E1,q,fun F2 H2 w E2 R2=>k F2 H2 w (E1.trans E2) R2⟩
  | true=>simp only [if_true]at q ⊢;cases q;exact k F1 H1 _ E1 (.bl true)
theorem zLP(ha:DE X a ga):DE X (.UnaryOp .Not a pos) (zIq ga):=
 zAE (zOe ha) fun σ H Q zz=>by
  obtain⟨F,H₀,ρ,r,S,q,k⟩:=zz
  obtain⟨d,e1,q⟩:=bnd q
  obtain⟨c,e2,q⟩:=bnd q
  cases q
  exact⟨F,H₀,ρ,d,S,e1,fun F1 H1 v E1 R1=>⟨c,zBx R1 e2,k F1 H1 _ E1 (.bl _)⟩⟩
theorem zIi(hc:DT X c t)(ha:DE X a ga)(hb:DE X b gb):DE X (.IfExp c a b pos) (eIf t ga gb):=
 zAE (zHc hc ha hb) fun σ H Q zz=>by
  obtain⟨F,H₀,ρ,r,S,q,k⟩:=zz
  obtain⟨d,e1,q⟩:=bnd q
  refine⟨F,H₀,ρ,d,S,e1,fun F1 H1 E1=>?_⟩
  cases d with
  | true=>simp only [if_true]at q ⊢;exact⟨F1,H₀,ρ,r,S.ext E1,q,fun F2 H2 w E2 R2=>k F2 H2 w (E1.trans E2) R2⟩
  | false=>simp only [Qm,if_false]at q ⊢;exact⟨F1,H₀,ρ,r,S.ext E1,q,fun F2 H2 w E2 R2=>k F2 H2 w (E1.trans E2) R2⟩
variable {gr:Rho->Option (List D)}
theorem zAe:DA X [] eNil:=zCU zAw fun σ H Q zz=>by
 obtain⟨F,H₀,ρ,d,S,q,k⟩:=zz
 cases q
 exact k F H [] (Ext.refl F H) .nil
theorem zLL(ha:DE X e ga)(hr:DA X es gr)(hs:starEach (e::es) X.env=(false,eval e X.env)::starEach es X.env:=by rfl):DA X (e::es) (zAc ga gr):=
 zCU (zAl ha hr hs) fun σ H Q zz=>by
  obtain⟨F,H₀,ρ,d,S,q,k⟩:=zz
  obtain⟨x,e1,q⟩:=bnd q
  obtain⟨xs,e2,q⟩:=bnd q
  cases q
  exact⟨F,H₀,ρ,x,S,e1,fun F1 H1 v E1 R1=>⟨F1,H₀,ρ,xs,S.ext E1,e2,fun F2 H2 vs E2 R2=>k F2 H2 _ (E1.trans E2) (.cons (R1.stay E2.stay) R2)⟩⟩
theorem zAR{n:Nat}(h:n<=1000):n<=sizeLine:=YA (zDB h)
theorem zLQ{x1}(h:DA X es gr):DE X (.Tuple es x1 pos) (eTup gr):=
 zAE (zEs h) fun σ H Q zz=>by
  obtain⟨F,H₀,ρ,d,S,q,k⟩:=zz
  obtain⟨xs,e1,q⟩:=bnd q
  refine⟨F,H₀,ρ,xs,S,e1,fun F1 H1 vs E1 R1=>?_⟩
  by_cases hl:xs.length<=1000
  ·rw [if_pos hl]at q
   cases q
   refine⟨zAR (by rw [<- R1.length];exact hl),fun p hp=>k F1 _ _ (E1.trans (Ext.fresh hp)) (Rep.newTup hp R1)⟩
  ·rw [if_neg hl]at q;cases q
theorem zEX(h:DA X es gr):DE X (.List es pos) (eLst gr):=
 zAE (zCW h) fun σ H Q zz=>by
  obtain⟨F,H₀,ρ,d,S,q,k⟩:=zz
  obtain⟨xs,e1,q⟩:=bnd q
  refine⟨F,H₀,ρ,xs,S,e1,fun F1 H1 vs E1 R1=>?_⟩
  by_cases hl:xs.length<=1000
  ·rw [if_pos hl]at q
   cases q
   refine⟨zAR (by rw [<- R1.length];exact hl),fun p hp=>k _ _ _ (E1.trans (Ext.frozen hp)) (Rep.newLst hp R1)⟩
  ·rw [if_neg hl]at q;cases q
theorem zJo{h:List D->Option D}{σ:L2.St}{H:Hp}{Q:VK}(q:tD X.K (zAj h gr) σ H Q):tCB (rDA X.K h) (tDA X.K gr) σ H Q:=by
 obtain⟨F,H₀,ρ,d,S,q,k⟩:=q
 obtain⟨xs,e1,q⟩:=bnd q
 exact⟨F,H₀,ρ,xs,S,e1,fun F1 H1 vs E1 R1=>⟨F1,xs,d,(S.ext E1).fz,R1,q,fun F2 H2 w E2 R2=>k F2 H2 w (E1.trans E2) R2⟩⟩
theorem zBf{id:String}{x:Str}{h:List D->Option D}(hc:zA0 X (.builtin id) (rDA X.K h))(hg:Gl X x)(hm:X.mg x=none)(hv:bootBuiltins x=some (.builtin id))(ha:DA X (e::es) gr)(hn:x≠"__name__":=by decide)(hdb:(x == ("__debug__":Str))=false:=by decide)
  (he:starEach (e::es) X.env=(false,eval e X.env)::starEach es X.env:=by rfl) (hpl:(backTo pos (starEach es X.env)).any (·.1)=false:=by rfl):DE X (.Call (.Name x p) (e::es) [] pos) (zAj h gr):=
 zAE (zFA hc hg hm hv ha hn hdb he hpl) fun _ _ _ q=>zJo q
theorem zCL{T:String}{x:Str}{h:List D->Option D}(hc:zA0 X (.type T) (rDA X.K h))(hg:Gl X x)(hm:X.mg x=none)(hv:bootBuiltins x=some (.type T))(ha:DA X (e::es) gr)(hn:x≠"__name__":=by decide)(hdb:(x == ("__debug__":Str))=false:=by decide)
  (he:starEach (e::es) X.env=(false,eval e X.env)::starEach es X.env:=by rfl) (hpl:(backTo pos (starEach es X.env)).any (·.1)=false:=by rfl):DE X (.Call (.Name x p) (e::es) [] pos) (zAj h gr):=
 zAE (zHb hc hg hm hv ha hn hdb he hpl) fun _ _ _ q=>zJo q
def spD(K:PySem.W.Frag)(n:Nat)(G:List D->Option D):Sp:=fun vs H Q _=>∃(F:Addr->Prop) (ds:List D) (d:D),ds.length=n/\(∀ a,F a->H a≠none)/\Reps K F H ds vs/\G ds=some d/\∀ F' H' v,Ext F F' H H'->Rep K F' H' d v->Q v H'
theorem zLO{k n:Nat}{f:Addr}{fd:FuncData}{ps:List Str}{x:Str}{G:List D->Option D}(F:FnOk X.prog X.w X.K X.mg X.base CX0 k f fd ps (spD X.K n G))(hr:Room k X.A)(hg:Gl X x)(hm:X.mg x=some (.ref f))(hk:PySem.W.keepIn X.K (.ref f)=true)(hb:Binds X.K fd ps [])
  (ha:DA X (e::es) gr) (hln:∀ ρ ds,gr ρ=some ds->ds.length=n) (hdb:(x == ("__debug__":Str))=false:=by decide) (he:starEach (e::es) X.env=(false,eval e X.env)::starEach es X.env:=by rfl) (hpl:(backTo pos (starEach es X.env)).any (·.1)=false:=by rfl):
  DE X (.Call (.Name x p) (e::es) [] pos) (zAj G gr):=
 zAE (zBU (E:=E0) F hr hg hm hk hb .nil zAV ha hdb he hpl) fun σ H Q zz=>by
  obtain⟨F,H₀,ρ,d,S,q,k⟩:=zz
  obtain⟨xs,e1,q⟩:=bnd q
  exact⟨F,H₀,ρ,xs,S,e1,fun F1 H1 vs E1 R1=>by
   show spD X.K n G (vs++[]) H1 Q E0
   rw [Q8]
   exact⟨F1,xs,d,hln ρ xs e1,(S.ext E1).fz,R1,q,fun F2 H2 w E2 R2=>k F2 H2 w (E1.trans E2) R2⟩⟩
theorem zMc{ρ:Rho}{ds:List D}(h:eNil ρ=some ds):ds.length=0:=by cases h;rfl
theorem zE0{n:Nat}(h':∀ ρ ds,gr ρ=some ds->ds.length=n)(ρ:Rho)(ds:List D)(h:zAc ga gr ρ=some ds):ds.length=n+1:=by
 obtain⟨x,e1,q⟩:=bnd h
 obtain⟨xs,e2,q⟩:=bnd q
 cases q
 simp [h' ρ xs e2]
end
end DL
namespace EX
open PySem PySem.Spec PyProof.Rows L2
def Fly(h:Heap)(e:Addr)(cls:Value)(tr:Option Addr):Prop:=
 ∃ oe vs,h.get? e=some oe/\oe.cls=cls/\oe.data=.fields vs/\match tr with
  | none=>vs[1]?=some .none
  | some T=>vs[1]?=some (.ref T)/\T≠e/\∃ oT ts,h.get? T=some oT/\oT.data=.fields ts/\ts[3]?=some .none
structure ThrownC(X:Cx)(pins:List (Addr × Obj))(H:Hp)(s:Shared)(a:Addr)(cls:Value)(tr:Option Addr):Prop where
 fly:Fly s.heap a cls tr
 new:∀ b,(b=a ∨ some b=tr)->X.s₀.heap.get? b=none/\H b=none/\b≠X.env.locals/\(∀ x c,X.env.cells.lookup x=some c->c≠b)/\∀ p∈X.pn++pins,p.1≠b
section
variable {M:Model}{A:Around}{E:Value->Shared->Prop}{s:Shared}
end
end EX
namespace DL
open PySem PySem.Spec PyProof.Rows L2
inductive Out where
 | nx (ρ:Rho)
 | rt (d:D)
 | bk (ρ:Rho)
 | ct (ρ:Rho)
 | ex (x:Str) (ρ:Rho)
theorem Stay.refl(K:PySem.W.Frag)(F:Addr->Prop)(H:Hp):Stay K F F H H:=⟨fun _ h=>h,fun _ _ h=>h,fun _ _ _ h=>h,fun _ _ _ h=>h⟩
theorem Stay.trans{K:PySem.W.Frag}{F F1 F2:Addr->Prop}{H H1 H2:Hp}(a:Stay K F F1 H H1)(b:Stay K F1 F2 H1 H2):Stay K F F2 H H2:=
 ⟨fun x h=>b.up x (a.up x h),fun x xs h=>b.tp x xs (a.tp x xs h),fun x xs f h=>b.ls x xs (a.up x f) (a.ls x xs f h),fun x φ f h=>b.xt x φ (a.up x f) (a.xt x φ f h)⟩
def zDX(X:Cx)(F₀:Addr->Prop)(H₀:Hp)(F:Addr->Prop)(H:Hp)(W:Ends):Out->Prop
 | .nx ρ=>∀ F' H' σ,Ext F₀ F' H₀ H'->Stay X.K F F' H H'->StOk X.K F' H' H₀ σ ρ->W.nx σ H'
 | .rt d=>∀ F' H' v,Ext F₀ F' H₀ H'->Rep X.K F' H' d v->W.rt v H'
 | .bk ρ=>∀ F' H' σ,Ext F₀ F' H₀ H'->Stay X.K F F' H H'->StOk X.K F' H' H₀ σ ρ->W.bk σ H'
 | .ct ρ=>∀ F' H' σ,Ext F₀ F' H₀ H'->Stay X.K F F' H H'->StOk X.K F' H' H₀ σ ρ->W.ct σ H'
 | .ex x ρ=>∀ F' H' σ pins s a C tr,Ext F₀ F' H₀ H'->StOk X.K F' H' H₀ σ ρ->Inv X pins σ H' s->PySem.W.nsIn X.K mainGlobals x=some (some (.ref C))->EX.ThrownC X pins H' s a (.ref C) tr->X.xe (.ref a) s
theorem zDX.from{X:Cx}{F₀ F F':Addr->Prop}{H₀ H H':Hp}{W:Ends}{o:Out}(T:Stay X.K F F' H H')(k:zDX X F₀ H₀ F H W o):zDX X F₀ H₀ F' H' W o:=by
 cases o with
 | nx ρ=>exact fun F2 H2 σ E T2 S=>k F2 H2 σ E (T.trans T2) S
 | rt d=>exact k
 | bk ρ=>exact fun F2 H2 σ E T2 S=>k F2 H2 σ E (T.trans T2) S
 | ct ρ=>exact fun F2 H2 σ E T2 S=>k F2 H2 σ E (T.trans T2) S
 | ex x ρ=>exact k
inductive TDS(X:Cx)(g:Rho->Option Out)(W:Ends)(σ:L2.St)(H:Hp):Prop
 | mk (F₀:Addr->Prop) (H₀:Hp) (F:Addr->Prop) (ρ:Rho) (o:Out) (E:Ext F₀ F H₀ H) (S:StOk X.K F H H₀ σ ρ) (q:g ρ=some o) (k:zDX X F₀ H₀ F H W o):TDS X g W σ H
def tDS(X:Cx)(g:Rho->Option Out):TS:=fun W σ H=>TDS X g W σ H
def DS(X:Cx)(st:Stmt)(g:Rho->Option Out):Prop:=PS X st (tDS X g)
def DSs(X:Cx)(sts:List Stmt)(g:Rho->Option Out):Prop:=PSs X sts (tDS X g)
def sSeq(g1 g2:Rho->Option Out):Rho->Option Out:=fun ρ=>(g1 ρ).bind fun o=>match o with
 | .nx ρ'=>g2 ρ'
 | o=>some o
def zBj:Rho->Option Out:=fun ρ=>some (.nx ρ)
def sRet(g:Rho->Option D):Rho->Option Out:=fun ρ=>(g (ρ.map frz)).bind fun d=>some (.rt d)
def sSet(i:Nat)(g:Rho->Option D):Rho->Option Out:=fun ρ=>(g ρ).bind fun d=>some (.nx (ρ.set i (.dat d)))
def sOwn(i:Nat)(g:Rho->Option (List D)):Rho->Option Out:=fun ρ=>(g ρ).bind fun ds=>if ds.length<=1000 then some (.nx (ρ.set i (.own ds)))else none
def zIK(i:Nat)(ρ:Rho):Rho:=match ρ[i]? with
 | some (.own ds)=>ρ.set i (.dat (.list ds))
 | _=>ρ
def sIf(t:Rho->Option Bool)(g1 g2:Rho->Option Out):Rho->Option Out:=fun ρ=>(t (ρ.map frz)).bind fun b=>if b=true then g1 ρ else g2 ρ
def zDy(g:Rho->Option D):Rho->Option Out:=fun ρ=>(g ρ).bind fun _=>some (.nx ρ)
def sApp(i:Nat)(g:Rho->Option D):Rho->Option Out:=fun ρ=>match ρ[i]? with
 | some (.own ds)=>(g ρ).bind fun d=>if ds.length<1000 then some (.nx (ρ.set i (.own (ds++[d]))))else none
 | _=>none
def zCv(t:Rho->Option Bool)(g:Rho->Option Out):Nat->Rho->Option Out
 | 0,_=>none
 | n+1,ρ=>(t (ρ.map frz)).bind fun b=>if b=true then(g ρ).bind fun o=>match o with
   | .nx ρ'=>zCv t g n ρ'
   | .ct ρ'=>zCv t g n ρ'
   | .bk ρ'=>some (.nx ρ')
   | .rt d=>some (.rt d)
   | .ex x ρ'=>some (.ex x ρ')
  else some (.nx ρ)
def forN(s:D->Rho->Option Rho)(g:Rho->Option Out):List D->Rho->Option Out
 | [],ρ=>some (.nx ρ)
 | d::ds,ρ=>(s d ρ).bind fun ρ1=>(g ρ1).bind fun o=>match o with
   | .nx ρ'=>forN s g ds ρ'
   | .ct ρ'=>forN s g ds ρ'
   | .bk ρ'=>some (.nx ρ')
   | .rt d=>some (.rt d)
   | .ex x ρ'=>some (.ex x ρ')
def sFor(gi:Rho->Option (List D))(s:D->Rho->Option Rho)(g:Rho->Option Out):Rho->Option Out:=fun ρ=>(gi ρ).bind fun xs=>forN s g xs ρ
section
variable {X:Cx}{e a b c tg:Expr}{es:List Expr}{st:Stmt}{rest body orelse:List Stmt}{g g1 g2 gb:Rho->Option Out}{ga:Rho->Option D}{gr:Rho->Option (List D)}{t:Rho->Option Bool}{pos p:Pos}
theorem zBR:DSs X [] zBj:=zEw zHg fun W σ H zz=>by
 obtain⟨F₀,H₀,F,ρ,o,E,S,q,k⟩:=zz
 cases q
 exact k F H σ E (Stay.refl _ F H) S
theorem zEA{F₀:Addr->Prop}{H₀:Hp}{F:Addr->Prop}{ρ:Rho}{o:Out}{W:Ends}{σ:L2.St}{H:Hp}(E:Ext F₀ F H₀ H)(S:StOk X.K F H H₀ σ ρ)(q:sSeq g1 g2 ρ=some o)(k:zDX X F₀ H₀ F H W o):tDS X g1 { W with nx:=tDS X g2 W } σ H:=by
 obtain⟨o1,e1,q⟩:=bnd q
 refine⟨F₀,H₀,F,ρ,o1,E,S,e1,?_⟩
 cases o1 with
 | nx ρ'=>exact fun F' H' σ' E' T' S'=>⟨F₀,H₀,F',ρ',o,E',S',q,k.from T'⟩
 | rt d=>cases q;exact k
 | bk ρ'=>cases q;exact k
 | ct ρ'=>cases q;exact k
 | ex x ρ'=>cases q;exact k
theorem zAn(h1:DS X st g1)(h2:DSs X rest g2):DSs X (st::rest) (sSeq g1 g2):=
 zEw (zA4 h1 h2) fun W σ H ⟨F₀,H₀,F,ρ,o,E,S,q,k⟩=>zEA E S q k
theorem zAq(h1:DS X st g):DSs X [st] g:=zBc h1
theorem Ext.thaw{K:PySem.W.Frag}{F₀ F F':Addr->Prop}{H₀ H H':Hp}{σ:L2.St}{ρ:Rho}(E:Ext F₀ F H₀ H)(S:StOk K F H H₀ σ ρ)(E':Ext (fun a=>F a ∨ Own σ ρ a) F' H H'):Ext F₀ F' H₀ H':=
 ⟨E.same.trans E'.same,fun a f=>E'.up a (.inl (E.up a f)),fun a f=>by
  rcases E'.new a f with(f | ⟨i,ds,q1,q2⟩ | ⟨i,ds,q1,q2⟩) | ⟨f1,f2⟩
  ·rcases E.new a f with f | ⟨f,f'⟩
   ·exact .inl f
   ·exact .inr ⟨f,fun z=>f' (E'.same.free z)⟩
  ·obtain⟨b,vs,g1,g2,_,g4,_⟩:=S.own q1
   rw [g1]at q2;cases q2
   exact .inr ⟨g4,by rw [E'.same _ _ g2];simp⟩
  ·obtain⟨b,vs,ep,g1,g2,_,g4,_⟩:=S.ownD q1
   rw [g1]at q2;cases q2
   exact .inr ⟨g4,by rw [E'.same _ _ g2];simp⟩
  ·exact .inr ⟨E.same.free f1,f2⟩⟩
theorem zAB(ha:DE X e ga):DS X (.Return (some e) pos) (sRet ga):=ps_mono (zBV ha) fun W σ H zz=>by
 obtain⟨F₀,H₀,F,ρ,o,E,S,q,k⟩:=zz
 obtain⟨d,e1,q⟩:=bnd q
 cases q
 exact⟨_,H₀,ρ.map frz,d,S.frz,e1,fun F' H' v E' R'=>k F' H' v (E.thaw S E') R'⟩
theorem zAQ{i:Nat}{x:Str}{pos':Pos}(hN:X.N.Nodup)(ha:DE X e ga)(hi:X.N[i]?=some x:=by rfl)(hx:Loc X.env.scope x:=by first | exact Or.inl rfl | exact Or.inr rfl)(hs:swapsWith e (some (.Name x pos')) pos.line X.env=pure false:=by rfl)(hf:X.fn x=true ∨ X.env.scope.names.lookup x=some .local:=by first | exact .inl rfl | exact .inr rfl | assumption):
  DS X (.Assign [.Name x pos'] e pos) (sSet i ga):=ps_mono (zBw hN hi hx ha hs hf) fun W σ H zz=>by
 obtain⟨F₀,H₀,F,ρ,o,E,S,q,k⟩:=zz
 obtain⟨d,e1,q⟩:=bnd q
 cases q
 exact⟨F,H₀,ρ,d,S,e1,fun F' H' v E' R'=>k F' H' _ (E.trans E') E'.stay ((S.ext E').put R')⟩
theorem Ext.lend{K:PySem.W.Frag}{F F':Addr->Prop}{H H₀ H':Hp}{σ:L2.St}{ρ:Rho}(S:StOk K F H H₀ σ ρ)(E':Ext (fun a=>F a ∨ Own σ ρ a) F' H H'):Ext F (fun a=>F' a/\¬ Own σ ρ a) H H':=
 ⟨E'.same,fun a f=>⟨E'.up a (.inl f),fun z=>by
   rcases z with⟨i,ds,q1,q2⟩ | ⟨i,ds,q1,q2⟩
   ·obtain⟨b,vs,g1,g2,g3,_⟩:=S.own q1
    rw [g1]at q2;cases q2
    exact g3 f
   ·obtain⟨b,vs,ep,g1,g2,g3,_⟩:=S.ownD q1
    rw [g1]at q2;cases q2
    exact g3 f⟩,fun a zz=>by
  obtain⟨f,n⟩:=zz
  rcases E'.new a f with(f | f) | f
  ·exact .inl f
  ·exact absurd f n
  ·exact .inr f⟩
theorem zD4{i:Nat}{x:Str}{pos' pos'':Pos}(hN:X.N.Nodup)(ha:DA X es gr)(hi:X.N[i]?=some x:=by rfl)(hx:Loc X.env.scope x:=by first | exact Or.inl rfl | exact Or.inr rfl)(hs:swapsWith (.List es pos'') (some (.Name x pos')) pos.line X.env=pure false:=by rfl)(hf:X.fn x=true ∨ X.env.scope.names.lookup x=some .local:=by first | exact .inl rfl | exact .inr rfl | assumption):
  DS X (.Assign [.Name x pos'] (.List es pos'') pos) (sOwn i gr):=ps_mono (zBw hN hi hx (zCW ha) hs hf) fun W σ H zz=>by
 obtain⟨F₀,H₀,F,ρ,o,E,S,q,k⟩:=zz
 obtain⟨ds,e1,q⟩:=bnd q
 by_cases hl:ds.length<=1000
 ·rw [if_pos hl]at q
  cases q
  refine⟨F,H₀,ρ,ds,S,e1,fun F' H' vs E' R'=>⟨zAR (by rw [<- R'.length];exact hl),fun pp hp=>?_⟩⟩
  exact k F' _ _ ((E.trans E').trans (Ext.fresh hp)) (E'.stay.trans (Ext.fresh hp).stay) ((S.ext E').putOwn hp ((E.trans E').same.free hp) R')
 ·rw [if_neg hl]at q;cases q
theorem zBQ(hc:DT X c t)(h1:DSs X body g1)(h2:DSs X orelse g2):DS X (.If c body orelse pos) (sIf t g1 g2):=ps_mono (zHf hc h1 h2) fun W σ H zz=>by
 obtain⟨F₀,H₀,F,ρ,o,E,S,q,k⟩:=zz
 obtain⟨r,e1,q⟩:=bnd q
 refine⟨_,H₀,ρ.map frz,r,S.frz,e1,fun F' H' E'=>?_⟩
 have E2:=E'.lend S
 cases r with
 | true=>simp only [if_true]at q ⊢;exact⟨F₀,H₀,_,ρ,o,E.trans E2,S.ext E2,q,k.from E2.stay⟩
 | false=>simp only [Qm,if_false]at q ⊢;exact⟨F₀,H₀,_,ρ,o,E.trans E2,S.ext E2,q,k.from E2.stay⟩
theorem zGi(ha:DE X e ga)(hs:swapsWith e none pos.line X.env=pure false:=by rfl):DS X (.Expr e pos) (zDy ga):=ps_mono (zBI ha hs) fun W σ H zz=>by
 obtain⟨F₀,H₀,F,ρ,o,E,S,q,k⟩:=zz
 obtain⟨d,e1,q⟩:=bnd q
 cases q
 exact⟨F,H₀,ρ,d,S,e1,fun F' H' v E' R'=>k F' H' σ (E.trans E') E'.stay (S.ext E')⟩
theorem Ext.turn{F₀ F:Addr->Prop}{H₀ H:Hp}{p:Addr}{o:HO}(E:Ext F₀ F H₀ H)(h0:H₀ p=none):Ext F₀ F H₀ (upd H p o):=
 ⟨fun b u q=>by rw [zAf (zAO q h0)];exact E.same b u q,E.up,fun a f=>by
  rcases E.new a f with f | ⟨f1,f2⟩
  ·exact .inl f
  ·refine .inr ⟨f1,fun z=>?_⟩
   by_cases ha:a=p
   ·subst ha;rw [zAs]at z;cases z
   ·rw [zAf ha]at z;exact f2 z⟩
theorem zIn{i:Nat}{x:Str}{apos pos':Pos}(ha:DE X e ga)(hN:X.N[i]?=some x:=by rfl)(hv:Vis X.env.scope x:=by first | exact Or.inl rfl | exact Or.inr (Or.inl rfl) | exact Or.inr (Or.inr rfl))(hd:(x == ("__debug__":Str))=false:=by decide)
  (hcd:(x == ("__classdict__":Str))=false:=by decide) (hse:starEach [e] X.env=(false,eval e X.env)::starEach [] X.env:=by rfl)
  (hbase:attributeBase (.Name x p) "append" X.env (eval (.Name x p) X.env)=eval (.Name x p) X.env:=by rfl)
  (hfew:((backTo pos' (starEach [e] X.env)).all (fun x => !x.1) && (backToKw pos' (keywordEach [] X.env)).all (fun x=>x.1.isSome)
   && decide ([e].length+([]:List Keyword).length+(if([]:List Keyword).isEmpty then 0 else 1)<30))=true:=by rfl)
  (hline:(apos.endLine == pos'.line)=true:=by rfl) (hplain:(backTo pos' (starEach [] X.env)).any (·.1)=false:=by rfl) (hsw:swapsWith (.Call (.Attribute (.Name x p) "append" apos) [e] [] pos') none pos.line X.env=pure false:=by rfl):
  DS X (.Expr (.Call (.Attribute (.Name x p) "append" apos) [e] [] pos') pos) (sApp i ga):=
 ps_mono (zBI (zEq PySem.F.plainAttrs_list PySem.F.slot_list_append PySem.F.type_list_append zEj (zCd hN hv hd hcd) (zAl ha zAw hse) hbase hfew hline hse hplain) hsw) fun W σ H zz=>by
 obtain⟨F₀,H₀,F,ρ,o,E,S,q,k⟩:=zz
 unfold sApp at q
 split at q
 ·rename_i ds e0
  obtain⟨d,e1,q⟩:=bnd q
  by_cases hl:ds.length<1000
  ·rw [if_pos hl]at q
   cases q
   obtain⟨l,vs,q1,q2,q3,q4,q5⟩:=S.own e0
   refine⟨_,q1,.inl ⟨rfl,_,SqL.of q2⟩,F,H₀,ρ,d,S,e1,fun F' H' v E' R'=>?_⟩
   have S':=S.ext E'
   obtain⟨l',vs',g1,g2,g3,g4,g5⟩:=S'.own e0
   rw [q1]at g1;cases g1
   refine⟨l,vs',v,rfl,rfl,g2,zDB (by rw [<- g5.length];lia),?_⟩
   obtain⟨S2,T⟩:=S'.turn e0 q1 g2 g3 (g5.append (.cons R' .nil))
   exact k F' _ σ ((E.trans E').turn q4) (E'.stay.trans T) S2
  ·rw [if_neg hl]at q;cases q
 ·cases q
end
end DL
namespace DL
open PySem PySem.Spec PyProof.Rows L2
inductive TDG(K:PySem.W.Frag)(s:D->Rho->Option Rho)(v:V)(σ:L2.St)(H:Hp)(Q:L2.St->Hp->Prop):Prop
 | mk (F:Addr->Prop) (H₀:Hp) (ρ:Rho) (d:D) (ρ':Rho) (S:StOk K F H H₀ σ ρ) (R:Rep K F H d v) (q:s d ρ=some ρ') (k:∀ σ',StOk K F H H₀ σ' ρ'->Q σ' H):TDG K s v σ H Q
def tDG(K:PySem.W.Frag)(s:D->Rho->Option Rho):TG:=fun v σ H Q=>TDG K s v σ H Q
def tDGs(K:PySem.W.Frag)(s:List D->Rho->Option Rho):TGs:=fun vs σ H Q=>∃(F:Addr->Prop) (H₀:Hp) (ρ:Rho) (ds:List D) (ρ':Rho),StOk K F H H₀ σ ρ/\Reps K F H ds vs/\s ds ρ=some ρ'/\∀ σ',StOk K F H H₀ σ' ρ'->Q σ' H
def DG(X:Cx)(tg:Expr)(s:D->Rho->Option Rho):Prop:=PG X tg (tDG X.K s)
def DGs(X:Cx)(ts:List Expr)(s:List D->Rho->Option Rho):Prop:=PGs X ts (tDGs X.K s)
def zAz(i:Nat):D->Rho->Option Rho:=fun d ρ=>some (ρ.set i (.dat d))
def uNil:List D->Rho->Option Rho
 | [],ρ=>some ρ
 | _::_,_=>none
def zBk(s1:D->Rho->Option Rho)(s2:List D->Rho->Option Rho):List D->Rho->Option Rho
 | [],_=>none
 | d::ds,ρ=>(s1 d ρ).bind fun ρ'=>s2 ds ρ'
def uTup(n:Nat)(s:List D->Rho->Option Rho):D->Rho->Option Rho
 | .tuple ds,ρ=>if ds.length=n then s ds ρ else none
 | _,_=>none
section
variable {X:Cx}{e tg:Expr}{es:List Expr}{pos:Pos}
theorem zJZ{t t':TG}(h:PG X tg t)(m:∀ v σ H Q,t' v σ H Q->t v σ H Q):PG X tg t':=fun pins s σ H v u Q I r q=>h pins s σ H v u Q I r (m v σ H Q q)
theorem zJ1{t t':TGs}(h:PGs X es t)(m:∀ v σ H Q,t' v σ H Q->t v σ H Q):PGs X es t':=fun pins s σ H v u Q I r q=>h pins s σ H v u Q I r (m v σ H Q q)
theorem zAP{i:Nat}{x:Str}(hN:X.N.Nodup)(hi:X.N[i]?=some x:=by rfl)(hx:Loc X.env.scope x:=by first | exact Or.inl rfl | exact Or.inr rfl)(hf:X.fn x=true ∨ X.env.scope.names.lookup x=some .local:=by first | exact .inl rfl | exact .inr rfl | assumption):DG X (.Name x pos) (zAz i):=
 zJZ (zJ0 hN hi hx hf) fun v σ H Q zz=>by
  obtain⟨F,H₀,ρ,d,ρ',S,R,q,k⟩:=zz
  cases q
  exact k _ (S.put R)
theorem zD2:DGs X [] uNil:=zJ1 zOj fun v σ H Q zz=>by
 obtain⟨F,H₀,ρ,ds,ρ',S,R,q,k⟩:=zz
 cases R with
 | nil=>cases q;exact⟨rfl,k σ S⟩
 | cons _ _=>cases q
theorem zBO{s1:D->Rho->Option Rho}{s2:List D->Rho->Option Rho}(h1:DG X e s1)(h2:DGs X es s2)
  (hs:(assignEach (e::es) X.env).map (·.2)=assign e X.env::(assignEach es X.env).map (·.2):=by rfl):DGs X (e::es) (zBk s1 s2):=
 zJ1 (zOi h1 h2 hs) fun v σ H Q zz=>by
  obtain⟨F,H₀,ρ,ds,ρ',S,R,q,k⟩:=zz
  cases R with
  | nil=>cases q
  | cons r rs=>
   obtain⟨ρ1,e1,q⟩:=bnd q
   exact⟨_,_,rfl,F,H₀,ρ,_,ρ1,S,r,e1,fun σ1 S1=>⟨F,H₀,ρ1,_,ρ',S1,rs,q,k⟩⟩
theorem zD1{n k:Nat}{s:List D->Rho->Option Rho}(hc:X.calm=true)(h:DGs X es s)(hn:(assignEach es X.env).length=n:=by rfl)(hst:(assignEach es X.env).findIdx? (·.1)=none:=by rfl):DG X (.Tuple es k pos) (uTup n s):=
 zJZ (zOh hc h hn hst) fun v σ H Q zz=>by
  obtain⟨F,H₀,ρ,d,ρ',S,R,q,k⟩:=zz
  cases R with
  | @tup a vs ds hq r=>
   by_cases hl:ds.length=n
   ·have q':(if ds.length=n then s ds ρ else none)=some ρ':=q
    rw [if_pos hl]at q'
    exact⟨_,_,rfl,hq,by rw [<- r.length];exact hl,F,H₀,ρ,_,ρ',S,r,q',k⟩
   ·have q':(if ds.length=n then s ds ρ else none)=some ρ':=q
    rw [if_neg hl]at q';cases q'
  | non=>cases q
  | dct _ _ _ _ _=>cases q
  | exn _ _ _=>cases q
  | bl _=>cases q
  | int _=>cases q
  | str _=>cases q
  | lst _ _=>cases q
end
section
variable {X:Cx}{e a b c tg iter:Expr}{es:List Expr}{st:Stmt}{rest body orelse:List Stmt}{g g1 g2 gb:Rho->Option Out}{ga:Rho->Option D}{gr:Rho->Option (List D)}{t:Rho->Option Bool}{pos p:Pos}
theorem zL9(n:Nat)(hp:PassesOwn (model X.prog X.w) X.A X.env X.xe)(hc:DT X c t)(hb:DSs X body g):DS X (.While c body [] pos) (zCv t g n):=
 ps_mono (zOy hp hc hb) fun W σ H zz=>by
  obtain⟨F₀,H₀,F1,ρ1,o,E,S,q,k⟩:=zz
  refine⟨fun m σ' H'=>∃ F ρ,Ext F₀ F H₀ H'/\Stay X.K F1 F H H'/\StOk X.K F H' H₀ σ' ρ/\zCv t g m ρ=some o,⟨n,F1,ρ1,E,Stay.refl _ _ _,S,q⟩,?_⟩
  rintro m σ' H' ⟨F,ρ,E',T',S',q'⟩
  cases m with
  | zero=>cases q'
  | succ m=>
   obtain⟨r,e1,q'⟩:=bnd q'
   refine⟨_,H₀,ρ.map frz,r,S'.frz,e1,fun F2 H2 E2'=>?_⟩
   have E2:=E2'.lend S'
   cases r with
   | false=>
    simp only [Qm,if_false]at q' ⊢
    cases q'
    exact k _ H2 σ' (E'.trans E2) (T'.trans E2.stay) (S'.ext E2)
   | true=>
    simp only [if_true]at q' ⊢
    obtain⟨o1,e2,q'⟩:=bnd q'
    refine⟨fun σ3 H3=>∃ F ρ,Ext F₀ F H₀ H3/\Stay X.K F1 F H H3/\StOk X.K F H3 H₀ σ3 ρ/\zCv t g m ρ=some o,fun σ3 H3 h3=>⟨m,Je m,h3⟩,F₀,H₀,_,ρ,o1,E'.trans E2,S'.ext E2,e2,?_⟩
    cases o1 with
    | nx ρ3=>exact fun F3 H3 σ3 E3 T3 S3=>⟨F3,ρ3,E3,(T'.trans E2.stay).trans T3,S3,q'⟩
    | ct ρ3=>exact fun F3 H3 σ3 E3 T3 S3=>⟨F3,ρ3,E3,(T'.trans E2.stay).trans T3,S3,q'⟩
    | bk ρ3=>cases q';exact fun F3 H3 σ3 E3 T3 S3=>k F3 H3 σ3 E3 ((T'.trans E2.stay).trans T3) S3
    | rt d=>cases q';exact k
    | ex x ρ3=>cases q';exact k
def ItD(K:PySem.W.Frag)(F:Addr->Prop)(H:Hp)(ds:List D)(J:It):Prop:=
 ∀ F2 H2,Stay K F F2 H H2->(∀ a,F2 a->H2 a≠none)->∀ i:Nat,(∀ d,ds[i]?=some d->J.go i H2/\∀ x H3,J.yld i H2 x H3->∃ F3,Ext F2 F3 H2 H3/\Rep K F3 H3 d x)/\(ds.length<=i->J.stop i H2)
def tDI(K:PySem.W.Frag)(gi:Rho->Option (List D)):TI:=fun σ H R=>TDx K σ H gi fun F ds=>∀ F' H' J,Ext F F' H H'->ItD K F' H' ds J->R J H'
def DI(X:Cx)(tg iter:Expr)(gi:Rho->Option (List D)):Prop:=PI X tg iter (tDI X.K gi)
theorem zEt{wi wi':TI}(h:PI X tg iter wi)(m:∀ σ H R,wi' σ H R->wi σ H R):PI X tg iter wi':=fun pins s σ H R I q=>h pins s σ H R I (m σ H R q)
structure FInv(K:PySem.W.Frag)(s:D->Rho->Option Rho)(g:Rho->Option Out)(xs:List D)(o:Out)(F₀ F F1:Addr->Prop)(H₀ H H1:Hp)(i:Nat)(σ2:L2.St)(H2:Hp)(F2:Addr->Prop)(ρ2:Rho):Prop where
 E:Ext F₀ F2 H₀ H2
 T0:Stay K F F2 H H2
 T1:Stay K F1 F2 H1 H2
 S:StOk K F2 H2 H₀ σ2 ρ2
 q:forN s g (xs.drop i) ρ2=some o
theorem zDg{gi:Rho->Option (List D)}{s:D->Rho->Option Rho}(hp:PassesOwn (model X.prog X.w) X.A X.env X.xe)(hc:X.calm=true)(hi:DI X tg iter gi)(hg:DG X tg s)(hb:DSs X body g)
  (hs:∀ x,foldedSetIterable iter X.env x=pure x:=by intro _;rfl):DS X (.For tg iter body [] pos) (sFor gi s g):=
 ps_mono (zJ5 hp hc hi hg hb hs) fun W σ H zz=>by
  obtain⟨F₀,H₀,F,ρ,o,E,S,q,k⟩:=zz
  obtain⟨xs,e1,q⟩:=bnd q
  refine⟨F,H₀,ρ,xs,S,e1,fun F1 H1 J E1 I1=>?_⟩
  refine⟨fun i m σ2 H2=>m=xs.length-i/\i<=xs.length/\∃ F2 ρ2,FInv X.K s g xs o F₀ F F1 H₀ H H1 i σ2 H2 F2 ρ2,
   ⟨xs.length,rfl,QN _,F1,ρ,E.trans E1,E1.stay,Stay.refl _ _ _,S.ext E1,q⟩,?_⟩
  rintro i m σ2 H2 ⟨rfl,hi2,F2,ρ2,E2,T0,T1,S2,q2⟩
  obtain⟨it1,it2⟩:=I1 F2 H2 T1 S2.fz i
  by_cases hlt:i<xs.length
  ·right
   have hget:xs[i]?=some xs[i]:=by simp [hlt]
   obtain⟨go,yld⟩:=it1 _ hget
   rw [Yb hlt]at q2
   obtain⟨ρ3,e3,q2⟩:=bnd q2
   obtain⟨o3,e4,q2⟩:=bnd q2
   refine⟨go,fun σ4 H4=>∃ F4 ρ4,FInv X.K s g xs o F₀ F F1 H₀ H H1 (i+1) σ4 H4 F4 ρ4,fun σ4 H4 h=>⟨xs.length-(i+1),by lia,rfl,hlt,h⟩,fun x H3 y=>?_⟩
   obtain⟨F3,E3,R3⟩:=yld x H3 y
   refine⟨F3,H₀,ρ2,xs[i],ρ3,S2.ext E3,R3,e3,fun σ5 S5=>⟨F₀,H₀,F3,ρ3,o3,E2.trans E3,S5,e4,?_⟩⟩
   have TT0:=T0.trans E3.stay
   have TT1:=T1.trans E3.stay
   cases o3 with
   | nx ρ6=>exact fun F6 H6 σ6 E6 T6 S6=>⟨F6,ρ6,E6,TT0.trans T6,TT1.trans T6,S6,q2⟩
   | ct ρ6=>exact fun F6 H6 σ6 E6 T6 S6=>⟨F6,ρ6,E6,TT0.trans T6,TT1.trans T6,S6,q2⟩
   | bk ρ6=>cases q2;exact fun F6 H6 σ6 E6 T6 S6=>k F6 H6 σ6 E6 (TT0.trans T6) S6
   | rt d=>cases q2;exact k
   | ex x ρ6=>cases q2;exact k
  ·left
   have hge:xs.length<=i:=Yz hlt
   refine⟨it2 hge,?_⟩
   rw [Y8 hge]at q2
   cases q2
   exact k F2 H2 σ2 E2 T0 S2
def rng1:List D->Option (List D)
 | [.int j]=>if -4611686018427387904<=j/\j<4611686018427387904 then some ((List.range j.toNat).map fun(k:Nat)=>.int (0+(k:Int)))else none
 | _=>none
def rng2:List D->Option (List D)
 | [.int i,.int j]=>if -4611686018427387904<=i/\i<4611686018427387904/\-4611686018427387904<=j/\j<4611686018427387904 then some ((List.range (j-i).toNat).map fun(k:Nat)=>.int (i+(k:Int)))else none
 | _=>none
theorem zJc{K:PySem.W.Frag}{F:Addr->Prop}{H:Hp}(lo:Int)(n:Nat):ItD K F H ((List.range n).map fun(k:Nat)=>.int (lo+(k:Int))) (Itr lo n):=fun F2 H2 T z i=>by
 refine⟨fun d hd=>?_,fun hl=>?_⟩
 ·have hi:i<n:=by
   have:=(Qc.mp hd).1
   simpa using this
  have hd':d=.int (lo+(i:Int)):=by
   rw [QB,YZ hi]at hd
   cases hd;rfl
  subst hd'
  refine⟨hi,fun x H3 y=>?_⟩
  obtain⟨y1,y2⟩:=y
  subst y1 y2
  exact⟨F2,Ext.refl _ _,.int _⟩
 ·show n<=i
  simpa using hl
theorem zLX(hg:Gl X "range")(hm:X.mg "range"=none)(ha:DA X [a] gr)(hs:starEach [a] X.env=[(false,eval a X.env)]:=by rfl):DI X tg (.Call (.Name "range" p) [a] [] pos) (fun ρ=>(gr ρ).bind rng1):=
 zEt (zOm hg hm ha hs) fun σ H R zz=>by
  obtain⟨F,H₀,ρ,ds,S,q,k⟩:=zz
  obtain⟨xs,e1,q⟩:=bnd q
  unfold rng1 at q
  split at q
  ·rename_i j
   by_cases hj:-4611686018427387904<=j/\j<4611686018427387904
   ·rw [if_pos hj]at q
    cases q
    refine⟨F,H₀,ρ,_,S,e1,fun F1 H1 vs E1 R1=>?_⟩
    cases R1 with
    | cons r rs=>
     cases r
     cases rs
     exact⟨j,rfl,by lia,by lia,k F1 H1 _ E1 (zJc 0 _)⟩
   ·rw [if_neg hj]at q;cases q
  ·cases q
theorem zLY(hg:Gl X "range")(hm:X.mg "range"=none)(ha:DA X [a,b] gr)(hs:starEach [a,b] X.env=[(false,eval a X.env),(false,eval b X.env)]:=by rfl)(hs2:starEach [b] X.env=[(false,eval b X.env)]:=by rfl):DI X tg (.Call (.Name "range" p) [a,b] [] pos) (fun ρ=>(gr ρ).bind rng2):=
 zEt (zOn hg hm ha hs hs2) fun σ H R zz=>by
  obtain⟨F,H₀,ρ,ds,S,q,k⟩:=zz
  obtain⟨xs,e1,q⟩:=bnd q
  unfold rng2 at q
  split at q
  ·rename_i i j
   by_cases hj:-4611686018427387904<=i/\i<4611686018427387904/\-4611686018427387904<=j/\j<4611686018427387904
   ·rw [if_pos hj]at q
    cases q
    refine⟨F,H₀,ρ,_,S,e1,fun F1 H1 vs E1 R1=>?_⟩
    cases R1 with
    | cons r rs=>
     cases r
     cases rs with
     | cons r rs=>
      cases r
      cases rs
      exact⟨i,j,rfl,⟨by lia,by lia,by lia,by lia⟩,k F1 H1 _ E1 (zJc i _)⟩
   ·rw [if_neg hj]at q;cases q
  ·cases q
def seqD:D->Option (List D)
 | .list ds=>some ds
 | .tuple ds=>some ds
 | _=>none
theorem zMJ{K:PySem.W.Frag}{F:Addr->Prop}{H:Hp}{a:Addr}{vs:List V}{ds:List D}(h:FzL K F H a vs)(r:Reps K F H ds vs):ItD K F H ds (Itl K a):=fun F2 H2 T z i=>by
 have h2:=h.stay T
 have r2:=r.stay T
 refine⟨fun d hd=>?_,fun hl=>⟨vs,h2.sq,by rw [<- r2.length];exact hl⟩⟩
 obtain⟨v,e,rv⟩:=r2.get hd
 refine⟨⟨vs,v,h2.sq,e⟩,fun x H3 y=>?_⟩
 obtain⟨y1,y2⟩:=y
 subst y1
 have:=y2 vs h2.sq
 rw [e]at this;cases this
 exact⟨F2,Ext.refl _ _,rv⟩
theorem zMK{K:PySem.W.Frag}{F:Addr->Prop}{H:Hp}{a:Addr}{vs:List V}{ds:List D}(h:SqT K H a vs)(r:Reps K F H ds vs):ItD K F H ds (Itt K a):=fun F2 H2 T z i=>by
 have h2:=T.tp _ _ h
 have r2:=r.stay T
 refine⟨fun d hd=>?_,fun hl=>⟨vs,h2,by rw [<- r2.length];exact hl⟩⟩
 obtain⟨v,e,rv⟩:=r2.get hd
 refine⟨⟨vs,v,h2,e⟩,fun x H3 y=>?_⟩
 obtain⟨y1,y2⟩:=y
 subst y1
 have:=y2 vs h2
 rw [e]at this;cases this
 exact⟨F2,Ext.refl _ _,rv⟩
theorem zLZ(ha:DE X e ga):DI X tg e (fun ρ=>(ga ρ).bind seqD):=by
 intro pins s σ H R I h
 obtain⟨F,H₀,ρ,ds,S,q,k⟩:=h
 obtain⟨d,e1,q⟩:=bnd q
 refine thn (ha pins s σ H (fun x H1=>∃ F1,Ext F F1 H H1/\Rep X.K F1 H1 d x) I ⟨F,H₀,ρ,d,S,e1,fun F1 H1 v E1 R1=>⟨F1,E1,R1⟩⟩) fun v s1 zz=>?_
 obtain⟨x,H1,I1,r1,F1,E1,R1⟩:=zz
 cases R1 with
 | @lst a vs ds' hq rr=>
  cases q
  cases r1
  obtain⟨its,rv,p,hz⟩:=I1.list hq.sq
  refine wpAny_pyIter_list p.isList ?_
  refine⟨s1.heap.objs.size,[s1.heap.objs.size],_,_,H1,rfl,I1.kept (t':=s1.toks) fun b o e=>Qd _ e,zPF a _,⟨_,Qu _ rfl,rfl,rfl⟩,fun b hb=>?_,k F1 H1 _ E1 (zMJ hq rr)⟩
  have e:b=s1.heap.objs.size:=by simpa using hb
  subst e
  exact I1.fpOk (Qi _) (I1.hok.fresh (Qi _))
 | @tup a vs ds' hq rr=>
  cases q
  cases r1
  obtain⟨its,rv,p,hz⟩:=I1.tuple hq
  refine wpAny_pyIter_tuple (show s1.heap.IsTuple a its.toArray from p) ?_
  refine⟨s1.heap.objs.size,[s1.heap.objs.size],_,_,H1,rfl,I1.kept (t':=s1.toks) fun b o e=>Qd _ e,zPH a _,⟨_,Qu _ rfl,rfl,rfl⟩,fun b hb=>?_,k F1 H1 _ E1 (zMK hq rr)⟩
  have e:b=s1.heap.objs.size:=by simpa using hb
  subst e
  exact I1.fpOk (Qi _) (I1.hok.fresh (Qi _))
 | non=>cases q
 | dct _ _ _ _ _=>cases q
 | exn _ _ _=>cases q
 | bl _=>cases q
 | int _=>cases q
 | str _=>cases q
end
def zAH(n:Nat)(ds:List D):Rho:=ds.map .dat++List.replicate (n-ds.length) .no
def fnD(n:Nat)(g:Rho->Option Out):List D->Option D:=fun ds=>match g (zAH n ds)with
 | some (.rt d)=>some d
 | some (.nx _)=>some .none
 | _=>none
theorem zHE{K:PySem.W.Frag}{F:Addr->Prop}{H:Hp}{N:List Str}{ds:List D}{vs:List V}(z:∀ a,F a->H a≠none)(r:Reps K F H ds vs):StOk K F H H (L2.start N vs) (zAH N.length ds):=by
 have hl:=r.length
 refine⟨by simp [L2.start,zAH,hl],fun i s h=>?_,fun i j a es es' hij h1=>?_,z⟩
 ·unfold zAH at h
  by_cases hi:i<ds.length
  ·rw [QS (by simpa using hi),QB]at h
   cases e:ds[i]? with
   | none=>rw [e]at h;cases h
   | some d=>
    rw [e]at h;cases h
    obtain⟨v,e2,rv⟩:=r.get e
    refine⟨some v,?_,v,rfl,rv⟩
    unfold L2.start
    rw [QS (by simpa using(by lia:i<vs.length)),QB,e2]
    rfl
  ·rw [QX (by simpa using hi),Yv]at h
   split at h
   ·rename_i hlt
    cases h
    refine⟨none,?_,trivial⟩
    unfold L2.start
    rw [QX (by simpa using(by lia:vs.length<=i)),Yv,if_pos (by simp at hlt ⊢;lia)]
   ·cases h
 ·unfold zAH at h1
  by_cases hi:i<ds.length
  ·rw [QS (by simpa using hi),QB]at h1
   cases e:ds[i]? with
   | none=>rw [e]at h1;cases h1
   | some d=>rw [e]at h1;cases h1
  ·rw [QX (by simpa using hi),Yv]at h1
   split at h1 <;> cases h1
theorem fn_D{P:Program}{w:World}{K:PySem.W.Frag}{mg:Str->Option Value}{base:Heap}{x qual:Str}{st:Stmt}{f:Addr}{fd:FuncData}{N ps:List Str}{k:Nat}{g:Rho->Option Out}(F:Fun K x qual st f fd)(S:zAm N ps (zAg st))
  (hb:∀(cdv:Value) (A:Around) (outer:List Env) (s:Shared) (H:Hp) (E:XK),Room k (A.deeper (envOfC qual (zAg st) s.heap.objs.size f cdv))->
   DSs (cxOf CX0 P w K mg base N qual (zAg st) f cdv A outer s H E).nox (zAD st) g):FnOk P w K mg base CX0 (k+1) f fd ps (spD K ps.length (fnD N.length g)):=by
 refine F.ok S (fun vs H Q E h=>?_) (fun cdv A outer s H vs Q E hr h=>?_)
 ·obtain⟨F,ds,d,hl,_,r,_⟩:=h
  rw [<- r.length,hl]
 ·obtain⟨F,ds,d,hl,z,r,q,kk⟩:=h
  refine⟨_,hb cdv A outer s H E hr,?_⟩
  unfold fnD at q
  split at q
  ·rename_i d' e
   cases q
   exact⟨F,H,F,_,_,Ext.refl F H,zHE z r,e,fun F' H' v E' R'=>kk F' H' v E' R'⟩
  ·rename_i ρ' e
   cases q
   exact⟨F,H,F,_,_,Ext.refl F H,zHE z r,e,fun F' H' σ' E' T' S'=>kk F' H' .non E' .non⟩
  ·cases q
end DL
namespace DL
open PySem PySem.Spec PySem.SeqAt PyProof.Rows L2
mutual
theorem Rep.reads{X:Cx}{pins:List (Addr × Obj)}{σ:L2.St}{H:Hp}{s:Shared}{F:Addr->Prop}(I:L2.Inv X pins σ H s){d:D}{x:V}{u:Value}(h:Rep X.K F H d x)(c:d.canLay0=true)(r:L2.RelV x u):∃ as,Reads s.heap u d as:=by
 cases h with
 | non=>cases r;exact⟨_,.none⟩
 | bl b=>cases r;exact⟨_,.bool b⟩
 | int i=>obtain⟨t,rfl⟩:=r;exact⟨_,.int i t⟩
 | str x=>obtain⟨t,rfl⟩:=r;exact⟨_,.str x t⟩
 | tup h q=>
  cases r
  obtain⟨its,rv,⟨o,ho,hc,n,hd⟩,_⟩:=I.tuple h
  obtain⟨as,z⟩:=Reps.reads I q c rv
  exact⟨_,.tuple ho hc hd z⟩
 | lst h q=>
  cases r
  obtain⟨its,rv,pl,_⟩:=I.list h.sq
  obtain⟨o,n,ho,hc,_,hd⟩:=pl
  obtain⟨as,z⟩:=Reps.reads I q c rv
  exact⟨_,.list ho hc hd z⟩
 | dct f h n l r=>cases c
 | exn f h n=>cases c
theorem Reps.reads{X:Cx}{pins:List (Addr × Obj)}{σ:L2.St}{H:Hp}{s:Shared}{F:Addr->Prop}(I:L2.Inv X pins σ H s){ds:List D}{xs:List V}{us:List Value}(h:Reps X.K F H ds xs)(c:PyData.canLayAll0 ds=true)(r:L2.Vals xs us):∃ as,ReadsAll s.heap us ds as:=by
 cases h with
 | nil=>cases r;exact⟨_,.nil⟩
 | cons h q=>
  have c:=QF.mp c
  cases r with
  | cons r1 r2=>
   obtain⟨as,z⟩:=Rep.reads I h c.1 r1
   obtain⟨bs,y⟩:=Reps.reads I q c.2 r2
   exact⟨_,.cons z y⟩
end
def dI0(t:Int->Int->D):D->D->Option D
 | .int i,.int j=>some (t i j)
 | _,_=>none
def dI2(C:Int->Int->Bool)(t:Int->Int->D):D->D->Option D
 | .int i,.int j=>if C i j=true then some (t i j)else none
 | _,_=>none
def zCb(i j:Int):Bool:=(decide (-18446744073709551616<i) && decide (i<18446744073709551616)) || (decide (-18446744073709551616<j) && decide (j<18446744073709551616))
def zDp(_ j:Int):Bool:=decide (0<j) && decide (j<1073741824)
def zJM(_ j:Int):Bool:=decide (0<j)
section
variable {X:Cx}
theorem opd0{f:Value->Value->Sem Value}{g:Int->Int->V}{t:Int->Int->D}(h:OpR X f (rI0 g))(r:∀ i j K F H,Rep K F H (t i j) (g i j)):OpR X f (rD2 X.K (dI0 t)):=
 zEn h fun x y H Q zz=>by
  obtain⟨F,d,e,q,z,R1,R2,hq,k⟩:=zz
  unfold dI0 at hq
  split at hq
  ·cases hq
   cases R1
   cases R2
   exact⟨_,_,rfl,rfl,k F H _ (Ext.refl F H) (r _ _ _ _ _)⟩
  ·cases hq
theorem opd2{f:Value->Value->Sem Value}{C:Int->Int->Prop}{B:Int->Int->Bool}{g:Int->Int->V}{t:Int->Int->D}(h:OpR X f (rI C g))(hB:∀ i j,B i j=true->C i j)(r:∀ i j K F H,Rep K F H (t i j) (g i j)):OpR X f (rD2 X.K (dI2 B t)):=
 zEn h fun x y H Q zz=>by
  obtain⟨F,d,e,q,z,R1,R2,hq,k⟩:=zz
  unfold dI2 at hq
  split at hq
  ·rename_i i j
   by_cases hb:B i j=true
   ·rw [if_pos hb]at hq
    cases hq
    cases R1
    cases R2
    exact⟨_,_,rfl,rfl,hB _ _ hb,k F H _ (Ext.refl F H) (r _ _ _ _ _)⟩
   ·rw [if_neg hb]at hq;cases hq
  ·cases hq
def dSub:D->D->Option D:=dI0 fun i j=>.int (i-j)
def dMul:D->D->Option D:=dI2 zCb fun i j=>.int (i * j)
def zCK:D->D->Option D:=dI2 zDp fun i j=>.int (i / j)
def dMod:D->D->Option D:=dI2 zJM fun i j=>.int (i % j)
def dLe:D->D->Option D:=dI0 fun i j=>.bool (decide (i<=j))
def dGt:D->D->Option D:=dI0 fun i j=>.bool (decide (j<i))
theorem zAY:OpR X (binaryOp .Sub) (rD2 X.K dSub):=opd0 zN2 fun _ _ _ _ _=>.int _
theorem zN3:OpR X (binaryOp .Mult) (rD2 X.K dMul):=opd2 zN1 (fun i j h=>by
 unfold zCb at h
 simp only [Jl,QQ,decide_eq_true_eq]at h
 unfold CMul
 lia) fun _ _ _ _ _=>.int _
theorem zFx:OpR X (binaryOp .FloorDiv) (rD2 X.K zCK):=opd2 zNY (fun i j h=>by
 unfold zDp at h
 simp only [QQ,decide_eq_true_eq]at h
 exact h) fun _ _ _ _ _=>.int _
theorem zDr:OpR X (binaryOp .Mod) (rD2 X.K dMod):=opd2 zN0 (fun i j h=>by
 unfold zJM at h
 simpa using h) fun _ _ _ _ _=>.int _
theorem zCc:OpR X (compareOp .LtE) (rD2 X.K dLe):=opd0 op_le fun _ _ _ _ _=>.bl _
theorem zJN:OpR X (compareOp .Gt) (rD2 X.K dGt):=opd0 op_gt fun _ _ _ _ _=>.bl _
def dNeg:D->Option D
 | .int i=>some (.int (-i))
 | _=>none
theorem zDE:UnR X (unaryOp .USub) (rD1 X.K dNeg):=zPL zPK fun x H Q zz=>by
 obtain⟨F,d,q,z,R1,hq,k⟩:=zz
 unfold dNeg at hq
 split at hq
 ·cases hq
  cases R1
  exact⟨_,rfl,k F H _ (Ext.refl F H) (.int _)⟩
 ·cases hq
def dEq(d e:D):Option D:=if(shaped d && shaped e)=true then some (.bool (PyData.eqv d e))else none
def dNe(d e:D):Option D:=if(shaped d && shaped e)=true then some (.bool (!PyData.eqv d e))else none
theorem zCn(hu:X.A.units+64<cLine):OpR X (compareOp .Eq) (rD2 X.K dEq):=fun pins s σ H x y v u Q I rx ry zz=>by
 obtain⟨F,d,e,q,z,R1,R2,hq,k⟩:=zz
 unfold dEq at hq
 by_cases c:(shaped d && shaped e)=true
 ·rw [if_pos c]at hq
  cases hq
  have c':=QF.mp c
  obtain⟨as,a1⟩:=R1.reads I (QM c'.1) rx
  obtain⟨bs,a2⟩:=R2.reads I (QM c'.2) ry
  exact eq_dataH a1 a2 c'.1 c'.2 hu ⟨.bl _,H,I,rfl,k F H _ (Ext.refl F H) (.bl _)⟩
 ·rw [if_neg c]at hq;cases hq
theorem zA3(hu:X.A.units+64<cLine):OpR X (compareOp .NotEq) (rD2 X.K dNe):=fun pins s σ H x y v u Q I rx ry zz=>by
 obtain⟨F,d,e,q,z,R1,R2,hq,k⟩:=zz
 unfold dNe at hq
 by_cases c:(shaped d && shaped e)=true
 ·rw [if_pos c]at hq
  cases hq
  have c':=QF.mp c
  obtain⟨as,a1⟩:=R1.reads I (QM c'.1) rx
  obtain⟨bs,a2⟩:=R2.reads I (QM c'.2) ry
  exact ne_dataH a1 a2 c'.1 c'.2 hu ⟨.bl _,H,I,rfl,k F H _ (Ext.refl F H) (.bl _)⟩
 ·rw [if_neg c]at hq;cases hq
def dIn(neg:Bool)(d:D):D->Option D
 | .list xs=>if(shaped d && shaped (.list xs))=true then some (.bool (if neg then !(xs.any fun y=>PyData.eqv y d)else xs.any fun y=>PyData.eqv y d))else none
 | .tuple xs=>if(shaped d && shaped (.tuple xs))=true then some (.bool (if neg then !(xs.any fun y=>PyData.eqv y d)else xs.any fun y=>PyData.eqv y d))else none
 | _=>none
theorem zG6(hu:X.A.units+65<cLine):OpR X (compareOp .In) (rD2 X.K (dIn false)):=fun pins s σ H x y v u Q I rx ry zz=>by
 obtain⟨F,d,e,q,z,R1,R2,hq,k⟩:=zz
 unfold dIn at hq
 split at hq
 ·rename_i xs
  by_cases c:(shaped d && shaped (.list xs))=true
  ·rw [if_pos c]at hq
   cases hq
   have c':=QF.mp c
   obtain⟨as,a1⟩:=R1.reads I (QM c'.1) rx
   obtain⟨bs,a2⟩:=R2.reads I (QM c'.2) ry
   exact in_list_reads a2 a1 (QM c'.2) (QM c'.1) (room_in_shaped c'.1 hu) ⟨.bl _,H,I,rfl,k F H _ (Ext.refl F H) (.bl _)⟩
  ·rw [if_neg c]at hq;cases hq
 ·rename_i xs
  by_cases c:(shaped d && shaped (.tuple xs))=true
  ·rw [if_pos c]at hq
   cases hq
   have c':=QF.mp c
   obtain⟨as,a1⟩:=R1.reads I (QM c'.1) rx
   obtain⟨bs,a2⟩:=R2.reads I (QM c'.2) ry
   exact in_tuple_reads a2 a1 (QM c'.2) (QM c'.1) (room_in_shaped c'.1 hu) ⟨.bl _,H,I,rfl,k F H _ (Ext.refl F H) (.bl _)⟩
  ·rw [if_neg c]at hq;cases hq
 ·cases hq
theorem zG8(hu:X.A.units+65<cLine):OpR X (compareOp .NotIn) (rD2 X.K (dIn true)):=fun pins s σ H x y v u Q I rx ry zz=>by
 obtain⟨F,d,e,q,z,R1,R2,hq,k⟩:=zz
 unfold dIn at hq
 split at hq
 ·rename_i xs
  by_cases c:(shaped d && shaped (.list xs))=true
  ·rw [if_pos c]at hq
   cases hq
   have c':=QF.mp c
   obtain⟨as,a1⟩:=R1.reads I (QM c'.1) rx
   obtain⟨bs,a2⟩:=R2.reads I (QM c'.2) ry
   exact notIn_list_reads a2 a1 (QM c'.2) (QM c'.1) (room_in_shaped c'.1 hu) ⟨.bl _,H,I,rfl,k F H _ (Ext.refl F H) (.bl _)⟩
  ·rw [if_neg c]at hq;cases hq
 ·rename_i xs
  by_cases c:(shaped d && shaped (.tuple xs))=true
  ·rw [if_pos c]at hq
   cases hq
   have c':=QF.mp c
   obtain⟨as,a1⟩:=R1.reads I (QM c'.1) rx
   obtain⟨bs,a2⟩:=R2.reads I (QM c'.2) ry
   exact notIn_tuple_reads a2 a1 (QM c'.2) (QM c'.1) (room_in_shaped c'.1 hu) ⟨.bl _,H,I,rfl,k F H _ (Ext.refl F H) (.bl _)⟩
  ·rw [if_neg c]at hq;cases hq
 ·cases hq
def dIx:D->D->Option D
 | .tuple xs,.int i=>atI xs i
 | .list xs,.int i=>atI xs i
 | _,_=>none
theorem Reps.atI{K:PySem.W.Frag}{F:Addr->Prop}{H:Hp}{ds:List D}{vs:List V}{i:Int}{d:D}(r:Reps K F H ds vs)(h:L2.atI ds i=some d):∃ v,L2.atI vs i=some v/\Rep K F H d v:=by
 unfold L2.atI at h ⊢
 rw [r.length]at h
 cases e:ixN vs.length i with
 | none=>rw [e]at h;cases h
 | some j=>
  rw [e]at h
  obtain⟨v,h1,h2⟩:=r.get (show ds[j]?=some d from h)
  exact⟨v,h1,h2⟩
theorem ixd:IxR X (rD2 X.K dIx):=zMQ (zMP.or zE7) fun x y H Q zz=>by
 obtain⟨F,d,e,q,z,R1,R2,hq,k⟩:=zz
 unfold dIx at hq
 split at hq
 ·rename_i xs i
  cases R1 with
  | @tup a vs _ h1 r1=>
   cases R2
   obtain⟨v,g1,g2⟩:=r1.atI hq
   exact .inr ⟨a,vs,i,v,rfl,rfl,h1,g1,k F H _ (Ext.refl F H) g2⟩
 ·rename_i xs i
  cases R1 with
  | @lst a vs _ h1 r1=>
   cases R2
   obtain⟨v,g1,g2⟩:=r1.atI hq
   exact .inl ⟨a,vs,i,v,rfl,rfl,h1.sq,g1,k F H _ (Ext.refl F H) g2⟩
 ·cases hq
def dLen:List D->Option D
 | [.list xs]=>some (.int xs.length)
 | [.tuple xs]=>some (.int xs.length)
 | _=>none
theorem zDc:zA0 X (.builtin "len") (rDA X.K dLen):=zEQ zF5 fun xs H Q zz=>by
 obtain⟨F,ds,q,z,R,hq,k⟩:=zz
 unfold dLen at hq
 split at hq
 ·cases hq
  cases R with
  | cons R1 R2=>
   cases R2
   cases R1 with
   | @lst a vs _ h1 r1=>exact⟨a,vs,rfl,.inl h1.sq,by rw [<- r1.length];exact k F H _ (Ext.refl F H) (.int _)⟩
 ·cases hq
  cases R with
  | cons R1 R2=>
   cases R2
   cases R1 with
   | @tup a vs _ h1 r1=>exact⟨a,vs,rfl,.inr h1,by rw [<- r1.length];exact k F H _ (Ext.refl F H) (.int _)⟩
 ·cases hq
def dAbs:List D->Option D
 | [.int i]=>some (.int (if i<0 then -i else i))
 | _=>none
theorem zDY:zA0 X (.builtin "abs") (rDA X.K dAbs):=zEQ zLm fun xs H Q zz=>by
 obtain⟨F,ds,q,z,R,hq,k⟩:=zz
 unfold dAbs at hq
 split at hq
 ·cases hq
  cases R with
  | cons R1 R2=>cases R2;cases R1;exact⟨_,rfl,k F H _ (Ext.refl F H) (.int _)⟩
 ·cases hq
def zAK:List D->Option (List Int)
 | []=>some []
 | .int i::r=>(zAK r).bind fun is=>some (i::is)
 | _=>none
theorem zE4{K:PySem.W.Frag}{F:Addr->Prop}{H:Hp}:∀{ds:List D}{vs:List V}{is:List Int},Reps K F H ds vs->zAK ds=some is->vs=is.map V.int:=by
 intro ds
 induction ds with
 | nil=>intro vs is r h;cases r;cases h;rfl
 | cons d ds ih=>
  intro vs is r h
  cases r with
  | cons r1 r2=>
   cases d with
   | int i=>
    cases r1
    obtain⟨js,e,h⟩:=bnd h
    cases h
    rw [ih r2 e];rfl
   | _=>cases h
def zCj:List D->Option D
 | [.list xs]=>some (.tuple xs)
 | [.tuple xs]=>some (.tuple xs)
 | _=>none
theorem zDd:zA0 X (.type "tuple") (rDA X.K zCj):=zEQ zLs fun xs H Q zz=>by
 obtain⟨F,ds,q,z,R,hq,k⟩:=zz
 unfold zCj at hq
 split at hq
 ·cases hq
  cases R with
  | cons R1 R2=>
   cases R2
   cases R1 with
   | @lst a vs _ h1 r1=>exact⟨a,vs,rfl,.inl ⟨h1.sq,fun l hl=>k F _ _ (Ext.fresh hl) (Rep.newTup hl r1)⟩⟩
 ·cases hq
  cases R with
  | cons R1 R2=>
   cases R2
   cases R1 with
   | @tup a vs _ h1 r1=>exact⟨a,vs,rfl,.inr ⟨h1,k F H _ (Ext.refl F H) (.tup h1 r1)⟩⟩
 ·cases hq
end
end DL
namespace CL
open PySem PySem.Spec PyProof.Rows L2
theorem zF7{env:Env}:∀(names:List (Str × NameKind)) (acc:List (Str × Addr)),(∀ x∈names,x.2=.free->∃ c,env.cells.lookup x.1=some c)->
  (∀ x c,acc.lookup x=some c->env.cells.lookup x=some c)->
  ∃ cl,(forIn names acc (fun(x:Str × NameKind) (cs:List (Str × Addr))=>(do
    if x.2 == .free then
     let c <- cellOf env x.1
     pure (ForInStep.yield ((x.1,c)::cs))
    else pure (ForInStep.yield cs):Sem (ForInStep (List (Str × Addr)))))=(pure cl:Sem _))/\(∀ x c,cl.lookup x=some c->env.cells.lookup x=some c) /\
   (∀ x,(x,NameKind.free)∈names->∃ c,cl.lookup x=some c)/\(∀ x c,acc.lookup x=some c->∃ c',cl.lookup x=some c')/\(∀ x c,cl.lookup x=some c->(x,NameKind.free)∈names ∨ acc.lookup x=some c)
 | [],acc,_,h2=>⟨acc,by rw [List.forIn_nil],h2,fun x h=>by simp at h,fun x c h=>⟨c,h⟩,fun x c h=>.inr h⟩
 | (n,k)::r,acc,h1,h2=>by
  rw [List.forIn_cons]
  by_cases hk:k=.free
  ·subst hk
   obtain⟨c,hc⟩:=h1 (n,.free) (Qj) rfl
   have hc':env.cells.lookup n=some c:=hc
   have h2':∀ x c',((n,c)::acc).lookup x=some c'->env.cells.lookup x=some c':=fun x c' h=>by
    rw [QJ]at h
    cases e:x == n with
    | true=>rw [e]at h;cases h;rw [Yj e];exact hc'
    | false=>rw [e]at h;exact h2 x c' h
   obtain⟨cl,q,a1,a2,a3,a4⟩:=zF7 r ((n,c)::acc) (fun x hx=>h1 x (Qe _ hx)) h2'
   refine⟨cl,?_,a1,fun x hx=>?_,fun x c' h=>?_,fun x c' h=>?_⟩
   ·have e1:cellOf env n=pure c:=by unfold cellOf;rw [hc']
    simp only [beq_self_eq_true,if_true,e1,pure_bind]
    exact q
   ·rcases Qh.mp hx with hx | hx
    ·cases hx
     exact a3 n c (by rw [QJ,beq_self_eq_true])
    ·exact a2 x hx
   ·cases e:x == n with
    | true=>rw [Yj e];exact a3 n c (by rw [QJ,beq_self_eq_true])
    | false=>exact a3 x c' (by rw [QJ,e];exact h)
   ·rcases a4 x c' h with h | h
    ·exact .inl (Qe _ h)
    ·rw [QJ]at h
     cases e:x == n with
     | true=>rw [Yj e];exact .inl Qj
     | false=>rw [e]at h;exact .inr h
  ·obtain⟨cl,q,a1,a2,a3,a4⟩:=zF7 r acc (fun x hx=>h1 x (Qe _ hx)) h2
   refine⟨cl,?_,a1,fun x hx=>?_,a3,fun x c h=>(a4 x c h).imp (Qe _) id⟩
   ·have e:(k == NameKind.free)=false:=by simpa using hk
    simp only [e,Qm,if_false,pure_bind]
    exact q
   ·rcases Qh.mp hx with hx | hx
    ·cases hx;exact absurd rfl hk
    ·exact a2 x hx
theorem clos{env:Env}{scope:Scope}(h:∀ x∈scope.names,x.2=.free->∃ c,env.cells.lookup x.1=some c):
  ∃ cl,closureFor scope env=pure cl/\(∀ x c,cl.lookup x=some c->env.cells.lookup x=some c)/\(∀ x,(x,NameKind.free)∈scope.names->∃ c,cl.lookup x=some c)/\(∀ x c,cl.lookup x=some c->(x,NameKind.free)∈scope.names):=by
 obtain⟨cl,q,a1,a2,_,a4⟩:=zF7 (env:=env) scope.names [] h (fun x c h=>by simp at h)
 refine⟨cl,?_,a1,a2,fun x c h=>(a4 x c h).elim id fun z=>by simp at z⟩
 simp only [closureFor]
 first
  | exact q
  | (rw [<- q];congr 1;funext x cs;obtain⟨n,k⟩:=x;rfl)
  | simpa using q
def inCx(X:Cx)(N':List Str)(scope:Scope)(cl:List (Str × Addr))(C:Addr)(fp:List Addr)(s:Shared)(H:Hp):Cx:=
 { X with N:=N',s₀:=s,H₀:=H,env:=compEnvC scope cl C X.env,outer:=X.stack,ex:=fp,fn:=fun x=>scope.names.lookup x == some .local,pn:=[],xe:=fun _ _=>False }
structure zCz(X:Cx)(N':List Str)(scope:Scope)(inner:List (Option Nat)):Prop where
 kind:scope.kind=.function
 nocell:∀ x∈scope.names,x.2≠.cell
 loc:∀ x∈scope.names,x.2=.local->scope.names.lookup x.1=some .local
 free:∀ x∈scope.names,x.2=.free->scope.names.lookup x.1=some .free/\(X.env.scope.names.lookup x.1=some .cell ∨ X.env.scope.names.lookup x.1=some .free)
 len:inner.length=N'.length
 out:∀(i j:Nat),inner[i]?=some (some j)->∃ x,N'[i]?=some x/\X.N[j]?=some x/\scope.names.lookup x=some .free
def inSt(inner:List (Option Nat))(σ:L2.St):L2.St:=inner.map fun o=>o.bind fun j=>(σ[j]?).bind id
theorem zKa{env:Env}:∀{names:List (Str × NameKind)}{x:Str},names.lookup x=some .free->
  (names.map fun(n,k)=>if(k == NameKind.free && env.scope.kind == .function && env.kindOf n == some .cell)then(n,NameKind.cell)else(n,k)).lookup x=some .free ∨
  (names.map fun(n,k)=>if(k == NameKind.free && env.scope.kind == .function && env.kindOf n == some .cell)then(n,NameKind.cell)else(n,k)).lookup x=some .cell
 | [],_,h=>by simp at h
 | (n,k)::r,x,h=>by
  have ih:=@zKa env r x
  rw [Qq]
  show List.lookup x ((if(k == NameKind.free && env.scope.kind == .function && env.kindOf n == some .cell)=true then(n,NameKind.cell)else(n,k))::_)=_ ∨ List.lookup x ((if(k == NameKind.free && env.scope.kind == .function && env.kindOf n == some .cell)=true then(n,NameKind.cell)else(n,k))::_)=_
  cases hx:x == n with
  | true=>
   simp only [QJ,hx]at h
   cases h
   by_cases hc:(NameKind.free == NameKind.free && env.scope.kind == .function && env.kindOf n == some .cell)=true
   ·rw [if_pos hc];right;simp [QJ,hx]
   ·rw [if_neg hc];left;simp [QJ,hx]
  | false=>
   simp only [QJ,hx]at h
   by_cases hc:(k == NameKind.free && env.scope.kind == .function && env.kindOf n == some .cell)=true
   ·rw [if_pos hc];simp only [QJ,hx];exact ih h
   ·rw [if_neg hc];simp only [QJ,hx];exact ih h
theorem zHo{env:Env}:∀{names:List (Str × NameKind)}{x:Str}{q:NameKind},(∀ y∈names,y.2≠.cell)->(q=.cell ∨ q=.free)->
  (names.map fun(n,k)=>if(k == NameKind.free && env.scope.kind == .function && env.kindOf n == some .cell)then(n,NameKind.cell)else(n,k)).lookup x=some q->(x,NameKind.free)∈names
 | [],_,_,_,_,h=>by simp at h
 | (n,k)::r,x,q,hn,hq,h=>by
  have ih:=@zHo env r x q (fun y hy=>hn y (Qe _ hy)) hq
  rw [Qq]at h
  have h':List.lookup x ((if(k == NameKind.free && env.scope.kind == .function && env.kindOf n == some .cell)=true then(n,NameKind.cell)else(n,k))::_)=some q:=h
  cases hx:x == n with
  | true=>
   have e:x=n:=Yj hx
   by_cases hc:(k == NameKind.free && env.scope.kind == .function && env.kindOf n == some .cell)=true
   ·have:k=.free:=by
     have:=hc
     simp only [QQ,beq_iff_eq]at this
     exact this.1.1
    rw [e,this];exact Qj
   ·rw [if_neg hc]at h'
    simp only [QJ,hx]at h'
    have kq:k=q:=Qy h'
    rcases hq with z | z
    ·exact absurd (kq.trans z) (hn (n,k) Qj)
    ·rw [e,<- z,<- kq];exact Qj
  | false=>
   by_cases hc:(k == NameKind.free && env.scope.kind == .function && env.kindOf n == some .cell)=true
   ·rw [if_pos hc]at h';simp only [QJ,hx]at h';exact Qe _ (ih h')
   ·rw [if_neg hc]at h';simp only [QJ,hx]at h';exact Qe _ (ih h')
section
variable {X:Cx}{N':List Str}{scope:Scope}{inner:List (Option Nat)}{cl:List (Str × Addr)}{C:Addr}{fp:List Addr}{s s4:Shared}{H:Hp}{σ:L2.St}{pins:List (Addr × Obj)}
theorem zMD(CS:zCz X N' scope inner)(I:Inv X pins σ H s)(hf:∀ b∈fp,FpOk X pins H b)(c1:∀ x c,cl.lookup x=some c->X.env.cells.lookup x=some c)(c2:∀ x,(x,NameKind.free)∈scope.names->∃ c,cl.lookup x=some c)(c3:∀ x c,cl.lookup x=some c->(x,NameKind.free)∈scope.names)
  (hfl:∀ b∈fp,b<s.heap.objs.size) (hC:C=s.heap.objs.size) {h':Heap}{tk:Nat} (hk:∀ b o,s.heap.get? b=some o->h'.get? b=some o) (hns:h'.Ns C fun _=>none) (hs4:s4={ s with heap:=h',toks:=tk }):
  Inv (inCx X N' scope cl C fp s H) [] (inSt inner σ) H s4:=by
 subst hs4
 have old:∀ b o,s.heap.get? b=some o->b≠C:=fun b o e=>by rw [hC];exact Qt (Qo e)
 have cC:∀ x c,cl.lookup x=some c->c≠C:=fun x c e=>by
  obtain⟨v,o,q,_⟩:=I.cell x c (c1 x c e)
  exact old c o q
 refine⟨⟨I.ok.mod,CS.kind,I.ok.glob,I.ok.blt,?_,fun x y c h1 h2=>I.ok.inj x y c (c1 x c h1) (c1 y c h2),fun x hx=>?_,fun x c hx h=>?_,I.ok.hd,I.ok.frames,.inl rfl,fun b hb=>⟨?_,fun x c e z=>(hf b hb).2.2.2.2.1 x c (c1 x c e) z⟩,I.bs,QI I.ok.bsz I.sz,fun b o e hb=>?_,fun b hb=>?_,I.stack,I.stkFree⟩,
  rfl,I.bare,Un.kept hk,⟨_,hns,fun i x v e1 e2 e3=>?_⟩,fun x c e=>?_,?_,fun x c e=>I.freeC x c (c1 x c e),fun p hp=>absurd (show p∈([]:List (Addr × Obj))from hp) (by simp),I.hok.kept hk,?_⟩
 ·show s.heap.objs.size<=C
  rw [hC];exact Qi _
 ·have hx':(relabel scope X.env).names.lookup x=some .cell ∨ (relabel scope X.env).names.lookup x=some .free:=hx
  rcases hx' with hx' | hx'
  ·exact c2 x (zHo CS.nocell (.inl rfl) hx')
  ·exact c2 x (zHo CS.nocell (.inr rfl) hx')
 ·have hx':(scope.names.lookup x == some NameKind.local)=true:=hx
  have e1:scope.names.lookup x=some .local:=Yj hx'
  have e2:=(CS.free _ (c3 x c h) rfl).1
  rw [e1]at e2;cases e2
 ·show b≠C
  rw [hC];exact Qt (hfl b hb)
 ·rcases(hf b hb).2.2.2.1 with z | z
  ·exact I.ok.noex b o e z
  ·exact absurd (QG (Qo e) (QI I.ok.bsz z)) (Jc _)
 ·intro z
  rcases Qh.mp (I.stkSub b z)with q | q
  ·exact(hf b hb).2.1 q
  ·exact(hf b hb).2.2.1 q
 ·-- a name of the block: one that is free,read through its cell
  unfold inSt at e2
  rw [QB]at e2
  cases ei:inner[i]? with
  | none=>rw [ei]at e2;cases e2
  | some o=>
   rw [ei]at e2
   cases o with
   | none=>cases e2
   | some j=>
    have e2':(σ[j]?).bind id=some v:=by simpa using e2
    have e4:σ[j]?=some (some v):=by
     cases ej:σ[j]? with
     | none=>rw [ej]at e2';cases e2'
     | some w'=>rw [ej]at e2';exact congrArg some e2'
    obtain⟨x',g1,g2,g3⟩:=CS.out i j ei
    have e1':N'[i]?=some x:=e1
    rw [e1']at g1;cases g1
    have mem:(x,NameKind.free)∈scope.names:=PySem.mem_of_lookup g3
    have outer:=(CS.free _ mem rfl).2
    obtain⟨m,hm,hl⟩:=I.loc
    have vis:Vis X.env.scope x:=outer.elim (fun z=>.inr (.inl z)) fun z=>.inr (.inr z)
    obtain⟨u,ru,lk⟩:=hl j x v g2 e4 vis
    refine⟨u,ru,?_⟩
    obtain⟨c,hc⟩:=c2 x mem
    rcases lk with⟨k1,_⟩ | ⟨_,c',k2,k3⟩
    ·have k1':X.env.scope.names.lookup x=some .local:=k1
     rcases outer with z | z <;> (rw [k1']at z;cases z)
    ·have e5:=c1 x c hc
     rw [k2]at e5;cases e5
     refine .inr ⟨?_,c,hc,(let⟨o,q1,q2⟩:=k3;⟨o,hk _ o q1,q2⟩)⟩
     have:=zKa (env:=X.env) g3
     exact this.elim .inr .inl
 ·obtain⟨v,q⟩:=I.cell x c (c1 x c e)
  exact⟨v,(let⟨o,q1,q2⟩:=q;⟨o,hk _ o q1,q2⟩)⟩
 ·show H C=none
  exact I.hok.fresh (by rw [hC];exact Qi _)
 ·show(inSt inner σ).length=N'.length
  unfold inSt
  rw [Ql];exact CS.len
theorem zMC(I:Inv X pins σ H s)(hf:∀ b∈fp,FpOk X pins H b)(hC:C=s.heap.objs.size){σ':L2.St}{H':Hp}{s5:Shared}(J:Inv (inCx X N' scope cl C fp s H) [] σ' H' s5){h':Heap}(sb:Heap.SameBut C s5.heap h'):
  Inv X pins σ H' { s5 with heap:=h' }:=by
 have old:∀ b o,s.heap.get? b=some o->b≠C:=fun b o e=>by rw [hC];exact Qt (Qo e)
 have U:Un (frs X.stack) fp H H' s.heap s5.heap:=J.base
 have nC:H' C=none:=J.free
 refine I.call' (ch:=fp) J.os ⟨fun b o e n hb hx=>?_,fun b o e n hb hx=>?_,U.free,fun b o e hx=>?_,U.tups,U.frzs,U.tbls⟩ (fun b u e=>?_) J.bare fun b hb=>?_
 ·rw [sb.2 b (old b o e)];exact U.keep b o e n hb hx
 ·obtain⟨sl,q⟩:=U.slot b o e n hb hx
  exact⟨sl,by rw [sb.2 b (old b o e)];exact q⟩
 ·obtain⟨o',q⟩:=U.there b o e hx
  exact⟨o',by rw [sb.2 b (old b o e)];exact q⟩
 ·have nt:∀ c v,H' c=some v->c≠C:=fun c v q z=>by rw [z,nC]at q;cases q
  refine(J.hok b u e).stay (fun c v hc q=>?_) (fun _ q=>q) fun _ _ q=>q
  rw [sb.2 c ?_]
  ·exact q
  ·rcases hc with z | z
   ·rw [z];exact nt b u e
   ·exact nt c _ z
 ·exact⟨(hf b hb).2.2.2.1,(hf b hb).2.1,(hf b hb).2.2.2.2.1,(hf b hb).2.2.2.2.2⟩
end
def PTs(X:Cx)(ifs:List Expr)(t:TT):Prop:=
 ∀(pins:List (Addr × Obj)) (s:Shared) (σ:L2.St) (H:Hp) (Q:Bool->Hp->Prop),Inv X pins σ H s->t σ H Q->
  wpAny (model X.prog X.w) X.A (forIn ifs true fun c r=>if r=true then do let ok <- isTrue c X.env (eval c X.env);pure (ForInStep.yield ok)else pure (ForInStep.yield r)) (TP X pins σ Q) X.xe s
theorem zOA{X:Cx}{c:Expr}{t:TT}(h:PT X c t):PTs X [c] t:=fun pins s σ H Q I q=>wpAny_tests_one (h pins s σ H Q I q)
def zHG(wi:TI)(g:TG)(ti:TT)(te:TE)(inner:List (Option Nat)):TE:=fun σ H Q=>wi σ H fun J H1=>∀ D,H1 D=none->∃ W:Nat->Nat->L2.St->Hp->Prop,(∃ m,W 0 m (inSt inner σ) (upd H1 D (.lst [])))/\∀ i m σ' H',W i m σ' H'->
 (J.stop i H'/\Q (.ref D) H') ∨ (J.go i H'/\∀ x H2,J.yld i H' x H2->g x σ' H2 fun σ3 H3=>ti σ3 H3 fun b H4=>if b=true then te σ3 H4 fun y H5=>∃ ys,H5 D=some (.lst ys)/\ys.length<sizeLine/\∃ m',m'<m/\W (i+1) m' σ3 (upd H5 D (.lst (ys++[y])))else ∃ m',m'<m/\W (i+1) m' σ3 H4)
section
variable {X:Cx}{elt tg iter:Expr}{ifs:List Expr}{scope:Scope}{pos:Pos}{N':List Str}{inner:List (Option Nat)}{wi:TI}{g:TG}{ti:TT}{te:TE}
theorem zLz{Y:Cx}{D it:Addr}{fp:List Addr}{tn:Nat->Heap->Prop}{J:It}{W:Nat->Nat->L2.St->Hp->Prop}{Qn:Hp->Prop}{RR:Result->Shared->Prop}{σ0:L2.St}{H0:Hp}{s4:Shared}{m0:Nat}
  (hc:Y.calm=true) (hxe:∀ v s,¬ Y.xe v s) (hg:PG Y tg g) (ht:PTs Y ifs ti) (he:PE Y elt te) (T:Turn Y.prog Y.w Y.K tg J fp it tn) (fx:∀{H'':Hp},(∀ b∈fp,H'' b=none)->∀ b∈fp,FpOk Y [] H'' b)
  (I4:Inv Y [] σ0 H0 s4) (t4:tn 0 s4.heap) (fr4:∀ b∈fp,H0 b=none) (w0:W 0 m0 σ0 H0)
  (step:∀ i m σ' H',W i m σ' H'->(J.stop i H'/\Qn H') ∨ (J.go i H'/\∀ x H3,J.yld i H' x H3->g x σ' H3 fun σ3 H3=>ti σ3 H3 fun b H4=>if b=true then te σ3 H4 fun y H5=>∃ ys,H5 D=some (.lst ys)/\ys.length<sizeLine/\∃ m',m'<m/\W (i+1) m' σ3 (upd H5 D (.lst (ys++[y])))else ∃ m',m'<m/\W (i+1) m' σ3 H4))
  (fin:∀ σ' H' s5,Inv Y [] σ' H' s5->Qn H'->RR (.ok .next) s5):
  codeAny (model Y.prog Y.w) Y.A (.compLoop (.ListComp elt [⟨tg,iter,ifs,0⟩] scope pos) 0 (.ref it) (.ref D) Y.env) RR s4:=by
 refine codeAny_loop rfl (fun m s'=>∃ i σ' H',Inv Y [] σ' H' s'/\tn i s'.heap/\(∀ b∈fp,H' b=none)/\W i m σ' H') (fun m s' hI=>?_) m0 ⟨0,_,_,I4,t4,fr4,w0⟩
 obtain⟨i,σ',H',I',t',fr',w'⟩:=hI
 show wpAny _ Y.A ((compTurn (.ListComp elt [⟨tg,iter,ifs,0⟩] scope pos) 0 (.ref it) (.ref D) Y.env).onRaise (fun x=>do noteFrame x Y.env;theTreesLotGoes x)) _ _ s'
 refine wpAny_noted ?_
 rw [compTurn_list]
 refine Qa (wpAny_standAt (Qa ?_))
 rcases step i m σ' H' w' with⟨stop,qn⟩ | ⟨go,nxt⟩
 ·refine YE (T.done Y rfl rfl rfl hc i [] s' σ' H' (fun _ _=>False) I' (fx fr') t' stop) (fun r s5 hr=>?_) fun _ _ z=>z.elim
  obtain⟨hr,I5⟩:=hr
  subst hr
  exact Qb (fin σ' H' s5 I5 qn)
 ·refine YE (T.item Y rfl rfl rfl hc i [] s' σ' H' (fun _ _=>False) I' (fx fr') t' go) (fun r s5 hr=>?_) fun _ _ z=>z.elim
  obtain⟨u,hr,h5⟩:=hr
  subst hr
  refine Qa (YE h5 (fun _ s6 h6=>?_) fun _ _ z=>z.elim)
  obtain⟨x,H6,I6,r6,y6,t6,fr6⟩:=h6
  have I6':=I6.pinned (fx fr6) (T.obj _ _ t6)
  have back:∀{m':Nat}{σ7:L2.St}{H7:Hp}{s7:Shared},Inv Y ([]++zEv fp s6.heap) σ7 H7 s7->m'<m->W (i+1) m' σ7 H7->
    ∃ m',m'<m/\∃ i σ' H',Inv Y [] σ' H' s7/\tn i s7.heap/\(∀ b∈fp,H' b=none)/\W i m' σ' H':=fun{m' σ7 H7 s7} I7 lt w7=>by
   refine⟨m',lt,i+1,σ7,H7,I7.unpinned,T.keep _ _ _ t6 fun b hb o e=>(I7.pin (b,o) (Qz _ (Qz _ (zFt hb e)))).1,fun b hb=>?_,w7⟩
   obtain⟨o,e,_⟩:=T.obj _ _ t6 b hb
   exact(I7.pin (b,o) (Qz _ (Qz _ (zFt hb e)))).2.1
  refine Qa (YE (hg _ s6 σ' H6 x u _ I6' r6 (nxt x H6 y6)) (fun _ s7 h7=>?_) fun _ _ z=>absurd z (hxe _ _))
  obtain⟨σ7,H7,I7,q7⟩:=h7
  refine Qa (YE (ht _ s7 σ7 H7 _ I7 q7) (fun ok s8 h8=>?_) fun _ _ z=>absurd z (hxe _ _))
  obtain⟨H8,I8,q8⟩:=h8
  cases ok with
  | false=>
   simp only [Qm,if_false]at q8 ⊢
   obtain⟨m',lt,w8⟩:=q8
   exact Qb ⟨rfl,back I8 lt w8⟩
  | true=>
   simp only [if_true]at q8 ⊢
   refine Qa (Qa (YE (he _ s8 σ7 H8 _ I8 q8) (fun y s9 h9=>?_) fun _ _ z=>absurd z (hxe _ _)))
   obtain⟨yv,H9,I9,r9,ys,d9,l9,m',lt,w9⟩:=h9
   refine Qa (YE (zEj (X:=Y) _ s9 σ7 H9 (.ref D) [yv] _ [y] (fun v H'=>H'=upd H9 D (.lst (ys++[yv]))) I9 rfl (.cons r9 .nil) ⟨_,ys,yv,rfl,rfl,d9,l9,rfl⟩) (fun _ s10 h10=>?_) fun _ _ z=>absurd z (hxe _ _))
   obtain⟨_,H10,I10,_,e10⟩:=h10
   subst e10
   exact Qb (Qb ⟨rfl,back I10 lt w9⟩)
theorem zDZ(hc:X.calm=true)(CS:zCz X N' scope inner)(hg:∀ cl C fp s H,PG (inCx X N' scope cl C fp s H) tg g)(ht:∀ cl C fp s H,PTs (inCx X N' scope cl C fp s H) ifs ti)(he:∀ cl C fp s H,PE (inCx X N' scope cl C fp s H) elt te)
  {pins:List (Addr × Obj)}{σ:L2.St}{s2:Shared}{H2:Hp}{it:Addr}{fp:List Addr}{tn:Nat->Heap->Prop}{J:It}{cl:List (Str × Addr)}{Q:VK}{RR:Value->Addr->Result->Shared->Prop}
  (c1:∀ x c,cl.lookup x=some c->X.env.cells.lookup x=some c) (c2:∀ x,(x,NameKind.free)∈scope.names->∃ c,cl.lookup x=some c) (c3:∀ x c,cl.lookup x=some c->(x,NameKind.free)∈scope.names)
  (I2:Inv X pins σ H2 s2) (T:Turn X.prog X.w X.K tg J fp it tn) (t0:tn 0 s2.heap) (f2:∀ b∈fp,FpOk X pins H2 b)
  (q:∀ D,H2 D=none->∃ W:Nat->Nat->L2.St->Hp->Prop,(∃ m,W 0 m (inSt inner σ) (upd H2 D (.lst [])))/\∀ i m σ' H',W i m σ' H'->
   (J.stop i H'/\Q (.ref D) H') ∨ (J.go i H'/\∀ x H3,J.yld i H' x H3->g x σ' H3 fun σ3 H3=>ti σ3 H3 fun b H4=>if b=true then te σ3 H4 fun y H5=>∃ ys,H5 D=some (.lst ys)/\ys.length<sizeLine/\∃ m',m'<m/\W (i+1) m' σ3 (upd H5 D (.lst (ys++[y])))else ∃ m',m'<m/\W (i+1) m' σ3 H4))
  (fin:∀(D C:Addr) (H':Hp) (s5:Shared) (m:Str->Option Value),s5.heap.Ns C m->Q (.ref D) H'->(∀ h',Heap.SameBut C s5.heap h'->Inv X pins σ H' { s5 with heap:=h' })->(H' C=none/\C≠X.env.locals/\X.s₀.heap.objs.size<=C/\(∀ x c,X.env.cells.lookup x=some c->c≠C)/\∀ p∈X.pn++pins,p.1≠C)->RR (.ref D) C (.ok .next) s5):
  wpAny (model X.prog X.w) X.A (newList []) (fun acc s₃=>wpAny (model X.prog X.w) X.A (newFunctionEnv scope X.env.globals cl [] X.env.qual none .none (some X.env)) (fun cenv s₄=>
   codeAny (model X.prog X.w) X.A (.compStart (.ListComp elt [⟨tg,iter,ifs,0⟩] scope pos) 0 (.ref it) acc { cenv with scope:=relabel scope X.env }) (RR acc cenv.locals) s₄) X.xe s₃) X.xe s2:=by
 refine wpAny_newList ?_
 have hD:H2 s2.heap.objs.size=none:=I2.hok.fresh (Qi _)
 generalize hs3:({ s2 with heap:=s2.heap.push { cls:=.type "list",data:=.seq ([]:List Value).toArray } }:Shared)=s3
 have k23:∀ b o,s2.heap.get? b=some o->s3.heap.get? b=some o:=fun b o e=>by rw [<- hs3];exact Qd _ e
 have sz3:s3.heap.objs.size=s2.heap.objs.size+1:=by rw [<- hs3];exact Yr _ _
 have I3:Inv X pins σ (upd H2 s2.heap.objs.size (.lst [])) s3:=by
  rw [<- hs3]
  exact I2.laid (t':=s2.toks) (o:=.lst []) (fun b o e=>Qd _ e) (Qi _) ⟨QN _,[],0,.nil,Qu _ rfl⟩
 have ffl:∀ b∈fp,b<s2.heap.objs.size:=fun b hb=>by
  obtain⟨o,e,_⟩:=T.obj 0 _ t0 b hb
  exact Qo e
 have f3:∀ b∈fp,FpOk X pins (upd H2 s2.heap.objs.size (.lst [])) b:=fun b hb=>by
  obtain⟨g0,g1⟩:=f2 b hb
  exact⟨by rw [zAf (Qt (ffl b hb))];exact g0,g1⟩
 have t3:tn 0 s3.heap:=T.keep _ _ _ t0 fun b _ o e=>k23 b o e
 obtain⟨W,⟨m0,w0⟩,step⟩:=q _ hD
 refine wpAny_newFunctionEnv (fun x hx=>CS.nocell x hx) (by intro y hy;simp at hy) (fun h₁ hns₁ hsb₁=>?_) CS.kind
 try dsimp only at hns₁ hsb₁ ⊢
 have k34:∀ b o,s3.heap.get? b=some o->h₁.get? b=some o:=fun b o e=>hsb₁.extBut b o (Qt (Qo e)) (Qd _ e)
 have hns:h₁.Ns s3.heap.objs.size fun _=>none:=by
  have:(fun x=>([]:List (Str × Value)).reverse.lookup x)=(fun _=>none:Str->Option Value):=by funext x;rfl
  rw [this]at hns₁;exact hns₁
 generalize hs4:({ s3 with heap:=h₁,toks:=s3.toks+([]:List (Str × Value)).length }:Shared)=s4
 have I4:Inv (inCx X N' scope cl s3.heap.objs.size fp s3 (upd H2 s2.heap.objs.size (.lst []))) [] (inSt inner σ) (upd H2 s2.heap.objs.size (.lst [])) s4:=
  zMD CS I3 f3 c1 c2 c3 (fun b hb=>by rw [sz3];exact YW (ffl b hb)) rfl k34 hns hs4.symm
 have t4:tn 0 s4.heap:=by rw [<- hs4];exact T.keep _ _ _ t3 fun b _ o e=>k34 b o e
 have CL:s3.heap.objs.size≠X.env.locals:=YH I3.lt
 have CC:∀ x c,X.env.cells.lookup x=some c->c≠s3.heap.objs.size:=fun x c e=>by
  obtain⟨v,o,z,_⟩:=I3.cell x c e
  exact Qt (Qo z)
 show codeAny (model X.prog X.w) X.A (.compStart (.ListComp elt [⟨tg,iter,ifs,0⟩] scope pos) 0 (.ref it) (.ref s2.heap.objs.size) (compEnvC scope cl s3.heap.objs.size X.env)) (RR (.ref s2.heap.objs.size) s3.heap.objs.size) s4
 have loop:codeAny (model X.prog X.w) X.A (.compLoop (.ListComp elt [⟨tg,iter,ifs,0⟩] scope pos) 0 (.ref it) (.ref s2.heap.objs.size) (compEnvC scope cl s3.heap.objs.size X.env)) (RR (.ref s2.heap.objs.size) s3.heap.objs.size) s4:=by
  have fx:∀{H'':Hp},(∀ b∈fp,H'' b=none)->∀ b∈fp,FpOk (inCx X N' scope cl s3.heap.objs.size fp s3 (upd H2 s2.heap.objs.size (.lst []))) [] H'' b:=fun{H''} z b hb=>
   ⟨z b hb,(I4.ok.exf b hb).1,I4.ok.exfs b hb,.inl hb,fun x c e=>(I4.ok.exf b hb).2 x c e,fun p hp=>absurd (show p∈([]:List (Addr × Obj))from hp) (by simp)⟩
  refine zLz (Y:=inCx X N' scope cl s3.heap.objs.size fp s3 (upd H2 s2.heap.objs.size (.lst []))) hc (fun _ _ z=>z) (hg _ _ _ _ _) (ht _ _ _ _ _) (he _ _ _ _ _) T fx I4 t4 (fun b hb=>(f3 b hb).1) w0 step fun σ' H' s5 I5 qn=>?_
  obtain⟨m5,hm5,_⟩:=id I5.loc
  exact fin _ _ H' s5 m5 hm5 qn (fun h' sb=>zMC I3 f3 rfl I5 sb) ⟨I5.free,CL,I3.sz,CC,fun p hp=>Qt (Qo (I3.pin p hp).1)⟩
 exact codeAny_compStart_list loop (T.self X.A 0 s4 _ _ t4 loop)
theorem zOd(hc:X.calm=true)(CS:zCz X N' scope inner)(hi:PI X tg iter wi)(hg:∀ cl C fp s H,PG (inCx X N' scope cl C fp s H) tg g)(ht:∀ cl C fp s H,PTs (inCx X N' scope cl C fp s H) ifs ti)(he:∀ cl C fp s H,PE (inCx X N' scope cl C fp s H) elt te)
  (hs:∀ x,foldedSetIterable iter X.env x=pure x:=by intro _;rfl):PE X (.ListComp elt [⟨tg,iter,ifs,0⟩] scope pos) (zHG wi g ti te inner):=by
 intro pins s σ H Q I h
 obtain⟨cl,hcl,c1,c2,c3⟩:=clos (env:=X.env) (scope:=scope) fun x hx hk=>I.ok.has x.1 (CS.free x hx hk).2
 rw [eval_ListComp]
 refine wpAny_comprehension_free (use:=none) rfl hs hcl CS.kind CS.loc (thn (hi pins s σ H _ I h) fun xv s1 h1=>thn h1 fun itv s2 h2=>?_)
 obtain⟨it,fp,tn,J,H2,rfl,I2,T,t0,f2,q⟩:=h2
 refine zDZ (RR:=fun acc C=>compPost (model X.prog X.w) X.A X.xe none (EP X pins σ Q) acc C) hc CS hg ht he c1 c2 c3 I2 T t0 f2 q ?_
 intro D C H' s5 m hm hq hI _
 exact⟨m,hm,fun h' sb=>⟨.ref D,H',hI h' sb,rfl,hq⟩⟩
theorem zOw{i:Nat}{y:Str}{py spos:Pos}(hN:X.N.Nodup)(hc:X.calm=true)(CS:zCz X N' scope inner)(hi:PI X tg iter wi)(hg:∀ cl C fp s H,PG (inCx X N' scope cl C fp s H) tg g)(ht:∀ cl C fp s H,PTs (inCx X N' scope cl C fp s H) ifs ti)(he:∀ cl C fp s H,PE (inCx X N' scope cl C fp s H) elt te)
  (hsw:swapsWith (.ListComp elt [⟨tg,iter,ifs,0⟩] scope pos) (some (.Name y py)) spos.line X.env=pure true:=by rfl) (hy:X.N[i]?=some y:=by rfl) (hx:Loc X.env.scope y:=by first | exact Or.inl rfl | exact Or.inr rfl) (hf:X.fn y=true ∨ X.env.scope.names.lookup y=some .local:=by first | exact .inl rfl | exact .inr rfl | assumption)
  (hs:∀ x,foldedSetIterable iter X.env x=pure x:=by intro _;rfl):PS X (.Assign [.Name y py] (.ListComp elt [⟨tg,iter,ifs,0⟩] scope pos) spos) (tAsg (zHG wi g ti te inner) (zEb i)):=by
 intro pins s σ H D I h
 obtain⟨cl,hcl,c1,c2,c3⟩:=clos (env:=X.env) (scope:=scope) fun x hx hk=>I.ok.has x.1 (CS.free x hx hk).2
 rw [exec_Assign_Name_used _ _ _ _ hsw]
 refine Qa (wpAny_standAt (Qa ?_))
 show wpAny _ X.A (do let _ <- comprehension (.ListComp elt [⟨tg,iter,ifs,0⟩] scope pos) scope X.env _ (newList []) false (eval iter X.env) (some (assign (.Name y py) X.env))) _ _ s
 refine Qa (YE (wpAny_comprehension_free (use:=some (assign (.Name y py) X.env)) (Q:=fun _ s'=>SP X pins D .next s') rfl hs hcl CS.kind CS.loc
  (thn (hi pins s σ H _ I h) fun xv s1 h1=>thn h1 fun itv s2 h2=>?_)) (fun _ s' hq=>Qb (Qb hq)) fun _ _ e=>e)
 obtain⟨it,fp,tn,J,H2,rfl,I2,T,t0,f2,q⟩:=h2
 refine zDZ (Q:=fun v H'=>zEb i v σ H' D.nx) (RR:=fun acc C=>compPost (model X.prog X.w) X.A X.xe (some (assign (.Name y py) X.env)) (fun _ s'=>SP X pins D .next s') acc C) hc CS hg ht he c1 c2 c3 I2 T t0 f2 q ?_
 intro D' C H' s5 m hm hq hI hC
 obtain⟨z1,z2,z3,z4,z5⟩:=hC
 show wpAny _ X.A (assign (.Name y py) X.env (.ref D')) _ _ _
 have I5:=hI s5.heap (Heap.SameBut.refl ..)
 refine wpAny_assign_Name (zKD (v:=.ref D') I5 hN hy hx (show L2.RelV (.ref D') (Value.ref D')from rfl) (fun s6 I6 k6=>?_) hf)
 obtain⟨a,sb,ha⟩:=k6
 have na:C≠a:=by
  rcases ha with ha | ha
  ·rw [ha];exact z2
  ·exact(z4 y a ha).symm
 refine⟨m,hm.sameBut sb na,fun h' sb'=>⟨_,H',?_,hq⟩⟩
 exact I6.turned (t':=s6.toks) (fun b o nb e=>by rw [sb'.2 b nb];exact e) z1 z2 (.inr z3) z4 z5
end
end CL
namespace DL
open PySem PySem.Spec PySem.SeqAt PyProof.Rows L2 CL
def zB6(inner:List (Option Nat))(ρ:Rho):Rho:=inner.map fun o=>match o with
 | some j=>match ρ[j]? with
  | some (.dat d)=>.dat d
  | _=>.no
 | none=>.no
def zDe(s:D->Rho->Option Rho)(t:Rho->Option Bool)(ge:Rho->Option D):List D->Rho->Option (List D)
 | [],_=>some []
 | d::ds,ρ=>(s d ρ).bind fun ρ1=>(t ρ1).bind fun b=>if b=true then(ge ρ1).bind fun y=>(zDe s t ge ds ρ1).bind fun r=>some (y::r)else zDe s t ge ds ρ1
def zA2(gi:Rho->Option (List D))(s:D->Rho->Option Rho)(t:Rho->Option Bool)(ge:Rho->Option D)(inner:List (Option Nat)):Rho->Option (List D):=
 fun ρ=>(gi ρ).bind fun xs=>(zDe s t ge xs (zB6 inner ρ)).bind fun out=>if out.length<=1000 then some out else none
def eLc(g:Rho->Option (List D)):Rho->Option D:=fun ρ=>(g ρ).bind fun out=>some (.list out)
def eT:Rho->Option Bool:=fun _=>some true
def isOwn:Sl->Bool
 | .own _ | .ownD _ | .ownM _=>true
 | _=>false
def zB1(ρ:Rho):Prop:=∀(i:Nat) (s:Sl),isOwn s=true->ρ[i]?≠some s
def zC9(s:D->Rho->Option Rho):Prop:=∀ d ρ ρ',zB1 ρ->s d ρ=some ρ'->zB1 ρ'
def zEL(s:List D->Rho->Option Rho):Prop:=∀ ds ρ ρ',zB1 ρ->s ds ρ=some ρ'->zB1 ρ'
theorem zOs{ρ:Rho}{i:Nat}{d:D}(h:zB1 ρ):zB1 (ρ.set i (.dat d)):=fun j ds ow e=>by
 by_cases c:i=j
 ·subst c
  by_cases l:i<ρ.length
  ·rw [Qs l]at e;cases e;cases ow
  ·rw [List.getElem?_eq_none (by simpa using Yz l)]at e;cases e
 ·rw [Qk c]at e;exact h j ds ow e
theorem zBo(i:Nat):zC9 (zAz i):=fun d ρ ρ' h e=>by cases e;exact zOs h
theorem zJf:zEL uNil:=fun ds ρ ρ' h e=>by
 cases ds with
 | nil=>cases e;exact h
 | cons _ _=>cases e
theorem zE8{s1:D->Rho->Option Rho}{s2:List D->Rho->Option Rho}(h1:zC9 s1)(h2:zEL s2):zEL (zBk s1 s2):=fun ds ρ ρ' h e=>by
 cases ds with
 | nil=>cases e
 | cons d ds=>
  obtain⟨ρ1,e1,e⟩:=bnd e
  exact h2 ds ρ1 ρ' (h1 d ρ ρ1 h e1) e
theorem zJg{n:Nat}{s:List D->Rho->Option Rho}(h1:zEL s):zC9 (uTup n s):=fun d ρ ρ' h e=>by
 cases d with
 | tuple ds=>
  have e':(if ds.length=n then s ds ρ else none)=some ρ':=e
  by_cases c:ds.length=n
  ·rw [if_pos c]at e';exact h1 ds ρ ρ' h e'
  ·rw [if_neg c]at e';cases e'
 | _=>cases e
theorem zHe(inner:List (Option Nat))(ρ:Rho):zB1 (zB6 inner ρ):=fun i ds ow e=>by
 unfold zB6 at e
 rw [QB]at e
 cases q:inner[i]? with
 | none=>rw [q]at e;cases e
 | some o=>
  rw [q]at e
  cases o with
  | none=>cases e;cases ow
  | some j=>
   have e':(match ρ[j]? with | some (.dat d)=>Sl.dat d | _=>Sl.no)=ds:=Qy e
   split at e' <;> (subst e';cases ow)
theorem zPr{K:PySem.W.Frag}{F:Addr->Prop}{H:Hp}{p:Addr}{vs us:List V}(hp:H p=some (.lst vs))(hf:¬ F p):Stay K F F H (upd H p (.lst us)):=
 ⟨fun _ h=>h,fun a xs h=>by
  rcases h with(h | ⟨o,h⟩) | h
  ·exact .inl (.inl (by rw [zAf (by intro z;subst z;rw [hp]at h;cases h)];exact h))
  ·exact .inl (.inr ⟨o,by rw [zAf (by intro z;subst z;rw [hp]at h;cases h)];exact h⟩)
  ·exact .inr h,fun a xs f h=>by
  have na:a≠p:=fun z=>hf (by rw [<- z];exact f)
  rcases h with h | ⟨o,h⟩
  ·exact .inl (by rw [zAf na];exact h)
  ·exact .inr ⟨o,by rw [zAf na];exact h⟩,fun a φ f h=>by rw [zAf (fun z=>hf (by rw [<- z];exact f))];exact h⟩
theorem StOk.plain{K:PySem.W.Frag}{F F':Addr->Prop}{H H' H₀ H₁:Hp}{σ:L2.St}{ρ:Rho}(S:StOk K F H H₀ σ ρ)(pl:zB1 ρ)(T:Stay K F F' H H')(z:∀ a,F' a->H' a≠none):StOk K F' H' H₁ σ ρ:=
 ⟨S.len,fun i s h=>by
  obtain⟨o,q,w⟩:=S.sl i s h
  refine⟨o,q,?_⟩
  cases s with
  | no=>trivial
  | ownD kvs=>exact absurd h (pl i _ rfl)
  | ownM kvs=>exact absurd h (pl i _ rfl)
  | dat d=>obtain⟨v,e,r⟩:=w;exact⟨v,e,r.stay T⟩
  | own ds=>exact absurd h (pl i _ rfl),fun i j a ds es _ h1=>absurd h1 (pl i _ rfl),z⟩
theorem StOk.inner{K:PySem.W.Frag}{F:Addr->Prop}{H H₀:Hp}{σ:L2.St}{ρ:Rho}(S:StOk K F H H₀ σ ρ)(inner:List (Option Nat)):StOk K F H H₀ (inSt inner σ) (zB6 inner ρ):=
 ⟨by simp [inSt,zB6],fun i s h=>by
  unfold zB6 at h
  unfold inSt
  rw [QB]at h ⊢
  cases q:inner[i]? with
  | none=>rw [q]at h;cases h
  | some o=>
   rw [q]at h
   cases o with
   | none=>cases h;exact⟨none,rfl,trivial⟩
   | some j=>
    have h':(match ρ[j]? with | some (.dat d)=>Sl.dat d | _=>Sl.no)=s:=Qy h
    split at h'
    ·rename_i d e
     cases h'
     obtain⟨v,e2,r⟩:=S.dat e
     exact⟨some v,by simp [e2],v,rfl,r⟩
    ·cases h'
     exact⟨_,rfl,trivial⟩,fun i j a ds es _ h1=>absurd h1 (zHe inner ρ i _ rfl),S.fz⟩
def DTs(X:Cx)(ifs:List Expr)(t:Rho->Option Bool):Prop:=PTs X ifs (tDT X.K t)
theorem zD5{X:Cx}:DTs X [] eT:=fun pins s σ H Q I zz=>by
 obtain⟨F,H₀,ρ,b,S,q,k⟩:=zz
 cases q
 exact wpAny_tests_nil ⟨H,I,k F H (Ext.refl F H)⟩
theorem zDi{X:Cx}{c:Expr}{t:Rho->Option Bool}(h:DT X c t):DTs X [c] t:=zOA h
section
variable {X:Cx}{elt tg iter:Expr}{ifs:List Expr}{scope:Scope}{pos:Pos}{N':List Str}{inner:List (Option Nat)}{gi:Rho->Option (List D)}{s:D->Rho->Option Rho}{t:Rho->Option Bool}{ge:Rho->Option D}
structure CInv(X:Cx)(s:D->Rho->Option Rho)(t:Rho->Option Bool)(ge:Rho->Option D)(xs out:List D)(F1:Addr->Prop)(H1:Hp)(D':Addr)(i m:Nat)(σ':L2.St)(H':Hp)(F2:Addr->Prop)(ρ2:Rho)(vs:List V)(don rst:List D):Prop where
 em:m=xs.length-i
 hi:i<=xs.length
 E:Ext F1 F2 H1 H'
 T:Stay X.K F1 F2 H1 H'
 S:StOk X.K F2 H' H1 σ' ρ2
 pl:zB1 ρ2
 dD:H' D'=some (.lst vs)
 nf:¬ F2 D'
 rd:Reps X.K F2 H' don vs
 ec:zDe s t ge (xs.drop i) ρ2=some rst
 eo:don++rst=out
 kp:∀ b o,b≠D'->H1 b=some o->H' b=some o
theorem zIc(kp:zC9 s){σ:L2.St}{H:Hp}{Q:VK}{F:Addr->Prop}{H₀:Hp}{ρ:Rho}{out:List D}(S:StOk X.K F H H₀ σ ρ)(q:zA2 gi s t ge inner ρ=some out)
  (fin:∀ F' H' D' vs,Ext F F' H H'->Stay X.K F F' H H'->H D'=none->H' D'=some (.lst vs)->¬ F' D'->Reps X.K F' H' out vs->StOk X.K F' H' H₀ σ ρ->Q (.ref D') H'):
  zHG (tDI X.K gi) (tDG X.K s) (tDT X.K t) (tD X.K ge) inner σ H Q:=by
 obtain⟨xs,e1,q⟩:=bnd q
 obtain⟨out',e2,q⟩:=bnd q
 by_cases hl:out'.length<=1000
 ·rw [if_pos hl]at q
  cases q
  refine⟨F,H₀,ρ,xs,S,e1,fun F1 H1 J E1 I1 D' hD=>?_⟩
  have S1:=S.ext E1
  refine⟨fun i m σ' H'=>∃ F2 ρ2 vs don rst,CInv X s t ge xs out F1 H1 D' i m σ' H' F2 ρ2 vs don rst,?_,?_⟩
  ·have E2:Ext F1 F1 H1 (upd H1 D' (.lst [])):=Ext.fresh hD
   refine⟨xs.length,F1,zB6 inner ρ,[],[],out,rfl,QN _,E2,E2.stay,?_,zHe inner ρ,zAs,fun f=>S1.fz _ f hD,.nil,e2,rfl,fun b o nb e=>by rw [zAf nb];exact e⟩
   exact(S1.inner inner).plain (zHe inner ρ) E2.stay (E2.fz S1.fz)
  ·rintro i m σ' H' ⟨F2,ρ2,vs,don,rst,rfl,hi,E2,T2,S2,pl,dD,nf,rd,ec,eo,kp2⟩
   obtain⟨it1,it2⟩:=I1 F2 H' T2 S2.fz i
   by_cases hlt:i<xs.length
   ·right
    have hget:xs[i]?=some xs[i]:=by simp [hlt]
    obtain⟨go,yld⟩:=it1 _ hget
    rw [Yb hlt]at ec
    obtain⟨ρ3,e3,ec⟩:=bnd ec
    obtain⟨b,e4,ec⟩:=bnd ec
    refine⟨go,fun x H3 y=>?_⟩
    obtain⟨F3,E3,R3⟩:=yld x H3 y
    have pl3:=kp _ _ _ pl e3
    refine⟨F3,H1,ρ2,xs[i],ρ3,S2.ext E3,R3,e3,fun σ5 S5=>⟨F3,H1,ρ3,b,S5,e4,fun F6 H6 E6=>?_⟩⟩
    have S6:=S5.ext E6
    have E36:=E3.trans E6
    have d6:H6 D'=some (.lst vs):=E36.same _ _ dD
    have nf6:¬ F6 D':=fun f=>by
     rcases E36.new _ f with f | ⟨f,_⟩
     ·exact nf f
     ·rw [dD]at f;cases f
    cases b with
    | false=>
     simp only [Qm,if_false]at ec ⊢
     exact⟨xs.length-(i+1),by lia,F6,ρ3,vs,don,rst,rfl,hlt,E2.trans E36,T2.trans E36.stay,S6,pl3,d6,nf6,rd.stay E36.stay,ec,eo,fun b o nb e=>E36.same _ _ (kp2 b o nb e)⟩
    | true=>
     simp only [if_true]at ec ⊢
     obtain⟨yd,e5,ec⟩:=bnd ec
     obtain⟨r',e6,ec⟩:=bnd ec
     cases ec
     refine⟨F6,H1,ρ3,yd,S6,e5,fun F7 H7 yv E7 R7=>?_⟩
     have E37:=E36.trans E7
     have d7:H7 D'=some (.lst vs):=E37.same _ _ dD
     have nf7:¬ F7 D':=fun f=>by
      rcases E37.new _ f with f | ⟨f,_⟩
      ·exact nf f
      ·rw [dD]at f;cases f
     have T8:Stay X.K F7 F7 H7 (upd H7 D' (.lst (vs++[yv]))):=zPr d7 nf7
     have S7:=S6.ext E7
     have E8:Ext F1 F7 H1 (upd H7 D' (.lst (vs++[yv]))):=(E2.trans E37).turn hD
     have ll:vs.length<1000:=by
      have h1:=rd.length
      have h2:=congrArg List.length eo
      rw [Qv,Qw]at h2
      lia
     refine⟨vs,d7,zDB (YA ll),xs.length-(i+1),by lia,F7,ρ3,vs++[yv],don++[yd],r',rfl,hlt,E8,(T2.trans E37.stay).trans T8,S7.plain pl3 T8 (E8.fz S1.fz),pl3,zAs,nf7,?_,e6,by rw [Yi];exact eo,fun b o nb e=>?_⟩
     ·exact((rd.stay E37.stay).append (.cons R7 .nil)).stay T8
     ·rw [zAf nb];exact E37.same _ _ (kp2 b o nb e)
   ·left
    have hge:xs.length<=i:=Yz hlt
    refine⟨it2 hge,?_⟩
    rw [Y8 hge]at ec
    cases ec
    rw [Q8]at eo
    subst eo
    have hH:H D'=none:=E1.same.free hD
    have EE:Ext F F2 H H':=E1.trans E2
    exact fin F2 H' D' vs EE (E1.stay.trans T2) hH dD nf rd (S.ext EE)
 ·rw [if_neg hl]at q;cases q
theorem zCM(hc:X.calm=true)(CS:zCz X N' scope inner)(kp:zC9 s)(hi:DI X tg iter gi)(hg:∀ cl C fp s' H,DG (inCx X N' scope cl C fp s' H) tg s)(ht:∀ cl C fp s' H,DTs (inCx X N' scope cl C fp s' H) ifs t)(he:∀ cl C fp s' H,DE (inCx X N' scope cl C fp s' H) elt ge)
  (hs:∀ x,foldedSetIterable iter X.env x=pure x:=by intro _;rfl):DE X (.ListComp elt [⟨tg,iter,ifs,0⟩] scope pos) (eLc (zA2 gi s t ge inner)):=
 zAE (zOd (g:=tDG X.K s) (ti:=tDT X.K t) (te:=tD X.K ge) hc CS hi (fun cl C fp s' H=>hg cl C fp s' H) (fun cl C fp s' H=>ht cl C fp s' H) (fun cl C fp s' H=>he cl C fp s' H) hs) fun σ H Q zz=>by
  obtain⟨F,H₀,ρ,d,S,q,k⟩:=zz
  obtain⟨out,e1,q⟩:=bnd q
  cases q
  refine zIc kp S e1 fun F' H' D' vs E' T' h1 h2 h3 h4 h5=>?_
  refine k (fun a=>F' a ∨ a=D') H' _ ⟨E'.same,fun a f=>.inl (E'.up a f),fun a f=>?_⟩ (.lst (.inl ⟨.inr rfl,.inl h2⟩) (h4.stay ⟨fun _ f=>.inl f,fun _ _ f=>f,fun _ _ _ f=>f,fun _ _ _ f=>f⟩))
  rcases f with f | rfl
  ·exact E'.new a f
  ·exact .inr ⟨h1,by rw [h2];simp⟩
theorem zEZ{i:Nat}{y:Str}{py spos:Pos}(hN:X.N.Nodup)(hc:X.calm=true)(CS:zCz X N' scope inner)(kp:zC9 s)(hi:DI X tg iter gi)(hg:∀ cl C fp s' H,DG (inCx X N' scope cl C fp s' H) tg s)(ht:∀ cl C fp s' H,DTs (inCx X N' scope cl C fp s' H) ifs t)(he:∀ cl C fp s' H,DE (inCx X N' scope cl C fp s' H) elt ge)
  (hsw:swapsWith (.ListComp elt [⟨tg,iter,ifs,0⟩] scope pos) (some (.Name y py)) spos.line X.env=pure true:=by rfl) (hy:X.N[i]?=some y:=by rfl) (hx:L2.Loc X.env.scope y:=by first | exact Or.inl rfl | exact Or.inr rfl) (hf:X.fn y=true ∨ X.env.scope.names.lookup y=some .local:=by first | exact .inl rfl | exact .inr rfl | assumption)
  (hs:∀ x,foldedSetIterable iter X.env x=pure x:=by intro _;rfl):DS X (.Assign [.Name y py] (.ListComp elt [⟨tg,iter,ifs,0⟩] scope pos) spos) (sSet i (eLc (zA2 gi s t ge inner))):=
 ps_mono (zOw (g:=tDG X.K s) (ti:=tDT X.K t) (te:=tD X.K ge) hN hc CS hi (fun cl C fp s' H=>hg cl C fp s' H) (fun cl C fp s' H=>ht cl C fp s' H) (fun cl C fp s' H=>he cl C fp s' H) hsw hy hx hf hs) fun W σ H zz=>by
  obtain⟨F₀,H₀,F,ρ,o,E,S,q,k⟩:=zz
  obtain⟨d,e1,q⟩:=bnd q
  cases q
  obtain⟨out,e2,q⟩:=bnd e1
  cases q
  refine zIc kp S e2 fun F' H' D' vs E' T' h1 h2 h3 h4 h5=>?_
  have T9:Stay X.K F' (fun a=>F' a ∨ a=D') H' H':=⟨fun _ f=>.inl f,fun _ _ f=>f,fun _ _ _ f=>f,fun _ _ _ f=>f⟩
  have E9:Ext F (fun a=>F' a ∨ a=D') H H':=⟨E'.same,fun a f=>.inl (E'.up a f),fun a f=>by
   rcases f with f | rfl
   ·exact E'.new a f
   ·exact .inr ⟨h1,by rw [h2];simp⟩⟩
  exact k _ H' _ (E.trans E9) (T'.trans T9) ((S.ext E9).put (.lst (.inl ⟨.inr rfl,.inl h2⟩) (h4.stay T9)))
end
end DL
namespace SD
open PySem PySem.Spec PySem.SeqAt PyProof.Rows L2 DL SG
theorem zDl:∀ a:List Int,HT.lexLt a a=false
 | []=>rfl
 | x::xs=>by rw [HT.lexLt_cons,if_pos rfl];exact zDl xs
theorem zFb:∀ a b c:List Int,HT.lexLt a b=true->HT.lexLt b c=true->HT.lexLt a c=true
 | [],b,[],h1,h2=>by cases b with | nil=>cases h1 | cons _ _=>cases h2
 | [],_,_::_,_,_=>rfl
 | _::_,[],_,h1,_=>by cases h1
 | _::_,_::_,[],_,h2=>by cases h2
 | x::xs,y::ys,z::zs,h1,h2=>by
  rw [HT.lexLt_cons]at h1 h2 ⊢
  by_cases c1:x=y
  ·subst c1
   rw [if_pos rfl]at h1
   by_cases c2:x=z
   ·subst c2
    rw [if_pos rfl]at h2 ⊢
    exact zFb xs ys zs h1 h2
   ·rw [if_neg c2]at h2 ⊢;exact h2
  ·rw [if_neg c1]at h1
   have g1:x<y:=of_decide_eq_true h1
   by_cases c2:y=z
   ·subst c2
    rw [if_neg c1];exact decide_eq_true g1
   ·rw [if_neg c2]at h2
    have g2:y<z:=of_decide_eq_true h2
    rw [if_neg (by lia)]
    exact decide_eq_true (by lia)
theorem zEf:∀ a b:List Int,HT.lexLt a b=false->HT.lexLt b a=false->a=b
 | [],[],_,_=>rfl
 | [],_::_,h1,_=>by cases h1
 | _::_,[],_,h2=>by cases h2
 | x::xs,y::ys,h1,h2=>by
  rw [HT.lexLt_cons]at h1 h2
  by_cases c:x=y
  ·subst c
   rw [if_pos rfl]at h1 h2
   rw [zEf xs ys h1 h2]
  ·rw [if_neg c]at h1
   rw [if_neg (Ne.symm c)]at h2
   have g1:¬ x<y:=of_decide_eq_false h1
   have g2:¬ y<x:=of_decide_eq_false h2
   lia
theorem zJn(a b c:List Int)(h:HT.lexLt a c=true):HT.lexLt a b=true ∨ HT.lexLt b c=true:=by
 cases e1:HT.lexLt a b with
 | true=>exact .inl rfl
 | false=>
  right
  cases e2:HT.lexLt b a with
  | false=>rw [<- zEf a b e1 e2];exact h
  | true=>exact zFb b a c e2 h
theorem zGU:∀(a b c d:List Int),a.length=b.length->HT.lexLt (a++c) (b++d)=if a=b then HT.lexLt c d else HT.lexLt a b
 | [],[],c,d,_=>by simp
 | [],_::_,_,_,h=>by simp at h
 | _::_,[],_,_,h=>by simp at h
 | x::xs,y::ys,c,d,h=>by
  rw [List.cons_append,List.cons_append,HT.lexLt_cons]
  have ih:=zGU xs ys c d (by simpa using h)
  by_cases e:x=y
  ·subst e
   rw [if_pos rfl,ih,HT.lexLt_cons,if_pos rfl]
   simp
  ·rw [if_neg e,if_neg (by simp [e]),HT.lexLt_cons,if_neg e]
def keyT(tab:List (Value × List Int)):PyProof.Rows.KeyKind where
 α:=List Int
 blt:=HT.lexLt
 irrefl:=zDl
 trans:=zFb
 negTrans:=zJn
 total:=zEf
 keyOf:=fun v=>tab.lookup v
 dflt:=[]
def zBv:D->D->Bool
 | .int _,.int _=>true
 | .tuple xs,.tuple ys=>decide (xs.length=ys.length)
 | _,_=>false
def zBg:List D->List D->Bool
 | [],[]=>true
 | x::xs,y::ys=>zBv x y && zBg xs ys
 | _,_=>false
def zCO:D->Option (List Int)
 | .int i=>some [i]
 | .tuple ds=>zAK ds
 | _=>none
def zBt:List D->Option (List Int)
 | []=>some []
 | d::ds=>(zCO d).bind fun a=>(zBt ds).bind fun b=>some (a++b)
theorem zM6{d x y:D}(h1:zBv d x=true)(h2:zBv d y=true):zBv x y=true:=by
 cases d with
 | int i=>
  cases x with
  | int _=>cases y with
   | int _=>rfl
   | _=>cases h2
  | _=>cases h1
 | tuple ds=>
  cases x with
  | tuple xs=>cases y with
   | tuple ys=>
    have a:ds.length=xs.length:=of_decide_eq_true h1
    have b:ds.length=ys.length:=of_decide_eq_true h2
    exact decide_eq_true (a.symm.trans b)
   | _=>cases h2
  | _=>cases h1
 | _=>cases x <;> cases h1
theorem zFd:∀{d x y:List D},zBg d x=true->zBg d y=true->zBg x y=true
 | [],[],[],_,_=>rfl
 | [],[],_::_,_,h=>by cases h
 | [],_::_,_,h,_=>by cases h
 | _::_,[],_,h,_=>by cases h
 | _::_,_::_,[],_,h=>by cases h
 | d::ds,x::xs,y::ys,h1,h2=>by
  have a:=QF.mp h1
  have b:=QF.mp h2
  exact QF.mpr ⟨zM6 a.1 b.1,zFd a.2 b.2⟩
theorem zJa:∀{xs ys:List D}{a b:List Int},zAK xs=some a->zAK ys=some b->PyData.eqvAll xs ys=decide (a=b)
 | [],[],_,_,h1,h2=>by cases h1;cases h2;rfl
 | [],.int _::_,_,_,h1,h2=>by
  cases h1
  obtain⟨_,_,h2⟩:=bnd h2
  cases h2
  simp [PyData.eqvAll]
 | .int _::_,[],_,_,h1,h2=>by
  cases h2
  obtain⟨_,_,h1⟩:=bnd h1
  cases h1
  simp [PyData.eqvAll]
 | .int i::xs,.int j::ys,_,_,h1,h2=>by
  obtain⟨a,e1,h1⟩:=bnd h1
  obtain⟨b,e2,h2⟩:=bnd h2
  cases h1;cases h2
  rw [PyData.eqvAll,zJa e1 e2]
  simp [PyData.eqv]
  by_cases c:i=j <;> simp [c]
 | .none::_,_,_,_,h1,_=>by cases h1
 | .bool _::_,_,_,_,h1,_=>by cases h1
 | .str _::_,_,_,_,h1,_=>by cases h1
 | .list _::_,_,_,_,h1,_=>by cases h1
 | .tuple _::_,_,_,_,h1,_=>by cases h1
 | .dict _::_,_,_,_,h1,_=>by cases h1
 | _,.none::_,_,_,_,h2=>by cases h2
 | _,.bool _::_,_,_,_,h2=>by cases h2
 | _,.str _::_,_,_,_,h2=>by cases h2
 | _,.list _::_,_,_,_,h2=>by cases h2
 | _,.tuple _::_,_,_,_,h2=>by cases h2
 | _,.dict _::_,_,_,_,h2=>by cases h2
theorem zCm:∀{xs:List D}{a:List Int},zAK xs=some a->PyData.canLayAll0 xs=true/\PyData.depthAll xs=0/\xs.length=a.length/\xs=a.map PyData.int
 | [],_,h=>by cases h;exact⟨rfl,rfl,rfl,rfl⟩
 | .int i::xs,_,h=>by
  obtain⟨a,e,h⟩:=bnd h
  cases h
  obtain⟨h1,h2,h3,h4⟩:=zCm e
  exact⟨by simp [PyData.canLayAll0,PyData.canLay0,h1],by simp [PyData.depthAll,PyData.depth,h2],by simp [h3],by rw [h4];rfl⟩
 | .none::_,_,h=>by cases h
 | .bool _::_,_,h=>by cases h
 | .str _::_,_,h=>by cases h
 | .list _::_,_,h=>by cases h
 | .tuple _::_,_,h=>by cases h
 | .dict _::_,_,h=>by cases h
theorem zGR{h:Heap}:∀{xs:List D}{a:List Int}{us:List Value}{as:List Addr},zAK xs=some a->ReadsAll h us xs as->IntsAre us a
 | [],_,_,_,e,r=>by cases e;cases r;exact .nil
 | .int i::xs,_,_,_,e,r=>by
  obtain⟨a,e1,e⟩:=bnd e
  cases e
  cases r with
  | cons r1 r2=>
   cases r1
   exact .cons i _ (zGR e1 r2)
 | .none::_,_,_,_,h,_=>by cases h
 | .bool _::_,_,_,_,h,_=>by cases h
 | .str _::_,_,_,_,h,_=>by cases h
 | .list _::_,_,_,_,h,_=>by cases h
 | .tuple _::_,_,_,_,h,_=>by cases h
 | .dict _::_,_,_,_,h,_=>by cases h
section
variable {prog:Program}{w:World}{A:Around}{E:Value->Shared->Prop}{s:Shared}
theorem zIC{x y:D}{a b:List Int}(l:zBv x y=true)(fx:zCO x=some a)(fy:zCO y=some b):a.length=b.length:=by
 cases x with
 | int i=>cases y with
  | int j=>cases fx;cases fy;rfl
  | _=>cases l
 | tuple xs=>cases y with
  | tuple ys=>
   have e:xs.length=ys.length:=of_decide_eq_true l
   rw [<- (zCm (show zAK xs=some a from fx)).2.2.1,<- (zCm (show zAK ys=some b from fy)).2.2.1,e]
  | _=>cases l
 | _=>cases y <;> cases l
theorem el_eq{x y:D}{p q:Value}{a b:List Int}{as bs:List Addr}(hu:A.units+64<cLine)(rp:Reads s.heap p x as)(rq:Reads s.heap q y bs)(l:zBv x y=true)(fx:zCO x=some a)(fy:zCO y=some b):EqAt A s p q (decide (a=b)):=by
 cases x with
 | int i=>cases y with
  | int j=>
   cases fx;cases fy
   cases rp with
   | int _ t=>cases rq with
    | int _ u=>
     have:=EqAt.int_int (A:=A) (s:=s) i t j u
     have e:(i == j)=decide ([i]=[j]):=by
      by_cases c:i=j
      ·subst c;simp
      ·simp [c]
     rw [<- e];exact this
  | _=>cases l
 | tuple xs=>cases y with
  | tuple ys=>
   have e1:zAK xs=some a:=fx
   have e2:zAK ys=some b:=fy
   obtain⟨c1,d1,_,_⟩:=zCm e1
   obtain⟨c2,d2,_,_⟩:=zCm e2
   have:=eqAt_reads (.tuple xs) (.tuple ys) A s p q as bs rp rq c1 c2 (by show A.units+min (PyData.depthAll xs+1) (PyData.depthAll ys+1)<cLine;rw [d1,d2];lia)
   have e:PyData.eqv (.tuple xs) (.tuple ys)=decide (a=b):=by rw [PyData.eqv];exact zJa e1 e2
   rw [e]at this
   exact this
  | _=>cases l
 | _=>cases y <;> cases l
theorem zKK{b:Bool}{Q:Bool->Shared->Prop}(h:Q b s):wpAny (model prog w) A (truthOfDropped (.bool b)) Q E s:=by
 unfold truthOfDropped
 exact YC h
theorem el_lt{x y:D}{p q:Value}{a b:List Int}{as bs:List Addr}{f:Bool}{Q:Bool->Shared->Prop}(hu:A.units+64<cLine)(rp:Reads s.heap p x as)(rq:Reads s.heap q y bs)(l:zBv x y=true)(fx:zCO x=some a)(fy:zCO y=some b)
  (hf:f=true->∃ i,x=.int i) (k:Q (HT.lexLt a b) s) (ne:a≠b):wpAny (model prog w) A (oneLt' f p q) Q E s:=by
 cases x with
 | int i=>cases y with
  | int j=>
   cases fx;cases fy;cases rp;cases rq
   have e:HT.lexLt [i] [j]=decide (i<j):=by
    rw [HT.lexLt_cons,if_neg (by intro z;exact ne (by rw [z]))]
   rw [e]at k
   cases f with
   | true=>exact oneLt_int k
   | false=>
    rw [oneLt'_eq]
    simp only [Qm,if_false]
    refine Qa (HT.rcLt_int A s i _ j _ prog w E _ (zKK k))
  | _=>cases l
 | tuple xs=>
  cases f with
  | true=>obtain⟨i,hi⟩:=hf rfl;cases hi
  | false=>cases y with
   | tuple ys=>
    have e1:zAK xs=some a:=fx
    have e2:zAK ys=some b:=fy
    cases rp with
    | tuple h1 h2 h3 h4=>cases rq with
     | tuple g1 g2 g3 g4=>
      rw [oneLt'_eq]
      simp only [Qm,if_false]
      exact Qa (HT.lt_tupInts ⟨_,h1,h2,_,h3⟩ ⟨_,g1,g2,_,g3⟩ (zGR e1 h4) (zGR e2 g4) (by lia) (zKK k))
   | _=>cases l
 | _=>cases y <;> cases l
theorem zKd{b:Bool}{fin:Bool}{Q:Bool->Shared->Prop}(hu:A.units+64<cLine):∀{xs ys:List D}{a c:List Int}{us vs:List Value}{as bs:List Addr} (i:Nat),zBg xs ys=true->zBt xs=some a->zBt ys=some c->ReadsAll s.heap us xs as->ReadsAll s.heap vs ys bs->
  (b=true->i=0->∀ x r,xs=x::r->∃ n,x=.int n)->(a=c->Q fin s)->(a≠c->Q (HT.lexLt a c) s)->PySem.W.KatLex prog w A b fin Q (us.zip vs) i s
 | [],[],_,_,_,_,_,_,i,_,f1,f2,r1,r2,_,k1,k2=>by
  cases f1;cases f2;cases r1;cases r2
  exact PySem.W.kat_nil (k1 rfl)
 | [],_::_,_,_,_,_,_,_,_,l,_,_,_,_,_,_,_=>by cases l
 | _::_,[],_,_,_,_,_,_,_,l,_,_,_,_,_,_,_=>by cases l
 | x::xs,y::ys,_,_,_,_,_,_,i,l,f1,f2,r1,r2,hb,k1,k2=>by
  obtain⟨a1,e1,f1⟩:=bnd f1
  obtain⟨a2,e2,f1⟩:=bnd f1
  cases f1
  obtain⟨c1,e3,f2⟩:=bnd f2
  obtain⟨c2,e4,f2⟩:=bnd f2
  cases f2
  obtain⟨l1,l2⟩:=QF.mp l
  have hlen:=zIC l1 e1 e3
  cases r1 with
  | cons p1 p2=>cases r2 with
   | cons q1 q2=>
    rw [List.zip_cons_cons]
    refine PySem.W.kat_cons (el_eq hu p1 q1 l1 e1 e3 prog w _ _ ?_)
    by_cases c:a1=c1
    ·rw [decide_eq_true c]
     subst c
     refine PySem.W.kat_yes (zKd hu (i+1) l2 e2 e4 p2 q2 (fun _ h=>by lia) (fun e=>k1 (by rw [e])) fun e=>?_)
     have:=k2 (fun z=>e (List.append_cancel_left z))
     rw [zGU _ _ _ _ rfl,if_pos rfl]at this
     exact this
    ·rw [decide_eq_false c]
     refine PySem.W.kat_no (el_lt hu p1 q1 l1 e1 e3 (fun hf=>?_) ?_ c)
     ·obtain⟨g1,g2⟩:=QF.mp hf
      exact hb g1 (by simpa using g2) x xs rfl
     ·have ne:a1++a2≠c1++c2:=fun z=>c (List.append_inj_left z hlen)
      have:=k2 ne
      rw [zGU _ _ _ _ hlen,if_neg c]at this
      exact this
theorem zGX{α:Type}{f:Value->Sem α}{g:Value->α}:∀{vs:List Value}{Q:List α->Shared->Prop},(∀ v∈vs,∀(R:α->Shared->Prop),R (g v) s->wpAny (model prog w) A (f v) R E s)->Q (vs.map g) s->wpAny (model prog w) A (vs.mapM f) Q E s
 | [],_,_,k=>by rw [List.mapM_nil];exact Qb k
 | v::vs,Q,h,k=>by
  rw [List.mapM_cons]
  refine Qa (h v Qj _ (Qa (zGX (fun u hu=>h u (Qe _ hu)) (Qb k))))
def isInt:D->Bool
 | .int _=>true
 | _=>false
def zBE(h:Heap):Value->Option Value
 | .ref a=>match h.get? a with
  | some o=>match o.data with
   | .seq xs _=>xs[0]?
   | _=>none
  | none=>none
 | _=>none
def tyE:Value->Value
 | .ref _=>.type "tuple"
 | _=>.type "int"
theorem zMh(v:Value):firstOfTuple' v=(typeOf v >>= fun t=>if(t != .type "tuple")=true then pure none else Builtin.List.listItems v >>= fun xs=>pure xs[0]?):=by
 unfold firstOfTuple'
 rfl
theorem zMX{vs:List Value}{bi:Bool}{d:D}(hd:isInt d=bi)(hR:∀ v∈vs,∃ x xs as,Reads s.heap v (.tuple (x::xs)) as/\zBv d x=true)(hne:vs≠[]):
  wpAny (model prog w) A (keyKind' vs.toArray) (fun q s'=>q=tuples' bi/\s'=s) E s:=by
 rw [keyKind'_eq,List.mapM_toArray,map_eq_pure_bind]
 refine Qa (Qa (zGX (g:=fun v=>zBE s.heap v) (fun v hv R hR'=>?_) (Qb ?_)))
 ·obtain⟨x,xs,as,r,_⟩:=hR v hv
  cases r with
  | @tuple a o us n _ _ h1 h2 h3 h4=>
   rw [zMh]
   refine Qa (YI (T:="tuple") ⟨o,h1,h2⟩ ?_)
   have e:(Value.type "tuple" != Value.type "tuple")=false:=by simp
   rw [if_neg (by rw [e];simp)]
   refine Qa (listItems_at h1 h3 (Qb ?_))
   have e2:zBE s.heap (.ref a)=us[0]?:=by
    show(match s.heap.get? a with | some o=>(match o.data with | .seq xs _=>xs[0]? | _=>none) | none=>none)=us[0]?
    rw [h1]
    show(match o.data with | .seq xs _=>xs[0]? | _=>none)=us[0]?
    rw [h3]
   rw [e2]at hR'
   exact hR'
 ·have fst:∀ v∈vs,∃ u x as,zBE s.heap v=some u/\Reads s.heap u x as/\zBv d x=true:=fun v hv=>by
   obtain⟨x,xs,as,r,l⟩:=hR v hv
   cases r with
   | @tuple a o us n _ _ h1 h2 h3 h4=>
    have e2:zBE s.heap (.ref a)=us[0]?:=by
     show(match s.heap.get? a with | some o=>(match o.data with | .seq xs _=>xs[0]? | _=>none) | none=>none)=us[0]?
     rw [h1]
     show(match o.data with | .seq xs _=>xs[0]? | _=>none)=us[0]?
     rw [h3]
    generalize hl:us.toList=ul at h4
    cases h4 with
    | @cons u vs' _ _ as' bs' r1 r2=>
     refine⟨u,x,as',?_,r1,l⟩
     rw [e2,<- QA,hl]
     rfl
  have ty:∀ u x as,Reads s.heap u x as->zBv d x=true->tyE u=(if bi=true then .type "int" else .type "tuple")/\∀(R:Value->Shared->Prop),R (tyE u) s->wpAny (model prog w) A (typeOf u) R E s:=fun u x as r l=>by
   cases d with
   | int i=>
    cases x with
    | int j=>cases r;cases hd;exact⟨rfl,fun R k=>YI (T:="int") (typeIs_int s _ _) k⟩
    | _=>cases l
   | tuple ds=>
    cases x with
    | tuple xs=>
     cases r with
     | tuple h1 h2 h3 h4=>cases hd;exact⟨rfl,fun R k=>YI (T:="tuple") ⟨_,h1,h2⟩ k⟩
    | _=>cases l
   | _=>cases x <;> cases l
  have all:((vs.map fun v=>zBE s.heap v).toArray.all fun x=>x.isSome)=true:=by
   rw [List.all_toArray,List.all_map,Ye]
   intro v hv
   obtain⟨u,x,as,e,_⟩:=fst v hv
   simp [e]
  rw [if_pos all]
  refine Qa (wpAny_rule (Qa ?_))
  rw [oneTypeOnly'_eq]
  have ef:((vs.map fun v=>zBE s.heap v).toArray.filterMap id)=(vs.filterMap fun v=>zBE s.heap v).toArray:=by
   rw [List.filterMap_toArray,List.filterMap_map]
   rfl
  rw [ef,List.mapM_toArray,map_eq_pure_bind]
  have mem:∀ u∈vs.filterMap (fun v=>zBE s.heap v),∃ x as,Reads s.heap u x as/\zBv d x=true:=fun u hu=>by
   obtain⟨v,hv,e⟩:=List.mem_filterMap.mp hu
   obtain⟨u',x,as,e',r,l⟩:=fst v hv
   rw [e]at e';cases e'
   exact⟨x,as,r,l⟩
  refine Qa (Qa (zGX (g:=tyE) (fun u hu R k=>?_) (Qb ?_)))
  ·obtain⟨x,as,r,l⟩:=mem u hu
   exact(ty u x as r l).2 R k
  ·obtain⟨v0,vs',rfl⟩:∃ v0 vs',vs=v0::vs':=by
    cases vs with
    | nil=>exact absurd rfl hne
    | cons a b=>exact⟨a,b,rfl⟩
   obtain⟨u0,x0,as0,e0,r0,l0⟩:=fst v0 Qj
   have em:∀ t∈((v0::vs').filterMap (fun v=>zBE s.heap v)).map tyE,t=(if bi=true then .type "int" else .type "tuple"):=fun t ht=>by
    obtain⟨u,hu,rfl⟩:=QK.mp ht
    obtain⟨x,as,r,l⟩:=mem u hu
    exact(ty u x as r l).1
   have e1:(((v0::vs').filterMap (fun v=>zBE s.heap v)).map tyE).toArray[0]?=some (if bi=true then .type "int" else .type "tuple"):=by
    rw [Jg,e0]
    simp only [Qq]
    rw [(ty u0 x0 as0 r0 l0).1]
    rfl
   rw [e1]
   have e2:((((v0::vs').filterMap (fun v=>zBE s.heap v)).map tyE).toArray.all fun x=>x == (if bi=true then .type "int" else .type "tuple"))=true:=by
    rw [List.all_toArray,Ye]
    intro t ht
    rw [em t ht]
    simp
   dsimp only
   rw [if_pos e2]
   refine Qb (Qb ⟨?_,rfl⟩)
   cases bi <;> rfl
end
end SD
namespace SD
open PySem PySem.Spec PySem.SeqAt PyProof.Rows L2 DL SG
abbrev KD:=List Int × D
def rowK(d0:List D):D->Option (List Int)
 | .tuple (x::xs)=>if zBg d0 (x::xs)=true then zBt (x::xs)else none
 | _=>none
def zA9(d0:List D):List D->Option (List KD)
 | []=>some []
 | d::ds=>(rowK d0 d).bind fun k=>(zA9 d0 ds).bind fun r=>some ((k,d)::r)
def insK(p:KD):List KD->List KD
 | []=>[p]
 | q::r=>if HT.lexLt q.1 p.1=true then q::insK p r else p::q::r
def zA6:List KD->List KD
 | []=>[]
 | p::r=>insK p (zA6 r)
def zBC:List D->Option D
 | [.list []]=>some (.list [])
 | [.list (.tuple d0::ds)]=>if ds.length<63 then(zA9 d0 (.tuple d0::ds)).bind fun l=>some (.list ((zA6 l).map (·.2)))else none
 | _=>none
def Le(p q:KD):Prop:=HT.lexLt q.1 p.1=false
theorem Le.trans{p q r:KD}(a:Le p q)(b:Le q r):Le p r:=by
 unfold Le at *
 cases e:HT.lexLt r.1 p.1 with
 | false=>rfl
 | true=>
  rcases zJn _ q.1 _ e with h | h
  ·rw [b]at h;cases h
  ·rw [a]at h;cases h
theorem zGQ(p:KD):∀ l:List KD,(insK p l).Perm (p::l)
 | []=>.refl _
 | q::r=>by
  unfold insK
  split
  ·exact((zGQ p r).cons q).trans (.swap p q r)
  ·exact .refl _
theorem zDC:∀ l:List KD,(zA6 l).Perm l
 | []=>.refl _
 | p::r=>(zGQ p (zA6 r)).trans ((zDC r).cons p)
theorem zI7(p:KD):∀ l:List KD,l.Pairwise Le->(insK p l).Pairwise Le
 | [],_=>by simp [insK]
 | q::r,h=>by
  obtain⟨h1,h2⟩:=QV.mp h
  unfold insK
  split
  ·rename_i c
   refine QV.mpr ⟨fun z hz=>?_,zI7 p r h2⟩
   rcases Qh.mp ((zGQ p r).mem_iff.mp hz)with e | e
   ·subst e
    unfold Le
    cases e2:HT.lexLt z.1 q.1 with
    | false=>rfl
    | true=>have:=zFb _ _ _ c e2;rw [zDl]at this;cases this
   ·exact h1 z e
  ·rename_i c
   have pq:Le p q:=by simpa [Le]using c
   refine QV.mpr ⟨fun z hz=>?_,h⟩
   rcases Qh.mp hz with e | e
   ·rw [e];exact pq
   ·exact pq.trans (h1 z e)
theorem zEB:∀ l:List KD,(zA6 l).Pairwise Le
 | []=>.nil
 | p::r=>zI7 p _ (zEB r)
theorem zHC:∀{a b:List KD},a.Perm b->a.Pairwise Le->b.Pairwise Le->(∀ p∈a,∀ q∈a,p.1=q.1->p=q)->a=b
 | [],b,h,_,_,_=>h.nil_eq
 | x::r,[],h,_,_,_=>absurd h.length_eq (by simp)
 | x::r,y::t,h,ha,hb,inj=>by
  have hy:y∈x::r:=h.mem_iff.mpr Qj
  have hx:x∈y::t:=h.mem_iff.mp Qj
  have e:x=y:=by
   refine inj x Qj y hy (zEf _ _ ?_ ?_)
   ·rcases Qh.mp hx with c | c
    ·rw [c];exact zDl _
    ·exact(QV.mp hb).1 x c
   ·rcases Qh.mp hy with c | c
    ·rw [c];exact zDl _
    ·exact(QV.mp ha).1 y c
  subst e
  rw [zHC h.cons_inv (QV.mp ha).2 (QV.mp hb).2 fun p hp q hq=>inj p (Qe _ hp) q (Qe _ hq)]
theorem zOg{α β:Type}{f:α->β}{a b:List β}(h:a.Perm b):∀ l:List α,l.map f=a->∃ l':List α,l'.Perm l/\l'.map f=b:=by
 induction h with
 | nil=>intro l e;exact⟨l,.refl _,e⟩
 | cons x _ ih=>
  intro l e
  cases l with
  | nil=>cases e
  | cons y l=>
   rw [Qq]at e
   injection e with e1 e2
   obtain⟨l',p,q⟩:=ih l e2
   exact⟨y::l',p.cons y,by rw [Qq,e1,q]⟩
 | swap x y r=>
  intro l e
  match l,e with
  | a::b::l,e=>
   rw [Qq,Qq]at e
   injection e with e1 e2
   injection e2 with e2 e3
   exact⟨b::a::l,.swap a b l,by rw [Qq,Qq,e1,e2,e3]⟩
 | trans _ _ ih1 ih2=>
  intro l e
  obtain⟨l1,p1,q1⟩:=ih1 l e
  obtain⟨l2,p2,q2⟩:=ih2 l1 q1
  exact⟨l2,p2.trans p1,q2⟩
theorem zIA:∀{xs ys:List D}{a:List Int},zBg xs ys=true->zBt xs=some a->zBt ys=some a->xs=ys
 | [],[],_,_,_,_=>rfl
 | [],_::_,_,l,_,_=>by cases l
 | _::_,[],_,l,_,_=>by cases l
 | x::xs,y::ys,a,l,f1,f2=>by
  obtain⟨a1,e1,f1⟩:=bnd f1
  obtain⟨a2,e2,f1⟩:=bnd f1
  obtain⟨c1,e3,f2⟩:=bnd f2
  obtain⟨c2,e4,f2⟩:=bnd f2
  obtain⟨l1,l2⟩:=QF.mp l
  have hl:=zIC l1 e1 e3
  have ee:a1++a2=c1++c2:=(Qy f1).trans (Qy f2).symm
  obtain⟨g1,g2⟩:=List.append_inj ee hl
  subst g1 g2
  rw [zIA l2 e2 e4]
  congr 1
  cases x with
  | int i=>cases y with
   | int j=>cases e1;cases e3;rfl
   | _=>cases l1
  | tuple us=>cases y with
   | tuple vs=>rw [(zCm (show zAK us=some a1 from e1)).2.2.2,(zCm (show zAK vs=some a1 from e3)).2.2.2]
   | _=>cases l1
  | _=>cases y <;> cases l1
theorem zGr:∀{xs:List D}{a:List Int},zBt xs=some a->PyData.canLayAll0 xs=true
 | [],_,_=>rfl
 | x::xs,a,f=>by
  obtain⟨a1,e1,f⟩:=bnd f
  obtain⟨a2,e2,f⟩:=bnd f
  have h2:=zGr e2
  have h1:PyData.canLay0 x=true:=by
   cases x with
   | int i=>rfl
   | tuple us=>exact(zCm (show zAK us=some a1 from e1)).1
   | _=>cases e1
  simp [PyData.canLayAll0,h1,h2]
theorem zCZ{d0:List D}{d:D}{k:List Int}(h:rowK d0 d=some k):∃ x xs,d=.tuple (x::xs)/\zBg d0 (x::xs)=true/\zBt (x::xs)=some k:=by
 cases d with
 | tuple ds=>
  cases ds with
  | nil=>cases h
  | cons x xs=>
   have h':(if zBg d0 (x::xs)=true then zBt (x::xs)else none)=some k:=h
   by_cases c:zBg d0 (x::xs)=true
   ·rw [if_pos c]at h';exact⟨x,xs,rfl,c,h'⟩
   ·rw [if_neg c]at h';cases h'
 | _=>cases h
theorem zDv{d0:List D}{d e:D}{k:List Int}(h1:rowK d0 d=some k)(h2:rowK d0 e=some k):d=e:=by
 obtain⟨x,xs,rfl,l1,f1⟩:=zCZ h1
 obtain⟨y,ys,rfl,l2,f2⟩:=zCZ h2
 rw [zIA (zFd l1 l2) f1 f2]
theorem zHq{d0:List D}:∀{ds:List D}{l:List KD},zA9 d0 ds=some l->l.map (·.2)=ds/\∀ p∈l,rowK d0 p.2=some p.1
 | [],_,h=>by cases h;exact⟨rfl,fun p hp=>nomatch hp⟩
 | d::ds,_,h=>by
  obtain⟨k,e1,h⟩:=bnd h
  obtain⟨r,e2,h⟩:=bnd h
  cases h
  obtain⟨h1,h2⟩:=zHq e2
  refine⟨by rw [Qq,h1],fun p hp=>?_⟩
  rcases Qh.mp hp with e | e
  ·rw [e];exact e1
  ·exact h2 p e
abbrev Tr:=KD × V × Value
section
variable {X:Cx}{pins:List (Addr × Obj)}{σ:L2.St}{H:Hp}{s:Shared}{F:Addr->Prop}
theorem zKI{K:PySem.W.Frag}:∀{l:List KD}{vs:List V}{us:List Value},Reps K F H (l.map (·.2)) vs->L2.Vals vs us->∃ T:List Tr,T.map (·.1)=l/\T.map (·.2.1)=vs/\T.map (·.2.2)=us/\∀ t∈T,Rep K F H t.1.2 t.2.1/\L2.RelV t.2.1 t.2.2
 | [],_,_,r,v=>by cases r;cases v;exact⟨[],rfl,rfl,rfl,fun t ht=>nomatch ht⟩
 | p::l,_,_,r,v=>by
  cases r with
  | cons r1 r2=>cases v with
   | cons v1 v2=>
    obtain⟨T,h1,h2,h3,h4⟩:=zKI (l:=l) r2 v2
    refine⟨(p,_,_)::T,by rw [Qq,h1],by rw [Qq,h2],by rw [Qq,h3],fun t ht=>?_⟩
    rcases Qh.mp ht with e | e
    ·rw [e];exact⟨r1,v1⟩
    ·exact h4 t e
theorem zKJ{K:PySem.W.Frag}:∀{T:List Tr},(∀ t∈T,Rep K F H t.1.2 t.2.1/\L2.RelV t.2.1 t.2.2)->Reps K F H (T.map (·.1.2)) (T.map (·.2.1))/\L2.Vals (T.map (·.2.1)) (T.map (·.2.2))
 | [],_=>⟨.nil,.nil⟩
 | t::T,h=>by
  obtain⟨h1,h2⟩:=h t Qj
  obtain⟨g1,g2⟩:=zKJ fun u hu=>h u (Qe _ hu)
  exact⟨.cons h1 g1,.cons h2 g2⟩
theorem zFV:∀{T:List Tr}{v:Value}{k:List Int},(T.map fun t=>(t.2.2,t.1.1)).lookup v=some k->∃ t∈T,t.2.2=v/\t.1.1=k
 | [],_,_,h=>by cases h
 | t::T,v,k,h=>by
  rw [Qq,QJ]at h
  cases e:v == t.2.2 with
  | true=>rw [e]at h;cases h;exact⟨t,Qj,(Yj e).symm,rfl⟩
  | false=>
   rw [e]at h
   obtain⟨u,hu,h1,h2⟩:=zFV h
   exact⟨u,Qe _ hu,h1,h2⟩
theorem zKH:∀{T:List Tr}{t:Tr},t∈T->∃ k,(T.map fun t=>(t.2.2,t.1.1)).lookup t.2.2=some k:=by
 intro T
 induction T with
 | nil=>intro t h;cases h
 | cons u T ih=>
  intro t h
  rw [Qq,QJ]
  cases e:t.2.2 == u.2.2 with
  | true=>exact⟨_,rfl⟩
  | false=>
   rcases Qh.mp h with z | z
   ·rw [z,beq_self_eq_true]at e;cases e
   ·exact ih z
theorem zKA{d0:List D}{its:List Value}{ds:List D}{vs:List V}{l:List KD}{Q:VK}(hu:X.A.units+66<cLine)(I:L2.Inv X pins σ H s)(rv:L2.Vals vs its)(r:Reps X.K F H ds vs)(hk:zA9 d0 ds=some l)(h64:ds.length<64)
  (k:∀ p vs',H p=none->Reps X.K F H ((zA6 l).map (·.2)) vs'->vs'.length<=1000->Q (.ref p) (upd H p (.lst vs'))):wpAny (model X.prog X.w) X.A.in1 (newList its >>= fun l=>holding [l] (call (.builtin "list.sort") [l] []) >>= fun _=>ret l) (fun fin s'=>∃ v,fin=.done (.ret v)/\EP X pins σ Q v s') X.xe s:=by
 obtain⟨em,hrow⟩:=zHq hk
 obtain⟨T,t1,t2,t3,t4⟩:=zKI (K:=X.K) (F:=F) (H:=H) (l:=l) (by rw [em];exact r) rv
 have rowT:∀ t∈T,rowK d0 t.1.2=some t.1.1:=fun t ht=>hrow t.1 (by rw [<- t1];exact List.mem_map_of_mem ht)
 have l64:its.length<64:=by rw [<- rv.length,<- r.length];exact h64
 have all:KeysOf (keyT (T.map fun t=>(t.2.2,t.1.1))) (pairsOf its):=fun p hp=>by
  rw [pairsOf_toList]at hp
  have:p.1∈its:=(List.of_mem_zip hp).1
  rw [<- t3]at this
  obtain⟨t,ht,e⟩:=QK.mp this
  rw [<- e]
  exact zKH ht
 have rd:∀ t∈T,∀ h':Heap,(∀ b o,s.heap.get? b=some o->h'.get? b=some o)->∃ as,Reads h' t.2.2 t.1.2 as:=fun t ht h' hk'=>by
  obtain⟨y,ys,y1,_,y2⟩:=zCZ (rowT t ht)
  obtain⟨as,z⟩:=(t4 t ht).1.reads I (by rw [y1];exact zGr y2) (t4 t ht).2
  exact⟨as,Reads.keeps hk' z⟩
 have same:∀ t∈T,∀ u∈T,t.2.2=u.2.2->t.1.1=u.1.1:=fun t ht u hu' e=>by
  obtain⟨as,z1⟩:=rd t ht s.heap fun _ _ q=>q
  obtain⟨bs,z2⟩:=rd u hu' s.heap fun _ _ q=>q
  obtain⟨x,xs,e1,_,f1⟩:=zCZ (rowT t ht)
  rw [e]at z1
  have e2:t.1.2=u.1.2:=Reads.unique t.1.2 u.1.2 u.2.2 as bs (by rw [e1];exact zGr f1) z1 z2
  have h1:=rowT t ht
  have h2:=rowT u hu'
  rw [e2,h2]at h1
  exact(Qy h1).symm
 refine Qa (wpAny_newList ?_ (hsz:=?_))
 rotate_left
 ·exact zAR (by lia)
 show wpAny _ _ _ _ _ { s with heap:=s.heap.push (seqObj "list" its.toArray 0) }
 have hL:(s.heap.push (seqObj "list" its.toArray 0)).get? s.heap.objs.size=some (seqObj "list" its.toArray 0):=Qu _ rfl
 have kp:∀ h':Heap,(∀ b o,b≠s.heap.objs.size->(s.heap.push (seqObj "list" its.toArray 0)).get? b=some o->h'.get? b=some o)->∀ b o,s.heap.get? b=some o->h'.get? b=some o:=fun h' hk' b o e=>
  hk' b o (Qt (Qo e)) (Qd _ e)
 refine Qa (Q2 (Yl slot_list_sort ⟨_,hL,rfl⟩ entry_list_sort (zPg (κ:=keyT (T.map fun t=>(t.2.2,t.1.1))) (kd:=tuples' (isInt (d0.headD .none))) hL all l64 (fun h' hk' h2=>?_) (fun h' hk'=>?_) fun z' p1 p2=>⟨_,rfl,Qb ⟨_,rfl,?_⟩⟩) (args_list_sort _)))
 ·-- the kind of the keys
  refine zMX (s:={ s with heap:=h' }) (d:=d0.headD .none) rfl (fun v hv=>?_) (fun e=>by rw [e]at h2;simp at h2)
  rw [<- t3]at hv
  obtain⟨t,ht,e⟩:=QK.mp hv
  obtain⟨x,xs,e1,l1,f1⟩:=zCZ (rowT t ht)
  obtain⟨as,z⟩:=rd t ht h' (kp h' hk')
  rw [e1]at z
  refine⟨x,xs,as,by rw [<- e];exact z,?_⟩
  cases d0 with
  | nil=>cases l1
  | cons y ys=>exact(QF.mp l1).1
 ·-- what a comparison answers
  intro x y ka kb E' Q' h1 h2 hQ'
  obtain⟨t,ht,e1,g1⟩:=zFV h1
  obtain⟨u,hu',e2,g2⟩:=zFV h2
  obtain⟨x1,xs1,e3,l1,f1⟩:=zCZ (rowT t ht)
  obtain⟨y1,ys1,e4,l2,f2⟩:=zCZ (rowT u hu')
  obtain⟨as,z1⟩:=rd t ht h' (kp h' hk')
  obtain⟨bs,z2⟩:=rd u hu' h' (kp h' hk')
  rw [e3,e1]at z1
  rw [e4,e2]at z2
  rw [g1]at f1
  rw [g2]at f2
  cases z1 with
  | @tuple ax ox us n _ _ q1 q2 q3 q4=>cases z2 with
   | @tuple ay oy ws m _ _ w1 w2 w3 w4=>
    have ll:us.size=ws.size:=by
     have a1:=ReadsAll.length _ _ _ q4
     have a2:=ReadsAll.length _ _ _ w4
     have a3:∀(p q:List D),zBg p q=true->p.length=q.length:=by
      intro p
      induction p with
      | nil=>intro q hq';cases q with
       | nil=>rfl
       | cons _ _=>cases hq'
      | cons p0 p ih=>intro q hq';cases q with
       | nil=>cases hq'
       | cons q0 q=>simp [ih q (QF.mp hq').2]
     have a4:=a3 _ _ (zFd l1 l2)
     rw [Qp]at a1 a2
     lia
    have ef:decide (us.size<ws.size)=false:=by rw [ll];simp
    refine PySem.W.kat_lt (s:={ s with heap:=h' }) q1 q3 w1 w3 ?_
    rw [ef]
    refine zKd (s:={ s with heap:=h' }) (show X.A.in1.in1.units+64<cLine by show X.A.units+1+1+64<cLine;lia) 0 (zFd l1 l2) f1 f2 q4 w4 (fun hb _ z r' ez=>?_) (fun e=>?_) fun _=>hQ'
    ·cases ez
     cases d0 with
     | nil=>cases l1
     | cons y0 ys0=>
      have l3:=(QF.mp l1).1
      cases y0 with
      | int n=>cases x1 with
       | int m=>exact⟨m,rfl⟩
       | _=>cases l3
      | _=>cases hb
    ·have e5:HT.lexLt ka kb=false:=by rw [e];exact zDl _
     have:(keyT (T.map fun t=>(t.2.2,t.1.1))).blt ka kb=false:=e5
     rw [this]at hQ'
     exact hQ'
 ·-- the list behind
  have pm:(((arrOf z').map (·.2)).toList).Perm its:=by
   have h1:=Array.perm_iff_toList_perm.mp p1
   have h2:=h1.map (·.2)
   rw [pairsOf_toList]at h2
   rw [Array.toList_map]
   have h3:(its.zip its).map (·.2)=its:=by
    rw [List.map_snd_zip]
    exact Qi _
   rw [h3]at h2
   exact h2
  obtain⟨T',q1,q2⟩:=zOg pm.symm T t3
  have memT:∀ t∈T',t∈T:=fun t ht=>q1.mem_iff.mp ht
  obtain⟨g1,g2⟩:=zKJ (K:=X.K) (F:=F) (H:=H) (T:=T') fun t ht=>t4 t (memT t ht)
  have lT:T'.length=its.length:=by rw [q1.length_eq,<- t3,Ql]
  have ord:(T'.map (·.1)).Pairwise Le:=by
   rw [QW,List.pairwise_iff_getElem]
   intro i j hi hj hij
   have sz':(arrOf z').size=T'.length:=by
    rw [p1.size_eq,Jf,lT]
   have key:∀ m (hm:m<T'.length),KK (keyT (T.map fun t=>(t.2.2,t.1.1))) (arrOf z') m=T'[m].1.1:=fun m hm=>by
    have hm':m<(arrOf z').size:=by rw [sz'];exact hm
    have e1:(arrOf z')[m]?=some (arrOf z')[m]:=getElem?_pos _ m hm'
    have e2:(arrOf z')[m]∈(pairsOf its).toList:=(Array.perm_iff_toList_perm.mp p1).mem_iff.mp (by simp)
    rw [pairsOf_toList]at e2
    have e3:(arrOf z')[m].1=(arrOf z')[m].2:=by
     obtain⟨n,hn,en⟩:=List.getElem_of_mem e2
     rw [List.getElem_zip]at en
     rw [<- en]
    have e4:(arrOf z')[m].2=T'[m].2.2:=by
     have:=congrArg (fun(l:List Value)=>l[m]?) q2
     simp only [QB,Array.toList_map,QA,e1]at this
     rw [Qg hm]at this
     exact(Qy this).symm
    unfold KK
    rw [e1]
    show((keyT (T.map fun t=>(t.2.2,t.1.1))).keyOf (arrOf z')[m].1).getD []=_
    rw [e3,e4]
    obtain⟨kx,hkx⟩:=zKH (memT T'[m] (YL hm))
    obtain⟨t,ht,e5,e6⟩:=zFV hkx
    show((T.map fun t=>(t.2.2,t.1.1)).lookup T'[m].2.2).getD []=_
    rw [hkx]
    show kx=_
    rw [<- e6]
    exact same t ht _ (memT _ (YL hm)) e5
   have:=p2 i j (YA hij) (by rw [Jf,<- lT];exact hj)
   rw [key i hi,key j hj]at this
   exact this
  have uni:T'.map (·.1)=zA6 l:=by
   refine zHC (((q1.map (·.1)).trans (.of_eq t1)).trans (zDC l).symm) ord (zEB l) fun p hp q hq' e=>?_
   obtain⟨t,ht,rfl⟩:=QK.mp hp
   obtain⟨u,hu',rfl⟩:=QK.mp hq'
   have h1:=rowT t (memT t ht)
   have h2:=rowT u (memT u hu')
   rw [e]at h1
   exact Prod.ext e (zDv h1 h2)
  have eD:(zA6 l).map (·.2)=T'.map (·.1.2):=by rw [<- uni,YB];rfl
  have fresh:H s.heap.objs.size=none:=I.hok.fresh (Qi _)
  obtain⟨ep,hat⟩:=sortedHeap_at (out:=(arrOf z').map (·.2)) hL
  have old:∀ b o,s.heap.get? b=some o->(sortedHeap (s.heap.push (seqObj "list" its.toArray 0)) s.heap.objs.size its ((arrOf z').map (·.2))).get? b=some o:=fun b o e=>by
   have lt:=Qo e
   rw [sortedHeap_old (Qt lt) (by rw [size_push'];exact YW lt)]
   exact Qd _ e
  have lv:(T'.map (·.2.1)).length<=1000:=by rw [Ql,lT];lia
  refine⟨.ref s.heap.objs.size,_,I.laid (t':=s.toks) (o:=.lst (T'.map (·.2.1))) old (Qi _) ?_,rfl,k _ _ fresh (by rw [eD];exact g1) lv⟩
  refine⟨zAR lv,T'.map (·.2.2),ep,g2,?_⟩
  rw [hat,q2]
theorem zEC{d0:List D}{a:Addr}{ds:List D}{vs:List V}{l:List KD}{Q:VK}(hu:X.A.units+66<cLine)(I:L2.Inv X pins σ H s)(hq:SqL X.K H a vs)(r:Reps X.K F H ds vs)(hk:zA9 d0 ds=some l)(h64:ds.length<64)
  (k:∀ p vs',H p=none->Reps X.K F H ((zA6 l).map (·.2)) vs'->vs'.length<=1000->Q (.ref p) (upd H p (.lst vs'))):wpAny (model X.prog X.w) X.A (call (.builtin "sorted") [.ref a]) (EP X pins σ Q) X.xe s:=by
 obtain⟨its,rv,pl,hz⟩:=I.list hq
 refine Calls.call_function_entry kind_sorted plain_sorted entry_sorted (args_sorted1 _) ?_
 unfold Builtin.«sorted»
 refine Qa (m:=checkCount "sorted" 1 1 _) (Qb (Qa (collect_list pl.isList ?_ (hsz:=?_))))
 ·refine zKA hu (I.kept (h':=(s.heap.push (seqObj "list" #[] 0)).update s.heap.objs.size (Obj.mapSeq (·++its.toArray))) (t':=s.toks) fun b o e=>?_) rv r hk h64 k
  rw [Heap.get?_update_ne _ _ _ _ (Qt (Qo e))]
  exact Qd _ e
 ·rw [<- rv.length];exact hz
end
end SD
namespace DL
open PySem PySem.Spec PyProof.Rows L2 SD
theorem zF6{X:Cx}(hu:X.A.units+66<cLine):zA0 X (.builtin "sorted") (rDA X.K zBC):=fun pins s σ H xs us Q I rx zz=>by
 obtain⟨F,ds,q,z,R,hq,k⟩:=zz
 unfold zBC at hq
 split at hq
 ·cases hq
  cases R with
  | cons R1 R2=>
   cases R2
   cases R1 with
   | @lst a vs _ h1 r1=>
    obtain⟨u,rfl,ru⟩:=zCf rx
    cases ru
    exact zEC (d0:=[]) (l:=[]) hu I h1.sq r1 rfl (by simp) fun p vs' hp r' _=>k _ _ _ (Ext.frozen hp) (Rep.newLst hp r')
 ·rename_i d0 ds'
  by_cases c:ds'.length<63
  ·rw [if_pos c]at hq
   obtain⟨l,e1,hq⟩:=bnd hq
   cases hq
   cases R with
   | cons R1 R2=>
    cases R2
    cases R1 with
    | @lst a vs _ h1 r1=>
     obtain⟨u,rfl,ru⟩:=zCf rx
     cases ru
     exact zEC (d0:=d0) hu I h1.sq r1 e1 (by simp;lia) fun p vs' hp r' _=>k _ _ _ (Ext.frozen hp) (Rep.newLst hp r')
  ·rw [if_neg c]at hq;cases hq
 ·cases hq
end DL
namespace ZL
open PySem PySem.Spec PyProof.Rows L2 DL
def Itz(K:PySem.W.Frag)(a b:Addr):It:=
 ⟨fun i H=>∃ xs ys x y,SqL K H a xs/\SqL K H b ys/\xs[i]?=some x/\ys[i]?=some y,
  fun i H v H'=>∃ p,H p=none/\v=.ref p/\∃ x y,H'=upd H p (.tup [x,y])/\(∀ xs,SqL K H a xs->xs[i]?=some x)/\∀ ys,SqL K H b ys->ys[i]?=some y,
  fun i H=>∃ xs ys,SqL K H a xs/\SqL K H b ys/\(xs.length<=i ∨ ys.length<=i)⟩
theorem zFZ{X:Cx}{pins:List (Addr × Obj)}{σ:L2.St}{H H':Hp}{s:Shared}{ch:List Addr}{h':Heap}{tk:Nat}(I:L2.Inv X pins σ H s)(hf:∀ b∈ch,FpOk X pins H b)(k:∀ b o,b∉ch->s.heap.get? b=some o->h'.get? b=some o)
  (hH:∀ b o,s.heap.get? b=some o->H' b=H b) (hS:∀ b o,H b=some o->H' b=some o) (hok:HOk X.prog X.w H' h'):L2.Inv X pins σ H' { s with heap:=h',toks:=tk }:=by
 refine I.step (g':=s.gens) (d':=s.drawn) (ch:=ch) (fun b hb=>?_) (fun b o _ _ hc e _=>k b o hc e) (fun b o _ _ hc e _=>⟨o.slots,k b o hc e⟩) (fun b o _ e n=>by rw [hH b o e];exact n)
  (fun b o hc e=>⟨o,k b o hc e⟩) (fun b xs e=>hS _ _ e) (fun b o u e=>hS _ _ e) (fun b ps e=>⟨#[],by rw [hS _ _ e];simp⟩) (fun m hm=>?_) hok I.bare
 ·obtain⟨_,f1,_,f3,f4,f5⟩:=hf b hb
  exact⟨f3,f1,f4,f5⟩
 ·obtain⟨o,es,ep,ho,r⟩:=hm
  exact⟨o,es,ep,k _ o (fun z=>(hf _ z).2.1 rfl) ho,r⟩
theorem zPI{P:Program}{w:World}{K:PySem.W.Frag}{elts:List Expr}{x1}{tpos:Pos}(a b z TI TO i1 i2:Addr)(D:ZipApart z TI TO i1 i2 a b):
  Turn P w K (.Tuple elts x1 tpos) (Itz K a b) [z,TI,TO,i1,i2] z (fun i h=>IsZip h z TI TO .none/\IsPair h TI (.ref i1) (.ref i2)/\(∃ u v,IsPair h TO u v)/\h.IsListIter i1 a i/\h.IsListIter i2 b i) where
 mem:=by simp
 obj:=fun i h st c hc=>by
  obtain⟨h1,h2,⟨u,v,h3⟩,⟨o4,e4,_,d4⟩,⟨o5,e5,_,d5⟩⟩:=st
  rcases Qh.mp hc with rfl | hc
  ·exact⟨_,h1,fun v z=>by have z':Data.fields _=Data.cell v:=z;cases z'⟩
  rcases Qh.mp hc with rfl | hc
  ·exact⟨_,h2,fun v z=>by have z':Data.seq _ _=Data.cell v:=z;cases z'⟩
  rcases Qh.mp hc with rfl | hc
  ·exact⟨_,h3,fun v z=>by have z':Data.seq _ _=Data.cell v:=z;cases z'⟩
  rcases Qh.mp hc with rfl | hc
  ·exact⟨o4,e4,fun v z=>by rw [d4]at z;cases z⟩
  rcases Qh.mp hc with rfl | hc
  ·exact⟨o5,e5,fun v z=>by rw [d5]at z;cases z⟩
  cases hc
 keep:=fun i h h' st k=>by
  obtain⟨h1,h2,⟨u,v,h3⟩,h4,h5⟩:=st
  exact⟨k z (by simp) _ h1,k TI (by simp) _ h2,⟨u,v,k TO (by simp) _ h3⟩,h4.at fun o e=>k i1 (by simp) o e,h5.at fun o e=>k i2 (by simp) o e⟩
 item:=by
  intro X hP hw hK hc i pins s σ H E I hf st hg
  subst hP hw hK
  obtain⟨xs,ys,x,y,ha,hb,hx,hy⟩:=hg
  obtain⟨h1,h2,⟨u,v,h3⟩,h4,h5⟩:=st
  obtain⟨its,rv,pl,_⟩:=I.list ha
  obtain⟨jts,rw',pl2,_⟩:=I.list hb
  obtain⟨xu,ex,rx⟩:=rv.get hx
  obtain⟨yu,ey,ry⟩:=rw'.get hy
  refine wpAny_pyNext_zip_item D h1 h2 h3 h4 h5 pl.isList pl2.isList (x:=xu) (y:=yu) (by simpa using ex) (by simpa using ey) fun h' a1 a2 a3 a4 a5 a6 hk=>⟨_,rfl,?_⟩
  refine wpAny_letOwnedTupleGo_zip (s:={ s with heap:=h' }) a1 fun h'' z1 sb=>?_
  have up:∀ c o,c≠z->h'.get? c=some o->h''.get? c=some o:=fun c o nc e=>sb.extBut c o nc e
  have hn:H s.heap.objs.size=none:=I.hok.fresh (Qi _)
  have old:∀ c o,s.heap.get? c=some o->c≠s.heap.objs.size:=fun c o e=>Qt (Qo e)
  have zT:s.heap.objs.size≠z:=(old z _ h1).symm
  have kk:∀ c o,c∉[z,TI,TO,i1,i2]->s.heap.get? c=some o->h''.get? c=some o:=fun c o nc e=>
   up c o (fun q=>nc (by simp [q])) (hk c o (fun q=>nc (by simp [q])) (fun q=>nc (by simp [q])) (fun q=>nc (by simp [q])) (fun q=>nc (by simp [q])) e)
  have nfp:∀ c o,H c=some o->c∉[z,TI,TO,i1,i2]:=fun c o e hc'=>by
   have:=(hf c hc').1
   rw [this]at e;cases e
  have t2:IsPair h'' TI (.ref i1) (.ref i2):=up _ _ D.TIz (hk _ _ D.TIz D.TITO D.TIi1 D.TIi2 h2)
  have t3:IsPair h'' TO xu yu:=up _ _ D.TOz a2
  have t4:h''.IsListIter i1 a (i+1):=a3.at fun o e=>up _ o D.i1z e
  have t5:h''.IsListIter i2 b (i+1):=a4.at fun o e=>up _ o D.i2z e
  have hok:HOk X.prog X.w (upd H s.heap.objs.size (.tup [x,y])) h'':=fun c o e=>by
   by_cases hcT:c=s.heap.objs.size
   ·subst hcT
    rw [zAs]at e;cases e
    exact⟨zAR (by simp),[xu,yu],.cons rx (.cons ry .nil),⟨_,up _ _ zT a5,rfl,0,rfl⟩⟩
   ·rw [zAf hcT]at e
    refine(I.hok c o e).stay (fun d v hd q=>kk d v ?_ q) (fun d q=>by rw [zAf (zAO q hn)];exact q) fun d xs q=>by rw [zAf (zAO q hn)];exact q
    rcases hd with rfl | hd
    ·exact nfp _ _ e
    ·exact nfp _ _ hd
  refine⟨.ref s.heap.objs.size,_,zFZ (s:=s) (h':=h'') (tk:=s.toks) I hf kk (fun c o e=>zAf (old c o e)) (fun c o e=>by rw [zAf (zAO e hn)];exact e) hok,rfl,⟨_,hn,rfl,x,y,rfl,fun xs' h'=>by rw [I.list_inj h' ha];exact hx,fun ys' h'=>by rw [I.list_inj h' hb];exact hy⟩,⟨z1,t2,⟨_,_,t3⟩,t4,t5⟩,fun c hc'=>?_⟩
  ·have e:=(hf c hc').1
   have nT:c≠s.heap.objs.size:=by
    rcases Qh.mp hc' with rfl | hc'
    ·exact old _ _ h1
    rcases Qh.mp hc' with rfl | hc'
    ·exact old _ _ h2
    rcases Qh.mp hc' with rfl | hc'
    ·exact old _ _ h3
    rcases Qh.mp hc' with rfl | hc'
    ·obtain⟨_,e',_⟩:=h4;exact old _ _ e'
    rcases Qh.mp hc' with rfl | hc'
    ·obtain⟨_,e',_⟩:=h5;exact old _ _ e'
    cases hc'
   rw [zAf nT];exact e
 done:=by
  intro X hP hw hK hc i pins s σ H E I hf st hg
  subst hP hw hK
  obtain⟨xs,ys,ha,hb,hend⟩:=hg
  obtain⟨h1,h2,⟨u,v,h3⟩,h4,h5⟩:=st
  obtain⟨its,rv,pl,_⟩:=I.list ha
  obtain⟨jts,rw',pl2,_⟩:=I.list hb
  have l1:=rv.length
  have l2:=rw'.length
  refine wpAny_pyNext_zip_end (I.ok.hd hc) D h1 h2 h3 h4 h5 pl.isList pl2.isList (by
   rcases hend with hend | hend
   ·left;simp;lia
   ·right;simp;lia) fun h' hk=>⟨rfl,?_⟩
  have kk:∀ c o,c∉[z,TI,TO,i1,i2]->s.heap.get? c=some o->h'.get? c=some o:=fun c o nc e=>
   hk c o (fun q=>nc (by simp [q])) (fun q=>nc (by simp [q])) (fun q=>nc (by simp [q])) (fun q=>nc (by simp [q])) e
  have nfp:∀ c o,H c=some o->c∉[z,TI,TO,i1,i2]:=fun c o e hc'=>by
   have:=(hf c hc').1
   rw [this]at e;cases e
  refine zFZ (s:=s) (h':=h') (tk:=s.toks) I hf kk (fun _ _ _=>rfl) (fun _ _ e=>e) fun c o e=>?_
  refine(I.hok c o e).stay (fun d v hd q=>kk d v ?_ q) (fun d q=>q) fun d xs q=>q
  rcases hd with rfl | hd
  ·exact nfp _ _ e
  ·exact nfp _ _ hd
 self:=fun _ _ _ _ _ st h=>wpAny_pyIter_zip st.1 h
theorem nne{x y:Nat}(h:x≠y):@Ne Addr x y:=h
theorem zPV{n a b:Nat}(la:a<n)(lb:b<n):ZipApart (n+4) (n+2) (n+3) n (n+1) a b:=
 ⟨nne (by lia),nne (by lia),nne (by lia),nne (by lia),nne (by lia),nne (by lia),nne (by lia),nne (by lia),nne (by lia),nne (by lia),nne (by lia),nne (by lia),nne (by lia),nne (by lia),nne (by lia),nne (by lia),nne (by lia),nne (by lia)⟩
def iZip(K:PySem.W.Frag)(ta:TA):TI:=fun σ H R=>ta σ H fun vs H1=>∃ a b,vs=[.ref a,.ref b]/\(∃ xs,SqL K H1 a xs)/\(∃ ys,SqL K H1 b ys)/\R (Itz K a b) H1
theorem zOo{X:Cx}{elts:List Expr}{x1}{tpos:Pos}{a b:Expr}{ta:TA}{p pos:Pos}(hg:Gl X "zip")(hm:X.mg "zip"=none)(ha:PA X [a,b] ta)(hs:starEach [a,b] X.env=[(false,eval a X.env),(false,eval b X.env)]:=by rfl)(hs2:starEach [b] X.env=[(false,eval b X.env)]:=by rfl):
  PI X (.Tuple elts x1 tpos) (.Call (.Name "zip" p) [a,b] [] pos) (iZip X.K ta):=by
 intro pins s σ H R I h
 refine Call_ (zBT I hg hm boot_zip (Q3 (thn (ha pos pins s σ H _ I h) fun us s1 ⟨vs,H1,I1,r1,q1⟩=>?_) (by rw [hs,hs2]) (by rw [hs2];rfl)))
 obtain⟨a',b',e,⟨xs,hx⟩,⟨ys,hy⟩,q⟩:=q1
 subst e
 cases r1 with
 | cons r rr=>
  cases rr with
  | cons r' rr=>
   cases rr
   cases r
   cases r'
   obtain⟨its,rv,pl,_⟩:=I1.list hx
   obtain⟨jts,rw',pl2,_⟩:=I1.list hy
   refine call_zip_2 pl.isList pl2.isList fun h' a1 a2 a3 a4 a5 a6 hk=>?_
   have I2:L2.Inv X pins σ H1 { s1 with heap:=h' }:=I1.kept (t':=s1.toks) hk
   refine wpAny_pyIter_zip (s:={ s1 with heap:=h' }) a1 ?_
   have la:a'<s1.heap.objs.size:=by obtain⟨_,e,_⟩:=pl.isList;exact Qo e
   have lb:b'<s1.heap.objs.size:=by obtain⟨_,e,_⟩:=pl2.isList;exact Qo e
   refine⟨_,[s1.heap.objs.size+4,s1.heap.objs.size+2,s1.heap.objs.size+3,s1.heap.objs.size,s1.heap.objs.size+1],_,_,H1,rfl,I2,zPI a' b' (s1.heap.objs.size+4) (s1.heap.objs.size+2) (s1.heap.objs.size+3) s1.heap.objs.size (s1.heap.objs.size+1) (zPV la lb),⟨a1,a2,⟨_,_,a3⟩,a4,a5⟩,fun c hc=>?_,q⟩
   have lc:s1.heap.objs.size<=c:=by
    rcases Qh.mp hc with rfl | hc
    ·exact Yf _ _
    rcases Qh.mp hc with rfl | hc
    ·exact Yf _ _
    rcases Qh.mp hc with rfl | hc
    ·exact Yf _ _
    rcases Qh.mp hc with rfl | hc
    ·exact Qi _
    rcases Qh.mp hc with rfl | hc
    ·exact Yf _ _
    cases hc
   exact I1.fpOk lc (I1.hok.fresh lc)
end ZL
namespace DL
open PySem PySem.Spec PyProof.Rows L2 ZL
def zipD:List D->Option (List D)
 | [.list xs,.list ys]=>some (List.zipWith (fun x y=>.tuple [x,y]) xs ys)
 | _=>none
theorem zML{K:PySem.W.Frag}{F:Addr->Prop}{H:Hp}{a b:Addr}{vs us:List V}{ds es:List D}(h1:FzL K F H a vs)(r1:Reps K F H ds vs)(h2:FzL K F H b us)(r2:Reps K F H es us):ItD K F H (List.zipWith (fun x y=>.tuple [x,y]) ds es) (Itz K a b):=fun F2 H2 T z i=>by
 have g1:=h1.stay T
 have g2:=h2.stay T
 have s1:=r1.stay T
 have s2:=r2.stay T
 refine⟨fun d hd=>?_,fun hl=>⟨vs,us,g1.sq,g2.sq,?_⟩⟩
 ·rw [List.getElem?_zipWith]at hd
  cases e1:ds[i]? with
  | none=>rw [e1]at hd;cases hd
  | some x=>
   cases e2:es[i]? with
   | none=>rw [e1,e2]at hd;cases hd
   | some y=>
    rw [e1,e2]at hd
    cases hd
    obtain⟨v,e3,R1⟩:=s1.get e1
    obtain⟨u,e4,R2⟩:=s2.get e2
    refine⟨⟨vs,us,v,u,g1.sq,g2.sq,e3,e4⟩,fun w H3 yy=>?_⟩
    obtain⟨p,hp,rfl,x',y',rfl,q1,q2⟩:=yy
    have q3:=q1 vs g1.sq
    have q4:=q2 us g2.sq
    rw [e3]at q3;cases q3
    rw [e4]at q4;cases q4
    exact⟨F2,Ext.fresh hp,Rep.newTup hp (.cons R1 (.cons R2 .nil))⟩
 ·rw [List.length_zipWith]at hl
  rw [<- s1.length,<- s2.length]
  lia
theorem zL0{X:Cx}{elts:List Expr}{x1}{tpos:Pos}{a b:Expr}{gr:Rho->Option (List D)}{p pos:Pos}(hg:Gl X "zip")(hm:X.mg "zip"=none)(ha:DA X [a,b] gr)(hs:starEach [a,b] X.env=[(false,eval a X.env),(false,eval b X.env)]:=by rfl)(hs2:starEach [b] X.env=[(false,eval b X.env)]:=by rfl):
  DI X (.Tuple elts x1 tpos) (.Call (.Name "zip" p) [a,b] [] pos) (fun ρ=>(gr ρ).bind zipD):=
 zEt (zOo hg hm ha hs hs2) fun σ H R zz=>by
  obtain⟨F,H₀,ρ,ds,S,q,k⟩:=zz
  obtain⟨xs,e1,q⟩:=bnd q
  unfold zipD at q
  split at q
  ·cases q
   refine⟨F,H₀,ρ,_,S,e1,fun F1 H1 vs E1 R1=>?_⟩
   cases R1 with
   | cons r rs=>
    cases r with
    | @lst a' vs' _ h1 r1=>
     cases rs with
     | cons r rs=>
      cases r with
      | @lst b' us' _ h2 r2=>
       cases rs
       exact⟨a',b',rfl,⟨_,h1.sq⟩,⟨_,h2.sq⟩,k F1 H1 _ E1 (zML h1 r1 h2 r2)⟩
  ·cases q
end DL
namespace DL
open PySem PySem.Spec PySem.SeqAt PyProof.Rows L2 CL SD ZL
def cutD(xs:List D)(lo hi:Option Int):List D:=(xs.drop (HT.sIx xs.length 0 lo)).take (HT.sIx xs.length xs.length hi-HT.sIx xs.length 0 lo)
def tDO(K:PySem.W.Frag)(g:Rho->Option (Option Int)):TO:=fun σ H Q=>TDx K σ H g fun F o=>∀ F' H',Ext F F' H H'->Q o H'
def DO(X:Cx)(e:Option Expr)(g:Rho->Option (Option Int)):Prop:=PO X e (tDO X.K g)
def oNo:Rho->Option (Option Int):=fun _=>some none
def oE(g:Rho->Option D):Rho->Option (Option Int):=fun ρ=>(g ρ).bind fun d=>(asI d).bind fun i=>some (some i)
section
variable {X:Cx}{a b e:Expr}{ga:Rho->Option D}{pos p p2:Pos}{lo hi:Option Expr}{gl gh:Rho->Option (Option Int)}
theorem zJ3{o:Option Expr}{t t':TO}(h:PO X o t)(m:∀ σ H Q,t' σ H Q->t σ H Q):PO X o t':=fun pins s σ H Q I q=>h pins s σ H Q I (m σ H Q q)
theorem zGg:DO X none oNo:=zJ3 zOt fun σ H Q zz=>by
 obtain⟨F,H₀,ρ,o,S,q,k⟩:=zz
 cases q
 exact k F H (Ext.refl F H)
theorem zGh(h:DE X e ga):DO X (some e) (oE ga):=zJ3 (zOu h) fun σ H Q zz=>by
 obtain⟨F,H₀,ρ,o,S,q,k⟩:=zz
 obtain⟨d,e1,q⟩:=bnd q
 obtain⟨i,e2,q⟩:=bnd q
 cases q
 exact⟨F,H₀,ρ,d,S,e1,fun F1 H1 v E1 R1=>⟨i,zOL R1 e2,k F1 H1 E1⟩⟩
theorem Reps.cut{K:PySem.W.Frag}{F:Addr->Prop}{H:Hp}{ds:List D}{vs:List V}(r:Reps K F H ds vs)(lo hi:Option Int):Reps K F H (cutD ds lo hi) (cutV vs lo hi):=by
 unfold cutD cutV
 rw [r.length]
 exact(r.drop _).take _
def tyD:D->String
 | .none=>"NoneType"
 | .bool _=>"bool"
 | .int _=>"int"
 | .str _=>"str"
 | .list _=>"list"
 | .tuple _=>"tuple"
 | .dict _=>"dict"
def isD(T:String)(d:D):Bool:=tyD d == T || (T == "int" && tyD d == "bool")
def zGS:D->Bool
 | .dict _=>true
 | _=>false
def eIs(T:String)(ga:Rho->Option D):Rho->Option D:=fun ρ=>(ga ρ).bind fun d=>if zGS d=true then none else some (.bool (isD T d))
theorem zMY(K:PySem.W.Frag)(T:String)(hT:T="list" ∨ T="tuple" ∨ T="int" ∨ T="bool" ∨ T="str" ∨ T="dict")(d:D):PySem.W.kitOne K (.type (tyD d)) (.type T)=some (isD T d):=by
 rcases hT with rfl | rfl | rfl | rfl | rfl | rfl <;> cases d <;> (first | rfl | (unfold PySem.W.kitOne;with_unfolding_all rfl) | decide +kernel)
theorem zLp{T:String}(hT:T="list" ∨ T="tuple" ∨ T="int" ∨ T="bool" ∨ T="str" ∨ T="dict"):zA0 X (.builtin "isinstance") (fun xs H Q=>∃(F:Addr->Prop) (d:D) (x:V),Rep X.K F H d x/\zGS d=false/\xs=[x,.ty T]/\Q (.bl (isD T d)) H):=by
 intro pins s σ H xs us Q I rv h
 obtain⟨F,d,x,R,nd,rfl,q⟩:=h
 obtain⟨u,u2,rfl,ru,r2⟩:=vals2 rv
 cases(show u2=Value.type T from r2)
 have ok:=zMY X.K T hT d
 have fin:∀ tk,EP X pins σ Q (.bool (isD T d)) { s with toks:=tk }:=fun tk=>⟨.bl _,H,I.tok tk,rfl,q⟩
 cases R with
 | non=>cases(show u=Value.none from ru);exact PySem.W.kia_one PySem.W.kitx_none I.kIn True.intro ok (fun z=>nomatch z) fin
 | dct _ _ _ _ _=>cases nd
 | exn _ _ _=>cases nd
 | bl b=>cases(show u=Value.bool b from ru);exact PySem.W.kia_one PySem.W.kitx_bool I.kIn True.intro ok (fun z=>nomatch z) fin
 | int i=>obtain⟨t,e⟩:=(show ∃ t,u=Value.int i t from ru);cases e;exact PySem.W.kia_one PySem.W.kitx_int I.kIn True.intro ok (fun z=>nomatch z) fin
 | str y=>obtain⟨t,e⟩:=(show ∃ t,u=Value.str y t from ru);cases e;exact PySem.W.kia_one PySem.W.kitx_str I.kIn True.intro ok (fun z=>nomatch z) fin
 | @tup a vs ds h1 r1=>
  cases(show u=Value.ref a from ru)
  obtain⟨its,_,⟨o,g1,g2,_⟩,_⟩:=I.tuple h1
  exact PySem.W.kia_one PySem.W.kitx_tuple I.kIn ⟨o,g1,g2⟩ ok (fun z=>nomatch z) fin
 | @lst a vs ds h1 r1=>
  cases(show u=Value.ref a from ru)
  obtain⟨its,_,⟨o,n,g1,g2,_⟩,_⟩:=I.list h1.sq
  exact PySem.W.kia_one PySem.W.kitx_list I.kIn ⟨o,g1,g2⟩ ok (fun z=>nomatch z) fin
theorem zLk:bootBuiltins "isinstance"=some (.builtin "isinstance"):=by decide +kernel
theorem zGb{T:String}{Tn:Str}{p':Pos}(hT:T="list" ∨ T="tuple" ∨ T="int" ∨ T="bool" ∨ T="str" ∨ T="dict")(hg:Gl X "isinstance")(hm:X.mg "isinstance"=none)(hgT:Gl X Tn)(hmT:X.mg Tn=none)(hvT:bootBuiltins Tn=some (.type T))(hn:Tn≠"__name__")(ha:DE X e ga)
  (hs:starEach [e,.Name Tn p'] X.env=(false,eval e X.env)::starEach [.Name Tn p'] X.env:=by rfl) (hs2:starEach [.Name Tn p'] X.env=(false,eval (.Name Tn p') X.env)::starEach [] X.env:=by rfl) (hdb:(Tn == ("__debug__":Str))=false:=by decide)
  (hpl:(backTo pos (starEach [.Name Tn p'] X.env)).any (·.1)=false:=by rfl):DE X (.Call (.Name "isinstance" p) [e,.Name Tn p'] [] pos) (eIs T ga):=
 zAE (zFA (zLp hT) hg hm zLk (zAl ha (zAl (zOa (v:=.ty T) hgT hmT hvT rfl hn hdb) zAw hs2) hs) (he:=hs) (hpl:=hpl)) fun σ H Q zz=>by
  obtain⟨F,H₀,ρ,d,S,q,k⟩:=zz
  obtain⟨x,e1,q⟩:=bnd q
  by_cases c:zGS x=true
  ·rw [if_pos c]at q;cases q
  ·rw [if_neg c]at q
   cases q
   exact⟨F,H₀,ρ,x,S,e1,fun F1 H1 v E1 R1=>⟨F1,x,v,R1,by simpa using c,rfl,k F1 H1 _ E1 (.bl _)⟩⟩
end
def zIb(osc:Scope)(oN N':List Str)(scope:Scope)(inner:List (Option Nat)):Bool:=
 scope.kind == .function && scope.names.all (fun x=>x.2 != .cell) && scope.names.all (fun x=>x.2 != .local || scope.names.lookup x.1 == some .local) &&
 scope.names.all (fun x=>x.2 != .free || (scope.names.lookup x.1 == some .free && (osc.names.lookup x.1 == some .cell || osc.names.lookup x.1 == some .free))) && inner.length == N'.length &&
 (List.range inner.length).all fun i=>match inner[i]? with
  | some (some j)=>match N'[i]? with
   | some x=>oN[j]? == some x && scope.names.lookup x == some .free
   | none=>false
  | _=>true
theorem zBB{X:Cx}{N':List Str}{scope:Scope}{inner:List (Option Nat)}(osc:Scope)(oN:List Str)(h1:X.env.scope=osc)(h2:X.N=oN)(h:zIb osc oN N' scope inner=true):zCz X N' scope inner:=by
 unfold zIb at h
 simp only [QQ]at h
 obtain⟨⟨⟨⟨⟨a1,a2⟩,a3⟩,a4⟩,a5⟩,a6⟩:=h
 refine⟨Yj a1,fun x hx e=>?_,fun x hx e=>?_,fun x hx e=>?_,Yj a5,fun i j e=>?_⟩
 ·have:=Ye.mp a2 x hx
  rw [e]at this;cases this
 ·have:=Ye.mp a3 x hx
  rw [e]at this
  rcases Bool.or_eq_true_iff.mp this with z | z
  ·cases z
  ·exact Yj z
 ·have:=Ye.mp a4 x hx
  rw [e]at this
  rcases Bool.or_eq_true_iff.mp this with z | z
  ·cases z
  ·obtain⟨z1,z2⟩:=QF.mp z
   refine⟨Yj z1,?_⟩
   rw [h1]
   rcases Bool.or_eq_true_iff.mp z2 with z | z
   ·exact .inl (Yj z)
   ·exact .inr (Yj z)
 ·have hi:i<inner.length:=(Qc.mp e).1
  have:=Ye.mp a6 i (QO.mpr hi)
  rw [e]at this
  dsimp only at this
  split at this
  ·rename_i x e2
   obtain⟨z1,z2⟩:=QF.mp this
   exact⟨x,e2,by rw [h2];exact Yj z1,Yj z2⟩
  ·cases this
theorem u64{k:Nat}{A:Around}(r:Room k A):A.units+64<cLine:=by have:=r.un;lia
theorem u65{k:Nat}{A:Around}(r:Room k A):A.units+65<cLine:=by have:=r.un;lia
theorem u66{k:Nat}{A:Around}(r:Room k A):A.units+66<cLine:=by have:=r.un;lia
def zFT(K:PySem.W.Frag)(G:List D->Option D):Sp:=fun vs H Q E=>∃(a:Addr) (ns:List Int),vs=[.ref a]/\SqL K H a (ns.map V.int)/\ns.length<=63/\∀ H',Q (.bl true) H'
theorem zE5{K:PySem.W.Frag}{F:Addr->Prop}{H:Hp}:∀ ns:List Int,Reps K F H (ns.map PyData.int) (ns.map V.int)
 | []=>.nil
 | n::ns=>.cons (.int n) (zE5 ns)
theorem law_D{P:Program}{w:World}{K:PySem.W.Frag}{mg:Str->Option Value}{base:Heap}{CX:CXT}{k:Nat}{f:Addr}{fd:FuncData}{ps:List Str}{G:List D->Option D}(F:FnOk P w K mg base CX k f fd ps (spD K 1 G))
  (h:∀ ns:List Int,ns.length<=63->G [.list (ns.map PyData.int)]=some (.bool true)):FnOk P w K mg base CX k f fd ps (zFT K G):=
 F.imp fun vs H Q E zz=>by
  obtain⟨a,ns,e,hq,hl,q⟩:=zz
  subst e
  refine⟨fun b=>H b≠none,[.list (ns.map PyData.int)],.bool true,rfl,fun _ z=>z,.cons ?_ .nil,h ns hl,fun F' H' v E' R'=>?_⟩
  ·rcases hq with hq | hq
   ·refine .lst (.inl ⟨?_,hq⟩) (zE5 ns)
    rcases hq with hq | ⟨o,hq⟩ <;> (rw [hq];simp)
   ·exact .lst (.inr (.inr hq)) (zE5 ns)
  ·cases R'
   exact q H'
theorem zAN{P:Program}{w:World}{K:PySem.W.Frag}{mg:Str->Option Value}{base:Heap}{x qual:Str}{st:Stmt}{f:Addr}{fd:FuncData}{N ps:List Str}{k n m:Nat}{g:Rho->Option Out}{G:List D->Option D}(hG:G=fnD m g)(hn:ps.length=n)(hm:N.length=m)(F:Fun K x qual st f fd)(S:zAm N ps (zAg st))
  (hb:∀(cdv:Value) (A:Around) (outer:List Env) (s:Shared) (H:Hp) (E:XK),Room k (A.deeper (envOfC qual (zAg st) s.heap.objs.size f cdv))->
   DSs (cxOf CX0 P w K mg base N qual (zAg st) f cdv A outer s H E).nox (zAD st) g):FnOk P w K mg base CX0 (k+1) f fd ps (spD K n G):=by
 subst hn hm hG
 exact fn_D F S hb
end DL
namespace ST
open PySem PySem.SetTable
def fI(M i:Nat):Nat:=(i * 5+1) % (M+1)
def itN(M:Nat):Nat->Nat->Nat
 | 0,i=>i
 | n+1,i=>itN M n (fI M i)
theorem zEd(M:Nat):∀ a b i,itN M (a+b) i=itN M b (itN M a i)
 | 0,b,i=>by rw [Y7];rfl
 | a+1,b,i=>by rw [Nat.succ_add];exact zEd M a b (fI M i)
def logs:Nat->List Nat
 | 7=>[0,1,6,7,4,5,2,3]
 | 15=>[0,1,6,15,12,13,2,11,8,9,14,7,4,5,10,3]
 | 31=>[0,1,6,15,28,13,2,27,24,25,30,7,20,5,26,19,16,17,22,31,12,29,18,11,8,9,14,23,4,21,10,3]
 | 63=>[0,1,6,47,28,45,2,59,56,25,62,7,20,5,58,19,48,49,54,31,12,29,50,43,40,9,46,55,4,53,42,3,32,33,38,15,60,13,34,27,24,57,30,39,52,37,26,51,16,17,22,63,44,61,18,11,8,41,14,23,36,21,10,35]
 | 255=>[0,1,70,239,156,109,2,123,120,25,254,71,148,5,58,83,240,49,182,159,140,157,114,43,104,73,110,247,132,53,170,3,224,97,38,79,124,205,226,219,88,121,222,167,116,101,26,179,208,145,150,255,108,253,82,139,72,169,78,87,100,149,138,99,192,193,6,175,92,45,194,59,56,217,190,7,84,197,250,19,176,241,118,95,76,93,50,235,40,9,46,183,68,245,106,195,160,33,230,15,60,141,162,155,24,57,158,103,52,37,218,115,144,81,86,191,44,189,18,75,8,105,14,23,36,85,74,35,128,129,198,111,28,237,130,251,248,153,126,199,20,133,186,211,112,177,54,31,12,29,242,171,232,201,238,119,4,181,42,131,96,225,166,207,252,77,98,91,216,249,94,39,244,229,154,51,80,17,22,127,236,125,210,11,200,41,206,215,228,21,10,227,64,65,134,47,220,173,66,187,184,89,62,135,212,69,122,147,48,113,246,223,204,221,178,107,168,137,174,55,196,117,234,67,32,161,102,143,188,13,34,27,152,185,30,231,180,165,90,243,16,209,214,63,172,61,146,203,136,233,142,151,164,213,202,163]
 | _=>[0,1,70,111,28,109,2,123,120,25,126,71,20,5,58,83,112,49,54,31,12,29,114,43,104,73,110,119,4,53,42,3,96,97,38,79,124,77,98,91,88,121,94,39,116,101,26,51,80,17,22,127,108,125,82,11,72,41,78,87,100,21,10,99,64,65,6,47,92,45,66,59,56,89,62,7,84,69,122,19,48,113,118,95,76,93,50,107,40,9,46,55,68,117,106,67,32,33,102,15,60,13,34,27,24,57,30,103,52,37,90,115,16,81,86,63,44,61,18,75,8,105,14,23,36,85,74,35]
def zCi(M:Nat):Bool:=(itN M (M+1) 0 == 0) && (List.range (M+1)).all fun j=>decide ((logs M).getD j 0<=M) && itN M ((logs M).getD j 0) 0 == j
theorem cyc7:zCi 7=true:=by decide +kernel
theorem cyc31:zCi 31=true:=by decide +kernel
theorem zLJ:zCi 127=true:=by decide +kernel
theorem cyc15:zCi 15=true:=by decide +kernel
theorem cyc63:zCi 63=true:=by decide +kernel
theorem zLK:zCi 255=true:=by decide +kernel
def Good(M:Nat):Prop:=M=7 ∨ M=31 ∨ M=127 ∨ M=15 ∨ M=63 ∨ M=255
theorem Good.cyc{M:Nat}(g:Good M):zCi M=true:=by
 rcases g with rfl | rfl | rfl | rfl | rfl | rfl
 ·exact cyc7
 ·exact cyc31
 ·exact zLJ
 ·exact cyc15
 ·exact cyc63
 ·exact zLK
theorem cyc0{M:Nat}(g:Good M):itN M (M+1) 0=0/\∀ j,j<=M->∃ k,k<=M/\itN M k 0=j:=by
 have h:=g.cyc
 unfold zCi at h
 rw [QQ,beq_iff_eq,Ye]at h
 refine⟨h.1,fun j hj=>?_⟩
 have:=h.2 j (QO.mpr (by lia))
 rw [QQ,beq_iff_eq,decide_eq_true_eq]at this
 exact⟨_,this.1,this.2⟩
theorem cyc{M i j:Nat}(g:Good M)(hi:i<=M)(hj:j<=M):∃ k,k<=M/\itN M k i=j:=by
 obtain⟨z,c⟩:=cyc0 g
 obtain⟨m,hm,rfl⟩:=c i hi
 obtain⟨n,hn,rfl⟩:=c j hj
 by_cases q:m<=n
 ·refine⟨n-m,by lia,?_⟩
  rw [<- zEd]
  congr 1
  lia
 ·refine⟨n+(M+1)-m,by lia,?_⟩
  rw [<- zEd,show m+(n+(M+1)-m)=(M+1)+n by lia,zEd,z]
def adv(M:Nat)(p:Probe):Probe:=
 if p.more > 0 then{ p with j:=p.j+1,more:=p.more-1 } else
 { p with j:=(leap M p.i p.perturb).1,more:=runEnd M (leap M p.i p.perturb).1-(leap M p.i p.perturb).1,i:=(leap M p.i p.perturb).1,perturb:=(leap M p.i p.perturb).2 }
def run(M:Nat)(l:Nat × Nat):Probe:={ j:=l.1,more:=runEnd M l.1-l.1,i:=l.1,perturb:=l.2,dummy:=none }
def L(M:Nat)(h:Int):Nat->Nat × Nat
 | 0=>(bits h % (M+1),bits h)
 | k+1=>leap M (L M h k).1 (L M h k).2
def P(M:Nat)(h:Int):Nat->Probe
 | 0=>run M (L M h 0)
 | n+1=>adv M (P M h n)
theorem L_le(M:Nat)(h:Int):∀ k,(L M h k).1<=M
 | 0=>YD (Nat.mod_lt _ (Nat.succ_pos _))
 | k+1=>YD (Nat.mod_lt _ (Nat.succ_pos _))
theorem zFJ{M i:Nat}(h:i<=M):i<=runEnd M i/\runEnd M i<=M/\runEnd M i-i<=9:=by
 unfold runEnd
 split <;> lia
theorem P_ok(M:Nat)(h:Int):∀ n,(P M h n).j+(P M h n).more<=M/\(P M h n).dummy=none
 | 0=>by
  have:=zFJ (L_le M h 0)
  show(L M h 0).1+(runEnd M (L M h 0).1-(L M h 0).1)<=M/\none=none
  exact⟨by lia,rfl⟩
 | n+1=>by
  obtain⟨h1,h2⟩:=P_ok M h n
  show(adv M (P M h n)).j+(adv M (P M h n)).more<=M/\(adv M (P M h n)).dummy=none
  unfold adv
  split
  ·exact⟨by show(P M h n).j+1+((P M h n).more-1)<=M;lia,h2⟩
  ·refine⟨?_,h2⟩
   have:(leap M (P M h n).i (P M h n).perturb).1<=M:=YD (Nat.mod_lt _ (Nat.succ_pos _))
   have:=zFJ this
   show(leap M (P M h n).i (P M h n).perturb).1+(runEnd M (leap M (P M h n).i (P M h n).perturb).1-(leap M (P M h n).i (P M h n).perturb).1)<=M
   lia
theorem P_le(M:Nat)(h:Int)(n:Nat):(P M h n).j<=M:=by have:=(P_ok M h n).1;lia
theorem zF0{M:Nat}{h:Int}{n k:Nat}(e:P M h n=run M (L M h k)):∀ d,d<=runEnd M (L M h k).1-(L M h k).1->
  P M h (n+d)={ j:=(L M h k).1+d,more:=runEnd M (L M h k).1-(L M h k).1-d,i:=(L M h k).1,perturb:=(L M h k).2,dummy:=none }
 | 0,_=>e
 | d+1,hd=>by
  show adv M (P M h (n+d))=_
  rw [zF0 e d (by lia)]
  unfold adv
  rw [if_pos (show runEnd M (L M h k).1-(L M h k).1-d > 0 by lia)]
  rfl
theorem zHX{M:Nat}{h:Int}{n k:Nat}(e:P M h n=run M (L M h k)):P M h (n+(runEnd M (L M h k).1-(L M h k).1)+1)=run M (L M h (k+1)):=by
 show adv M (P M h (n+(runEnd M (L M h k).1-(L M h k).1)))=_
 rw [zF0 e _ (Qi _)]
 unfold adv
 rw [if_neg (show ¬ runEnd M (L M h k).1-(L M h k).1-(runEnd M (L M h k).1-(L M h k).1) > 0 by lia)]
 rfl
theorem P_at(M:Nat)(h:Int):∀ k,∃ n,n<=10 * k/\P M h n=run M (L M h k)
 | 0=>⟨0,Qi _,rfl⟩
 | k+1=>by
  obtain⟨n,hn,e⟩:=P_at M h k
  have:=zFJ (L_le M h k)
  exact⟨_,by lia,zHX e⟩
theorem zHK(M:Nat)(h:Int):∀ k,(L M h k).2=bits h / 32 ^ k
 | 0=>by show bits h=_;rw [Nat.pow_zero,Nat.div_one]
 | k+1=>by
  show(L M h k).2 / 32=_
  rw [zHK M h k,Nat.div_div_eq_div_mul,<- Nat.pow_succ]
theorem zLj(h:Int):bits h<36893488147419103232:=by
 unfold bits
 have:h % (2 ^ 64:Int)<2 ^ 64:=Y9 _ (by decide)
 have h2:(2 ^ 64:Int)=18446744073709551616:=by decide
 rw [h2]at this ⊢
 lia
theorem L_13(M:Nat)(h:Int):∀ k,(L M h (13+k)).2=0/\(L M h (13+k)).1=itN M k (L M h 13).1
 | 0=>by
  refine⟨?_,rfl⟩
  rw [zHK]
  exact Nat.div_eq_of_lt (zLj h)
 | k+1=>by
  obtain⟨h1,h2⟩:=L_13 M h k
  show(L M h (13+k)).2 / 32=0/\((L M h (13+k)).1 * 5+1+(L M h (13+k)).2 / 32) % (M+1)=itN M (k+1) (L M h 13).1
  rw [h1,h2,zEd]
  exact⟨rfl,rfl⟩
theorem zId{M:Nat}(g:Good M)(h:Int){j:Nat}(hj:j<=M):∃ k,k<turns M/\(L M h k).1=j:=by
 obtain⟨k,hk,e⟩:=cyc g (L_le M h 13) hj
 exact⟨13+k,by unfold turns;lia,by rw [(L_13 M h k).2,e]⟩
theorem cover{M:Nat}(g:Good M)(h:Int){j:Nat}(hj:j<=M):∃ n,n<10 * turns M/\(P M h n).j=j:=by
 obtain⟨k,hk,e⟩:=zId g h hj
 obtain⟨n,hn,q⟩:=P_at M h k
 exact⟨n,by lia,by rw [q,<- e];rfl⟩
end ST
namespace ST
open PySem PySem.SetTable
abbrev Up(l:List Nat):Prop:=l.Pairwise (· < ·)
theorem Up.at{l:List Nat}(s:Up l){i k x y:Nat}(hx:l[i]?=some x)(hy:l[k]?=some y)(h:i<k):x<y:=by
 obtain⟨h1,rfl⟩:=Qc.mp hx
 obtain⟨h2,rfl⟩:=Qc.mp hy
 exact List.pairwise_iff_getElem.mp s i k h1 h2 h
theorem Up.le{l:List Nat}(s:Up l){i k x y:Nat}(hx:l[i]?=some x)(hy:l[k]?=some y)(h:i<=k):x<=y:=by
 by_cases e:i=k
 ·subst e;rw [hx]at hy;cases hy;exact Qi _
 ·exact YA (s.at hx hy (by lia))
theorem Up.nodup{l:List Nat}(s:Up l):l.Nodup:=s.imp fun h=>Qt h
theorem zGH(xs:Array Nat)(s:Up xs.toList)(j:Nat):∀ fuel lo hi,lo<=hi->hi<=xs.size->hi-lo<=fuel->
  (∀ i x,xs.toList[i]?=some x->i<lo->x<j)->(∀ i x,xs.toList[i]?=some x->hi<=i->j<=x)->
  below.go xs j fuel lo hi<=xs.size/\(∀ i x,xs.toList[i]?=some x->i<below.go xs j fuel lo hi->x<j)/\(∀ i x,xs.toList[i]?=some x->below.go xs j fuel lo hi<=i->j<=x)
 | 0,lo,hi,h1,h2,h3,a,b=>by
  have e:lo=hi:=by lia
  subst e
  exact⟨h2,a,b⟩
 | fuel+1,lo,hi,h1,h2,h3,a,b=>by
  unfold below.go
  by_cases c:lo<hi
  ·rw [if_pos c]
   dsimp only
   have hm:(lo+hi) / 2<xs.size:=by lia
   have hv:xs.toList[(lo+hi) / 2]?=some (xs.getD ((lo+hi) / 2) j):=by
    rw [QA,QE hm]
    simp [Array.getD,hm]
   by_cases d:xs.getD ((lo+hi) / 2) j<j
   ·rw [if_pos d]
    exact zGH xs s j fuel _ _ (by lia) h2 (by lia) (fun i x hx hi'=>Yk (s.le hx hv (by lia)) d) b
   ·rw [if_neg d]
    exact zGH xs s j fuel _ _ (by lia) (by lia) (by lia) a (fun i x hx hi'=>QI (by lia) (s.le hv hx hi'))
  ·rw [if_neg c]
   have e:lo=hi:=by lia
   subst e
   exact⟨h2,a,b⟩
theorem zDb(xs:Array Nat)(s:Up xs.toList)(j:Nat):below xs j<=xs.size/\(∀ i x,xs.toList[i]?=some x->i<below xs j->x<j)/\(∀ i x,xs.toList[i]?=some x->below xs j<=i->j<=x):=
 zGH xs s j _ _ _ (QN _) (Qi _) (by lia) (fun i x _ h=>absurd h (Yu _)) fun i x hx h=>by
  obtain⟨q,_⟩:=Qc.mp hx
  rw [Qp]at q
  lia
structure TOk(t:SetTable)(hs:List Int):Prop where
 good:Good t.mask
 dum:t.dummies=#[]
 len:t.place.toList.length=hs.length
 up:Up t.place.toList
 le:∀ x∈t.place.toList,x<=t.mask
 room:t.place.toList.length * 5<t.mask * 3
 reach:∀ q∈t.place.toList.zip hs,∃ n,(P t.mask q.2 n).j=q.1/\∀ m,m<n->(P t.mask q.2 m).j∈t.place.toList
theorem zFQ{t:SetTable}(hd:t.dummies=#[])(s:Up t.place.toList)(j:Nat):(∃ i,t.slot j=.live i/\t.place.toList[i]?=some j) ∨ (t.slot j=.empty/\j∉t.place.toList):=by
 obtain⟨h1,h2,h3⟩:=zDb t.place s j
 unfold slot
 dsimp only
 by_cases c:(t.place[below t.place j]? == some j)=true
 ·rw [if_pos c]
  exact .inl ⟨_,rfl,by rw [QA];exact Yj c⟩
 ·rw [if_neg c,hd]
  refine .inr ⟨rfl,fun hj=>c ?_⟩
  obtain⟨i,hi⟩:=QR hj
  have e:i=below t.place j:=by
   by_cases a:i<below t.place j
   ·have:=h2 i j hi a;lia
   ·by_cases b:i=below t.place j
    ·exact b
    ·have hb:below t.place j<t.place.toList.length:=by
      obtain⟨q,_⟩:=Qc.mp hi
      lia
     have hv:=Qg hb
     have:=s.at hv hi (by lia)
     have:=h3 _ _ hv (Qi _)
     lia
  rw [<- e,<- QA,hi]
  simp
theorem zKx{t:SetTable}(hd:t.dummies=#[])(s:Up t.place.toList){j i:Nat}(h:t.slot j=.live i):t.place.toList[i]?=some j:=by
 rcases zFQ hd s j with⟨i',h1,h2⟩ | ⟨h1,_⟩
 ·rw [h]at h1;cases h1;exact h2
 ·rw [h]at h1;cases h1
theorem least{p:Nat->Prop}[DecidablePred p]:∀ n,p n->∃ m,m<=n/\p m/\∀ k,k<m->¬ p k:=by
 intro n
 induction n using Nat.strongRecOn with
 | ind n ih=>
  intro h
  by_cases c:∃ k,k<n/\p k
  ·obtain⟨k,hk,pk⟩:=c
   obtain⟨m,h1,h2,h3⟩:=ih k hk pk
   exact⟨m,by lia,h2,h3⟩
  ·exact⟨n,Qi _,h,fun k hk pk=>c ⟨k,hk,pk⟩⟩
theorem spare{M:Nat}{l:List Nat}(h:l.length<=M):∃ j,j<=M/\j∉l:=by
 refine Yo fun c=>?_
 have:List.range (M+1) ⊆ l:=fun j hj=>Yo fun hn=>c ⟨j,by have:=QO.mp hj;lia,hn⟩
 have:=Ym List.nodup_range this
 rw [QP]at this
 lia
theorem zII{M:Nat}{l:List Nat}(g:Good M)(h:l.length<=M)(x:Int):∃ n,n<10 * turns M/\(P M x n).j∉l/\∀ m,m<n->(P M x m).j∈l:=by
 obtain⟨j,hj,hn⟩:=spare h
 obtain⟨n,h1,h2⟩:=cover g x hj
 obtain⟨m,q1,q2,q3⟩:=least (p:=fun n=>(P M x n).j∉l) n (by rw [h2];exact hn)
 exact⟨m,by lia,q2,fun k hk=>Yo (q3 k hk)⟩
section
variable {t:SetTable}{hs:List Int}{hashAt:Nat->Int}{h:Int}{n:Nat}
theorem zIV(T:TOk t hs)(h1:(P t.mask h n).j∉t.place.toList)(h2:∀ m,m<n->(P t.mask h m).j∈t.place.toList):∀ fuel c,c<=n->n-c<fuel->
  (probe.go t hashAt h fuel (P t.mask h c)=some (.empty (P t.mask h n).j none)/\∀ m,c<=m->m<n->∀ i,t.slot (P t.mask h m).j=.live i->hashAt i≠h)
  ∨ ∃ m i,c<=m/\m<n/\t.slot (P t.mask h m).j=.live i/\hashAt i=h/\(∀ m',c<=m'->m'<m->∀ i,t.slot (P t.mask h m').j=.live i->hashAt i≠h)/\probe.go t hashAt h fuel (P t.mask h c)=some (.candidate (P t.mask h m).j i (P t.mask h (m+1)))
 | 0,c,_,hf=>absurd hf (Yu _)
 | fuel+1,c,hc,hf=>by
  unfold probe.go
  by_cases e:c=n
  ·subst e
   rcases zFQ T.dum T.up (P t.mask h c).j with⟨i,q1,q2⟩ | ⟨q1,_⟩
   ·exact absurd (QH q2) h1
   ·rw [q1]
    refine .inl ⟨?_,fun m a b=>by lia⟩
    show some (Met.empty (P t.mask h c).j (P t.mask h c).dummy)=_
    rw [(P_ok t.mask h c).2]
  ·rcases zFQ T.dum T.up (P t.mask h c).j with⟨i,q1,q2⟩ | ⟨_,q2⟩
   ·rw [q1]
    dsimp only
    by_cases k:(hashAt i == h)=true
    ·rw [if_pos k]
     exact .inr ⟨c,i,Qi _,by lia,q1,Yj k,fun m' a b=>by lia,rfl⟩
    ·rw [if_neg k]
     have hk:hashAt i≠h:=fun e=>k (by rw [e];simp)
     rcases zIV T h1 h2 fuel (c+1) (by lia) (by lia)with⟨a,b⟩ | ⟨m,i',a1,a2,a3,a4,a5,a6⟩
     ·refine .inl ⟨a,fun m hm1 hm2 i2 hi2=>?_⟩
      by_cases e2:m=c
      ·subst e2;rw [q1]at hi2;cases hi2;exact hk
      ·exact b m (by lia) hm2 i2 hi2
     ·refine .inr ⟨m,i',by lia,a2,a3,a4,fun m' hm1 hm2 i2 hi2=>?_,a6⟩
      by_cases e2:m'=c
      ·subst e2;rw [q1]at hi2;cases hi2;exact hk
      ·exact a5 m' (by lia) hm2 i2 hi2
   ·exact absurd (h2 c (by lia)) q2
theorem met(T:TOk t hs)(h1:(P t.mask h n).j∉t.place.toList){i j:Nat}(hj:t.place.toList[i]?=some j)(hh:hs[i]?=some h):∃ m,m<n/\(P t.mask h m).j=j:=by
 have hq:(j,h)∈t.place.toList.zip hs:=QH (i:=i) (by rw [Yp];exact⟨hj,hh⟩)
 obtain⟨m,e,a⟩:=T.reach _ hq
 refine⟨m,Yo fun c=>h1 ?_,e⟩
 by_cases d:n=m
 ·subst d;rw [e];exact QH hj
 ·exact a n (by lia)
end
theorem zB7{α:Type}(xs:Array α)(p:Nat)(x:α):(insertAt xs p x).toList=xs.toList.take p++x::xs.toList.drop p:=by
 rw [SetTable.toList_insertAt]
theorem zOD{t:SetTable}{hs:List Int}{h:Int}{n:Nat}(T:TOk t hs)(h1:(P t.mask h n).j∉t.place.toList)(h2:∀ m,m<n->(P t.mask h m).j∈t.place.toList)
  (hr:(t.place.toList.length+1) * 5<t.mask * 3) (pl:Bool):
  TOk { (t.put (P t.mask h n).j).1 with plain:=pl } (hs.take (t.put (P t.mask h n).j).2++h::hs.drop (t.put (P t.mask h n).j).2):=by
 obtain⟨b1,b2,b3⟩:=zDb t.place T.up (P t.mask h n).j
 have hmem:∀ x,x∈(insertAt t.place (below t.place (P t.mask h n).j) (P t.mask h n).j).toList ↔ x=(P t.mask h n).j ∨ x∈t.place.toList:=by
  intro x
  rw [zB7,QD,Qh]
  conv=>rhs;rw [<- Q5 (below t.place (P t.mask h n).j) t.place.toList,QD]
  constructor
  ·rintro(a | a | a)
   ·exact .inr (.inl a)
   ·exact .inl a
   ·exact .inr (.inr a)
  ·rintro(a | a | a)
   ·exact .inr (.inl a)
   ·exact .inl a
   ·exact .inr (.inr a)
 refine⟨T.good,?_,?_,?_,?_,?_,?_⟩
 ·show(if has t.dummies _=true then _ else t.dummies)=#[]
  rw [T.dum]
  rfl
 ·show(insertAt t.place (below t.place (P t.mask h n).j) (P t.mask h n).j).toList.length=(hs.take (below t.place (P t.mask h n).j)++h::hs.drop (below t.place (P t.mask h n).j)).length
  rw [zB7]
  simp only [Qv,QU,Qw,Yd]
  rw [T.len]
 ·show Up (insertAt t.place (below t.place (P t.mask h n).j) (P t.mask h n).j).toList
  rw [zB7]
  unfold Up
  rw [List.pairwise_append]
  have hlt:∀ x∈t.place.toList.take (below t.place (P t.mask h n).j),x<(P t.mask h n).j:=fun x hx=>by
   obtain⟨i,hi⟩:=QR hx
   rw [List.getElem?_take]at hi
   split at hi
   ·rename_i q;exact b2 i x hi q
   ·cases hi
  have hgt:∀ x∈t.place.toList.drop (below t.place (P t.mask h n).j),(P t.mask h n).j<x:=fun x hx=>by
   obtain⟨i,hi⟩:=QR hx
   rw [List.getElem?_drop]at hi
   have:=b3 _ x hi (by lia)
   have hne:x≠(P t.mask h n).j:=fun e=>h1 (e ▸ QH hi)
   lia
  refine⟨T.up.sublist (List.take_sublist _ _),QV.mpr ⟨hgt,T.up.sublist (List.drop_sublist _ _)⟩,fun a ha b hb=>?_⟩
  rcases Qh.mp hb with rfl | hb
  ·exact hlt a ha
  ·exact Nat.lt_trans (hlt a ha) (hgt b hb)
 ·intro x hx
  rcases(hmem x).mp hx with rfl | hx
  ·exact P_le _ _ _
  ·exact T.le x hx
 ·show(insertAt t.place (below t.place (P t.mask h n).j) (P t.mask h n).j).toList.length * 5<t.mask * 3
  rw [zB7]
  simp only [Qv,QU,Qw,Yd]
  lia
 ·intro q hq
  have hz:(insertAt t.place (below t.place (P t.mask h n).j) (P t.mask h n).j).toList.zip (hs.take (below t.place (P t.mask h n).j)++h::hs.drop (below t.place (P t.mask h n).j))=(t.place.toList.take (below t.place (P t.mask h n).j)).zip (hs.take (below t.place (P t.mask h n).j))++((P t.mask h n).j,h)::(t.place.toList.drop (below t.place (P t.mask h n).j)).zip (hs.drop (below t.place (P t.mask h n).j)):=by
   rw [zB7,List.zip_append (by rw [QU,QU,T.len]),List.zip_cons_cons]
  have hq':q=((P t.mask h n).j,h) ∨ q∈t.place.toList.zip hs:=by
   have hq2:q∈(insertAt t.place (below t.place (P t.mask h n).j) (P t.mask h n).j).toList.zip (hs.take (below t.place (P t.mask h n).j)++h::hs.drop (below t.place (P t.mask h n).j)):=hq
   rw [hz,QD,Qh]at hq2
   conv=>rhs;rw [<- Q5 (below t.place (P t.mask h n).j) t.place.toList,<- Q5 (below t.place (P t.mask h n).j) hs,List.zip_append (by rw [QU,QU,T.len]),QD]
   rcases hq2 with a | a | a
   ·exact .inr (.inl a)
   ·exact .inl a
   ·exact .inr (.inr a)
  rcases hq' with rfl | hq'
  ·exact⟨n,rfl,fun m hm=>(hmem _).mpr (.inr (h2 m hm))⟩
  ·obtain⟨m,e,a⟩:=T.reach q hq'
   exact⟨m,e,fun k hk=>(hmem _).mpr (.inr (a k hk))⟩
end ST
namespace ST
open PySem PySem.SetTable
structure Own(M:Nat)(hs:List Int)(ow:Array (Option Nat)):Prop where
 size:ow.size=M+1
 lt:∀ j i:Nat,ow[j]?=some (some i)->i<hs.length
 all:∀ i,i<hs.length->∃ j:Nat,ow[j]?=some (some i)
 inj:∀ j j' i:Nat,ow[j]?=some (some i)->ow[j']?=some (some i)->j=j'
 reach:∀(j i:Nat) (h:Int),ow[j]?=some (some i)->hs[i]?=some h->∃ n,(P M h n).j=j/\∀ m,m<n->∃ i',ow[(P M h m).j]?=some (some i')
theorem Own.free{M:Nat}{hs:List Int}{ow:Array (Option Nat)}(W:Own M hs ow)(h:hs.length<=M):∃ j:Nat,j<=M/\ow[j]?=some none:=by
 refine Yo fun c=>?_
 have hv:∀ j,j<=M->∃ i,ow[j]?=some (some i):=fun j hj=>by
  have hl:j<ow.size:=by rw [W.size];lia
  cases e:ow[j]with
  | none=>exact absurd ⟨j,hj,by rw [QE hl,e]⟩ c
  | some i=>exact⟨i,by rw [QE hl,e]⟩
 have e:∀ j,j<=M->ow[j]?=some (some ((ow.getD j none).getD 0)):=fun j hj=>by
  obtain⟨i,hi⟩:=hv j hj
  have hl:j<ow.size:=by rw [W.size];lia
  rw [hi]
  rw [QE hl]at hi
  have:ow.getD j none=some i:=by simp [Array.getD,hl];exact Qy hi
  rw [this]
  rfl
 have hs1:(List.range (M+1)).map (fun j=>(ow.getD j none).getD 0) ⊆ List.range hs.length:=fun i hi=>by
  obtain⟨j,hj,rfl⟩:=QK.mp hi
  exact QO.mpr (W.lt j _ (e j (by have:=QO.mp hj;lia)))
 have hn:((List.range (M+1)).map (fun j=>(ow.getD j none).getD 0)).Nodup:=by
  unfold List.Nodup
  rw [QW]
  refine List.Pairwise.imp_of_mem ?_ List.nodup_range
  intro a b ha hb hne he
  refine hne (W.inj a b _ (e a (by have:=QO.mp ha;lia)) ?_)
  rw [he]
  exact e b (by have:=QO.mp hb;lia)
 have:=Ym hn hs1
 rw [Ql,QP,QP]at this
 lia
theorem zIJ{M:Nat}{ow:Array (Option Nat)}{h:Int}(hsz:ow.size=M+1):∀ fuel k n,P M h n=run M (L M h k)->(∀ m,m<n->∃ i,ow[(P M h m).j]?=some (some i))->
  (∃ kk,k<=kk/\kk<k+fuel/\ow[(L M h kk).1]?=some none)->
  ∃ n',layClean.free M ow fuel (L M h k).1 (L M h k).2=some (P M h n').j/\ow[(P M h n').j]?=some none/\∀ m,m<n'->∃ i,ow[(P M h m).j]?=some (some i)
 | 0,k,n,e,a,⟨kk,h1,h2,_⟩=>by lia
 | fuel+1,k,n,e,a,⟨kk,h1,h2,h3⟩=>by
  have hr:=zFJ (L_le M h k)
  have hget:∀ d,d<=runEnd M (L M h k).1-(L M h k).1->ow[(L M h k).1+d]?=some (ow.getD ((L M h k).1+d) (some 0)):=fun d hd=>by
   have hl:(L M h k).1+d<ow.size:=by lia
   rw [QE hl]
   simp [Array.getD,hl]
  have hP:∀ d,d<=runEnd M (L M h k).1-(L M h k).1->(P M h (n+d)).j=(L M h k).1+d:=fun d hd=>by rw [zF0 e d hd]
  unfold layClean.free
  cases q:(List.range (runEnd M (L M h k).1+1-(L M h k).1)).find? fun d=>(ow.getD ((L M h k).1+d) (some 0)).isNone with
  | some d=>
   rw [List.find?_range_eq_some]at q
   obtain⟨q1,q2,q3⟩:=q
   have hd:d<=runEnd M (L M h k).1-(L M h k).1:=by have:=QO.mp q2;lia
   refine⟨n+d,?_,?_,fun m hm=>?_⟩
   ·rw [hP d hd]
   ·rw [hP d hd,hget d hd,Option.isNone_iff_eq_none.mp q1]
   ·by_cases c:m<n
    ·exact a m c
    ·have:=q3 (m-n) (by lia)
     have hd':m-n<=runEnd M (L M h k).1-(L M h k).1:=by lia
     have h5:=hP (m-n) hd'
     rw [show n+(m-n)=m by lia]at h5
     rw [h5,hget (m-n) hd']
     cases hv:ow.getD ((L M h k).1+(m-n)) (some 0)with
     | none=>rw [hv]at this;simp at this
     | some i=>exact⟨i,rfl⟩
  | none=>
   rw [List.find?_eq_none]at q
   have hocc:∀ d,d<=runEnd M (L M h k).1-(L M h k).1->∃ i,ow[(L M h k).1+d]?=some (some i):=fun d hd=>by
    have:=q d (QO.mpr (by lia))
    rw [hget d hd]
    cases hv:ow.getD ((L M h k).1+d) (some 0)with
    | none=>rw [hv]at this;simp at this
    | some i=>exact⟨i,rfl⟩
   have hk:kk≠k:=fun e2=>by
    subst e2
    obtain⟨i,hi⟩:=hocc 0 (QN _)
    rw [Nat.add_zero,h3]at hi
    cases hi
   refine zIJ hsz fuel (k+1) _ (zHX e) (fun m hm=>?_) ⟨kk,by lia,by lia,h3⟩
   by_cases c:m<n
   ·exact a m c
   ·have hd':m-n<=runEnd M (L M h k).1-(L M h k).1:=by lia
    have h5:=hP (m-n) hd'
    rw [show n+(m-n)=m by lia]at h5
    rw [h5]
    exact hocc (m-n) hd'
theorem Own.put{M:Nat}{hs:List Int}{ow:Array (Option Nat)}{h:Int}{n:Nat}(W:Own M hs ow)(h1:ow[(P M h n).j]?=some none)(h2:∀ m,m<n->∃ i,ow[(P M h m).j]?=some (some i)):
  Own M (hs++[h]) (ow.setIfInBounds (P M h n).j (some hs.length)):=by
 have hl:(P M h n).j<ow.size:=by rw [W.size];have:=P_le M h n;lia
 have hg:∀ j,(ow.setIfInBounds (P M h n).j (some hs.length))[j]?=if(P M h n).j=j then some (some hs.length)else ow[j]?:=fun j=>by
  rw [Array.getElem?_setIfInBounds]
  split
  ·first | rfl | rw [if_pos hl]
  ·rfl
 have hup:∀ j:Nat,(∃ i,ow[j]?=some (some i))->∃ i,(ow.setIfInBounds (P M h n).j (some hs.length))[j]?=some (some i):=fun j zz=>by
  obtain⟨i,hi⟩:=zz
  rw [hg]
  split
  ·exact⟨_,rfl⟩
  ·exact⟨i,hi⟩
 refine⟨by simpa using W.size,fun j i hj=>?_,fun i hi=>?_,fun j j' i hj hj'=>?_,fun j i x hj hx=>?_⟩
 ·rw [Qv,Yg]
  rw [hg]at hj
  split at hj
  ·cases hj;lia
  ·have:=W.lt j i hj;lia
 ·rw [Qv,Yg]at hi
  by_cases c:i<hs.length
  ·obtain⟨j,hj⟩:=W.all i c
   refine⟨j,?_⟩
   rw [hg,if_neg (fun e=>by rw [e,hj]at h1;cases h1)]
   exact hj
  ·refine⟨(P M h n).j,?_⟩
   rw [hg,if_pos rfl,show i=hs.length by lia]
 ·rw [hg]at hj hj'
  split at hj
  ·rename_i e
   cases hj
   split at hj'
   ·rename_i e';rw [<- e,<- e']
   ·have:=W.lt j' _ hj';lia
  ·split at hj'
   ·cases hj'
    have:=W.lt j _ hj;lia
   ·exact W.inj j j' i hj hj'
 ·rw [hg]at hj
  split at hj
  ·rename_i e
   cases hj
   rw [QX (Qi _),Nat.sub_self]at hx
   cases hx
   exact⟨n,e,fun m hm=>hup _ (h2 m hm)⟩
  ·rw [QS (W.lt j i hj)]at hx
   obtain⟨m,e,a⟩:=W.reach j i x hj hx
   exact⟨m,e,fun k hk=>hup _ (a k hk)⟩
def lay(M:Nat)(acc:Option (Array (Option Nat) × Nat))(h:Int):Option (Array (Option Nat) × Nat):=do
 let(owner,k) <- acc
 let j <- layClean.free M owner (turns M) (bits h % (M+1)) (bits h)
 pure (owner.setIfInBounds j (some k),k+1)
theorem zIE{M:Nat}(g:Good M):∀(rest done:List Int) (ow:Array (Option Nat)),Own M done ow->(done++rest).length<=M->∃ ow',rest.foldl (lay M) (some (ow,done.length))=some (ow',(done++rest).length)/\Own M (done++rest) ow'
 | [],done,ow,W,_=>⟨ow,by rw [Q8];rfl,by rw [Q8];exact W⟩
 | h::rest,done,ow,W,hl=>by
  rw [Qv,Qw]at hl
  obtain⟨j,hj,hf⟩:=W.free (by lia)
  obtain⟨kk,hk,e⟩:=zId g h hj
  obtain⟨n,q1,q2,q3⟩:=zIJ (h:=h) W.size (turns M) 0 0 rfl (fun m hm=>absurd hm (Yu _)) ⟨kk,QN _,by lia,by rw [e];exact hf⟩
  have W2:=W.put q2 q3
  obtain⟨ow',r1,r2⟩:=zIE g rest (done++[h]) _ W2 (by simp;lia)
  refine⟨ow',?_,by rw [<- List.append_cons]at r2;exact r2⟩
  rw [YF]
  have:lay M (some (ow,done.length)) h=some (ow.setIfInBounds (P M h n).j (some done.length),(done++[h]).length):=by
   show(layClean.free M ow (turns M) (L M h 0).1 (L M h 0).2).bind _=_
   rw [q1,Qv]
   rfl
  rw [this,r1,<- List.append_cons]
theorem own0(M:Nat):Own M [] (Array.replicate (M+1) none):=by
 have:∀(j:Nat) (i:Nat),(Array.replicate (M+1) (none:Option Nat))[j]?=some (some i)->False:=fun j i h=>by
  rw [Array.getElem?_replicate]at h
  split at h <;> simp at h
 exact⟨by simp,fun j i h=>(this j i h).elim,fun i hi=>absurd hi (Yu _),fun j j' i h=>(this j i h).elim,fun j i _ h=>(this j i h).elim⟩
theorem zM1{M:Nat}(g:Good M)(hs:Array Int)(hl:hs.size<=M):∃ ow,layClean M hs=some ow/\Own M hs.toList ow:=by
 obtain⟨ow,h1,h2⟩:=zIE g hs.toList [] _ (own0 M) (by simpa using hl)
 refine⟨ow,?_,h2⟩
 unfold layClean
 rw [<- Array.foldl_toList]
 show(hs.toList.foldl (lay M) (some (Array.replicate (M+1) none,0))).map (·.1)=_
 rw [show(0:Nat)=([]:List Int).length from rfl,h1]
 rfl
def zA7(M:Nat)(ow:Array (Option Nat)):List (Nat × Nat):=(List.range (M+1)).filterMap fun j=>(ow.getD j none).map (j,·)
theorem zCR{M:Nat}{hs:List Int}{ow:Array (Option Nat)}(W:Own M hs ow)(q:Nat × Nat):q∈zA7 M ow ↔ q.1<=M/\ow[q.1]?=some (some q.2):=by
 unfold zA7
 rw [List.mem_filterMap]
 constructor
 ·rintro⟨j,hj,e⟩
  have hl:j<ow.size:=by rw [W.size];exact QO.mp hj
  cases hv:ow.getD j none with
  | none=>rw [hv]at e;cases e
  | some i=>
   rw [hv]at e
   cases e
   refine⟨by have:=QO.mp hj;show j<=M;lia,?_⟩
   show ow[j]?=some (some i)
   rw [QE hl]
   simp [Array.getD,hl]at hv
   rw [hv]
 ·rintro⟨h1,h2⟩
  have hl:q.1<ow.size:=by rw [W.size];lia
  refine⟨q.1,QO.mpr (by lia),?_⟩
  rw [QE hl]at h2
  have:ow.getD q.1 none=some q.2:=by simp [Array.getD,hl];exact Qy h2
  rw [this]
  rfl
theorem zJr(M:Nat)(ow:Array (Option Nat)):(zA7 M ow).Pairwise fun p q=>p.1<q.1:=by
 unfold zA7
 rw [List.pairwise_filterMap]
 refine List.Pairwise.imp ?_ List.pairwise_lt_range
 intro a b hab x hx y hy
 cases ha:ow.getD a none with
 | none=>rw [ha]at hx;cases hx
 | some i=>
  cases hb:ow.getD b none with
  | none=>rw [hb]at hy;cases hy
  | some k=>
   rw [ha]at hx;rw [hb]at hy
   cases hx;cases hy
   exact hab
theorem zJh{hs:Array Int}{M:Nat}(fi mo:Nat)(le pl:Bool)(g:Good M)(hl:hs.size * 5<M * 3):
  ∃ t' order,laid M fi mo le pl hs=some (t',order)/\List.Perm order.toList (List.range hs.size)/\TOk t' (order.toList.map fun i=>hs.toList.getD i 0)/\t'.led=le/\t'.plain=pl:=by
 obtain⟨ow,h1,W⟩:=zM1 g hs (by lia)
 have hperm:List.Perm ((zA7 M ow).map (·.2)) (List.range hs.size):=by
  rw [List.perm_ext_iff_of_nodup ?_ List.nodup_range]
  ·intro i
   rw [QK,QO]
   constructor
   ·rintro⟨q,hq,rfl⟩
    have:=W.lt _ _ ((zCR W q).mp hq).2
    simpa using this
   ·intro hi
    obtain⟨j,hj⟩:=W.all i (by simpa using hi)
    have hjl:j<ow.size:=(Array.getElem?_eq_some_iff.mp hj).1
    exact⟨(j,i),(zCR W (j,i)).mpr ⟨by rw [W.size]at hjl;show j<=M;lia,hj⟩,rfl⟩
  ·unfold List.Nodup
   rw [QW]
   refine List.Pairwise.imp_of_mem ?_ (zJr M ow)
   intro p q hp hq hlt he
   have a:=((zCR W p).mp hp).2
   have b:=((zCR W q).mp hq).2
   rw [he]at a
   have:=W.inj _ _ _ a b
   lia
 have hlen:(zA7 M ow).length=hs.size:=by
  have:=hperm.length_eq
  rwa [Ql,QP]at this
 refine⟨{ mask:=M,place:=((zA7 M ow).map (·.1)).toArray,dummies:=#[],finger:=fi,led:=le,moves:=mo,plain:=pl },((zA7 M ow).map (·.2)).toArray,?_,hperm,?_,rfl,rfl⟩
 ·unfold laid
  rw [h1]
  rfl
 ·refine⟨g,rfl,?_,?_,?_,?_,?_⟩
  ·show((zA7 M ow).map (·.1)).length=(((zA7 M ow).map (·.2)).map fun i=>hs.toList.getD i 0).length
   simp
  ·show Up ((zA7 M ow).map (·.1))
   unfold Up
   rw [QW]
   exact zJr M ow
  ·intro x hx
   have hx':x∈(zA7 M ow).map (·.1):=hx
   obtain⟨q,hq,rfl⟩:=QK.mp hx'
   exact((zCR W q).mp hq).1
  ·show((zA7 M ow).map (·.1)).length * 5<M * 3
   rw [Ql,hlen]
   exact hl
  ·intro q hq
   have hq':q∈((zA7 M ow).map (·.1)).zip (((zA7 M ow).map (·.2)).map fun i=>hs.toList.getD i 0):=hq
   rw [YB,List.zip_map']at hq'
   obtain⟨p,hp,rfl⟩:=QK.mp hq'
   obtain⟨a,b⟩:=(zCR W p).mp hp
   have hlt:=W.lt _ _ b
   have hx:hs.toList[p.2]?=some (hs.toList.getD p.2 0):=by
    rw [YQ,Qg hlt]
    rfl
   obtain⟨n,e,c⟩:=W.reach _ _ _ b hx
   refine⟨n,e,fun m hm=>?_⟩
   obtain⟨i,hi⟩:=c m hm
   show(P M (hs.toList.getD p.2 0) m).j∈(zA7 M ow).map (·.1)
   exact QK.mpr ⟨((P M (hs.toList.getD p.2 0) m).j,i),(zCR W _).mpr ⟨P_le _ _ _,hi⟩,rfl⟩
theorem zOK{t:SetTable}{hs:Array Int}{wanted M:Nat}(hM:sizeAbove wanted-1=M)(g:Good M)(hl:hs.size * 5<M * 3):
  ∃ t' order,t.relaid hs wanted=some (t',order)/\List.Perm order.toList (List.range hs.size)/\TOk t' (order.toList.map fun i=>hs.toList.getD i 0)/\t'.led=t.led/\t'.plain=t.plain:=by
 unfold relaid
 rw [hM]
 exact zJh _ _ _ _ g hl
end ST
namespace ST
open PySem PySem.SetTable
section
variable {prog:Program}{w:World}{A:Around}{E:Value->Shared->Prop}{s:Shared}
abbrev TK(prog:Program)(w:World)(h:Heap)(k:List Int)(a:Addr):Prop:=IsTupleKey (intKind prog w) h k a
abbrev TH(prog:Program)(w:World)(k:List Int):Int:=tupleKeyHash (intKind prog w) k
theorem items_int{ks:List Int}{vs:List Value}(h:ItemsAre (intKind prog w) ks vs):∀ v∈vs,∃ i t,v=.int i t:=by
 induction h with
 | nil=>intro v hv;simp at hv
 | @cons k v' ks vs h1 _ ih=>
  intro v hv
  rcases Qh.mp hv with rfl | hv
  ·obtain⟨t,e⟩:=Value.isInt_shape h1
   exact⟨k,t,e⟩
  ·exact ih v hv
theorem zJH{k:List Int}{a:Addr}{Q:Bool->Shared->Prop}(hk:TK prog w s.heap k a)(h:Q false s):wpAny (model prog w) A (ofAClassStatement 8 (.ref a)) Q E s:=by
 have hT:=hk.typeIs
 obtain⟨o,items,n,ho,_,hd,hi⟩:=hk
 have hv:=items_int hi
 unfold ofAClassStatement
 refine Qa (YI hT ?_)
 show wpAny _ _ (do let underTuple <- (if("tuple" == "tuple")=true then pure true else isSubtype (.type "tuple") (.type "tuple"));_) Q E s
 refine Qa ?_
 rw [if_pos (by decide)]
 refine Qb ?_
 simp only [YK,Qm,if_false]
 refine Qa (wpAny_seqItems ho hd ?_)
 dsimp only
 refine Qa ?_
 rw [<- Array.forIn_toList]
 refine Y0 _ (fun rest r s'=>r.1=none/\s'=s/\∀ v∈rest,∃ i t,v=Value.int i t) _ ?_ ?_ _ _ ⟨rfl,rfl,hv⟩
 ·rintro v rest r s' ⟨hr,rfl,hall⟩
  obtain⟨i,t,rfl⟩:=hall v Qj
  refine Qa ?_
  unfold ofAClassStatement
  refine Qb ?_
  simp only [Qm,if_false]
  exact Qb ⟨rfl,rfl,fun u hu'=>hall u (Qe _ hu')⟩
 ·rintro⟨r1,r2⟩ s' ⟨hr,rfl,_⟩
  simp only at hr
  subst hr
  exact Qb h
theorem zLl{k:List Int}{a:Addr}{Q:Bool->Shared->Prop}(hk:TK prog w s.heap k a)(h:Q true s):wpAny (model prog w) A (hashByValue 8 (.ref a)) Q E s:=by
 have hT:=hk.typeIs
 obtain⟨o,items,n,ho,_,hd,hi⟩:=hk
 have hv:=items_int hi
 unfold hashByValue
 refine Qa (wpAny_specialOf hT F.slot_tuple_hash.lookup ?_)
 dsimp only
 refine Qa (wpAny_seqItems ho hd ?_)
 refine Qa ?_
 show wpAny _ _ (forIn items _ _) _ _ s
 rw [<- Array.forIn_toList]
 refine Y0 _ (fun rest r s'=>r.1=none/\s'=s/\∀ v∈rest,∃ i t,v=Value.int i t) _ ?_ ?_ _ _ ⟨rfl,rfl,hv⟩
 ·rintro v rest r s' ⟨hr,rfl,hall⟩
  obtain⟨i,t,rfl⟩:=hall v Qj
  refine Qa ?_
  unfold hashByValue
  refine Qb ?_
  simp only [YK,Qm,if_false]
  exact Qb ⟨rfl,rfl,fun u hu'=>hall u (Qe _ hu')⟩
 ·rintro⟨r1,r2⟩ s' ⟨hr,rfl,_⟩
  simp only at hr
  subst hr
  exact Qb h
theorem zJK{k:List Int}{a:Addr}{stored:List Value}{Q:Bool->Shared->Prop}(hk:TK prog w s.heap k a)(hs:∀ y∈stored,∃ k' b,y=.ref b/\TK prog w s.heap k' b)(h:Q false s):
  wpAny (model prog w) A (searchCouldBeSeen (.ref a) stored) Q E s:=by
 unfold searchCouldBeSeen
 refine Qa ?_
 refine Y0 _ (fun rest r s'=>r.1=none/\s'=s/\∀ y∈rest,∃ k' b,y=.ref b/\TK prog w s.heap k' b) _ ?_ ?_ _ _ ⟨rfl,rfl,hs⟩
 ·rintro v rest r s' ⟨hr,rfl,hall⟩
  have hrest:∀ y∈rest,∃ k' b,y=.ref b/\TK prog w s'.heap k' b:=fun u hu'=>hall u (Qe _ hu')
  obtain⟨k',b,rfl,hb⟩:=hall v Qj
  dsimp only
  by_cases c:(a == b)=true
  ·rw [c]
   simp only [Bool.true_or,if_true]
   exact Qb ⟨rfl,rfl,hrest⟩
  ·rw [if_neg (by simp [carriedByValue,c])]
   refine Qa (wpAny_eqIsQuiet_tuple hk ?_)
   simp only [YK,Qm,if_false]
   refine Qa (wpAny_eqIsQuiet_tuple hb ?_)
   simp only [YK,Qm,if_false]
   refine Qa (zJH hk ?_)
   simp only [Qm,if_false]
   refine Qa (zJH hb ?_)
   simp only [Qm,if_false]
   exact Qb ⟨rfl,rfl,hrest⟩
 ·rintro⟨r1,r2⟩ s' ⟨hr,rfl,_⟩
  simp only at hr
  subst hr
  exact Qb h
end
end ST
namespace ST
open PySem PySem.SetTable
section
variable {prog:Program}{w:World}{A:Around}{E:Value->Shared->Prop}{s:Shared}
inductive Ents(prog:Program)(w:World)(h:Heap):List (Int × Value)->List (List Int)->Prop
 | nil:Ents prog w h [] []
 | cons {k:List Int}{b:Addr}{es:List (Int × Value)}{ks:List (List Int)}:TK prog w h k b->Ents prog w h es ks->Ents prog w h ((TH prog w k,.ref b)::es) (k::ks)
theorem Ents.at{h:Heap}{es:List (Int × Value)}{ks:List (List Int)}(X:Ents prog w h es ks):∀{i:Nat}{e:Int × Value},es[i]?=some e->∃ k b,ks[i]?=some k/\e=(TH prog w k,.ref b)/\TK prog w h k b:=by
 induction X with
 | nil=>intro i e h;simp at h
 | @cons k b es ks h1 _ ih=>
  intro i e h
  cases i with
  | zero=>cases h;exact⟨k,b,rfl,rfl,h1⟩
  | succ i=>exact ih (i:=i) (by simpa using h)
theorem Ents.length{h:Heap}{es:List (Int × Value)}{ks:List (List Int)}(X:Ents prog w h es ks):es.length=ks.length:=by
 induction X with
 | nil=>rfl
 | cons _ _ ih=>simp [ih]
theorem Ents.append{h:Heap}{es es':List (Int × Value)}{ks ks':List (List Int)}(X:Ents prog w h es ks)(Y:Ents prog w h es' ks'):Ents prog w h (es++es') (ks++ks'):=by
 induction X with
 | nil=>exact Y
 | cons h1 _ ih=>exact .cons h1 ih
theorem Ents.take{h:Heap}{es:List (Int × Value)}{ks:List (List Int)}(X:Ents prog w h es ks):∀ n,Ents prog w h (es.take n) (ks.take n):=by
 induction X with
 | nil=>intro n;simpa using Ents.nil
 | cons h1 _ ih=>
  intro n
  cases n with
  | zero=>exact .nil
  | succ n=>exact .cons h1 (ih n)
theorem Ents.drop{h:Heap}{es:List (Int × Value)}{ks:List (List Int)}(X:Ents prog w h es ks):∀ n,Ents prog w h (es.drop n) (ks.drop n):=by
 induction X with
 | nil=>intro n;simpa using Ents.nil
 | @cons k b es ks h1 hr ih=>
  intro n
  cases n with
  | zero=>exact .cons h1 hr
  | succ n=>exact ih n
theorem Ents.mono{h h':Heap}{es:List (Int × Value)}{ks:List (List Int)}(X:Ents prog w h es ks)(m:∀ k b,TK prog w h k b->TK prog w h' k b):Ents prog w h' es ks:=by
 induction X with
 | nil=>exact .nil
 | cons h1 _ ih=>exact .cons (m _ _ h1) ih
theorem Ents.pick{h:Heap}{es:List (Int × Value)}{ks:List (List Int)}(X:Ents prog w h es ks):∀(l:List Nat),(∀ i∈l,i<es.length)->Ents prog w h (l.filterMap (es[·]?)) (l.filterMap (ks[·]?)):=by
 intro l
 induction l with
 | nil=>intro _;exact .nil
 | cons i l ih=>
  intro hl
  have hi:=hl i Qj
  obtain⟨k,b,h1,h2,h3⟩:=X.at (Qg hi)
  rw [List.filterMap_cons_some (b:=(TH prog w k,Value.ref b)) (by rw [Qg hi,h2]),List.filterMap_cons_some (b:=k) h1]
  exact .cons h3 (ih fun j hj=>hl j (Qe _ hj))
theorem TOk.fits{t:SetTable}{hs:List Int}(T:TOk t hs){n:Nat}(e:hs.length=n):t.fits n=true:=by
 have h1:=T.len
 have h2:=T.room
 rw [Qp]at h1 h2
 unfold SetTable.fits SetTable.fill
 rw [T.dum,h1,e]
 rw [h1]at h2
 simp only [QQ,beq_iff_eq,decide_eq_true_eq]
 refine⟨?_,?_⟩
 ·trivial
 ·show n+0<=t.mask
  lia
theorem TOk.odd{t:SetTable}{hs:List Int}(T:TOk t hs):t.gaveWay=false:=by
 unfold SetTable.gaveWay
 rcases T.good with h | h | h | h | h | h <;> rw [h] <;> rfl
theorem zKq{a x:Addr}{o:Obj}{es:Array (Int × Value)}{ep:Nat}{t:SetTable}{ks:List (List Int)}{k:List Int}{n:Nat}{Q:SetFound->Shared->Prop}
  (hu:A.units<cLine) (ho:s.heap.get? a=some o) (hd:o.data=.set es ep t) (T:TOk t (es.toList.map (·.1))) (X:Ents prog w s.heap es.toList ks) (hk:TK prog w s.heap k x)
  (h1:(P t.mask (TH prog w k) n).j∉t.place.toList) (h2:∀ m,m<n->(P t.mask (TH prog w k) m).j∈t.place.toList)
  (q1:k∈ks->Q (.there none) s) (q2:k∉ks->Q (.free (P t.mask (TH prog w k) n).j false) s):
  ∀ fuel c,c<=n->n<10 * turns t.mask->n-c<fuel->(∀ m,m<c->∀ i,t.slot (P t.mask (TH prog w k) m).j=.live i->ks[i]?≠some k)->∀ stand:Option Probe,stand.getD (t.probeStart (TH prog w k))=P t.mask (TH prog w k) c->
  wpAny (model prog w) A (setSearchFrom a (.ref x) (TH prog w k) true fuel stand) Q E s
 | 0,c,_,_,hf,_,_,_=>absurd hf (Yu _)
 | fuel+1,c,hc,hN,hf,inv,stand,hst=>by
  have hfit:t.fits es.size=true:=T.fits (by simp)
  unfold setSearchFrom
  refine Qa (QL ho hd hfit ?_)
  dsimp only
  rw [hst,if_neg (by rw [T.odd];exact Qr)]
  refine Qa (Qb ?_)
  generalize hg:t.probe _ (TH prog w k) (P t.mask (TH prog w k) c)=met
  obtain⟨f,hfe,hg⟩:∃ f:Nat->Int,(∀ i,f i=(es[i]?.map (·.1)).getD 0)/\t.probe f (TH prog w k) (P t.mask (TH prog w k) c)=met:=⟨_,fun _=>rfl,hg⟩
  have key:∀ m i,t.slot (P t.mask (TH prog w k) m).j=.live i->f i≠TH prog w k->ks[i]?≠some k:=fun m i hi hne hki=>by
   have hp:=zKx T.dum T.up hi
   have hl:i<es.toList.length:=by
    have:=(Qc.mp hp).1
    rw [T.len]at this
    simpa using this
   obtain⟨k',b,e1,e2,e3⟩:=X.at (Qg hl)
   rw [hki]at e1
   cases e1
   apply hne
   rw [hfe,<- QA,Qg hl,e2]
   rfl
  have hgo:=zIV (hashAt:=f) T h1 h2 (10 * turns t.mask) c hc (by lia)
  rcases hgo with⟨g1,g2⟩ | ⟨m,i,g1,g2,g3,g4,g5,g6⟩
  ·have:met=some (.empty (P t.mask (TH prog w k) n).j none):=hg.symm.trans g1
   subst this
   dsimp only
   refine Qb (q2 fun hmem=>?_)
   obtain⟨i,hi⟩:=QR hmem
   have hl:i<es.toList.length:=by rw [X.length];exact(Qc.mp hi).1
   obtain⟨k',b,e1,e2,e3⟩:=X.at (Qg hl)
   rw [hi]at e1
   cases e1
   have hpl:i<t.place.toList.length:=by rw [T.len];simpa using hl
   obtain⟨m,hm,hj⟩:=met T h1 (Qg hpl) (h:=TH prog w k) (by rw [QB,Qg hl,e2];rfl)
   obtain⟨i',hs1,hs2⟩ | ⟨_,hs2⟩:=zFQ T.dum T.up (P t.mask (TH prog w k) m).j
   ·have hii:i'=i:=by
     rw [hj]at hs2
     have a1:=Qg hpl
     by_cases l1:i'<i
     ·have:=T.up.at hs2 a1 l1;lia
     ·by_cases l2:i<i'
      ·have:=T.up.at a1 hs2 l2;lia
      ·lia
    subst hii
    by_cases cm:m<c
    ·exact inv m cm i' hs1 hi
    ·exact key m i' hs1 (g2 m (by lia) hm i' hs1) hi
   ·rw [hj]at hs2
    exact hs2 (YL _)
  ·have:met=some (.candidate (P t.mask (TH prog w k) m).j i (P t.mask (TH prog w k) (m+1))):=hg.symm.trans g6
   subst this
   have hp:=zKx T.dum T.up g3
   have hl:i<es.toList.length:=by
    have:=(Qc.mp hp).1
    rw [T.len]at this
    simpa using this
   obtain⟨k',b,e1,e2,e3⟩:=X.at (Qg hl)
   have hei:es[i]?=some (TH prog w k',.ref b):=by rw [<- QA,Qg hl,e2]
   dsimp only
   have hseen:∀ y∈(es.filter (fun x=>x.1 == TH prog w k)).toList.map (fun x=>x.2),∃ k' b,y=.ref b/\TK prog w s.heap k' b:=fun y hy=>by
    obtain⟨e,he,rfl⟩:=QK.mp hy
    have he':e∈es.toList:=by
     rw [Array.toList_filter]at he
     exact(QT.mp he).1
    obtain⟨i2,hi2⟩:=QR he'
    obtain⟨k2,b2,_,z2,z3⟩:=X.at hi2
    exact⟨k2,b2,by rw [z2],z3⟩
   split
   all_goals try (refine Qa (zJK hk hseen ?_);rw [if_neg Qr])
   all_goals
    rw [hei]
    dsimp only
    refine Qa (Q2 (wpAny_eqBool_tuple hu e3 hk ?_))
    refine Qa (QL ho hd hfit ?_)
    dsimp only
    by_cases hkk:k'=k
    ·rw [if_pos (by simp [hkk])]
     exact Qb (q1 (hkk ▸ QH e1))
    ·rw [if_neg (by simp [hkk]),show t.sameMemory t.moves t.mask=some true by unfold sameMemory;simp]
     dsimp only
     rw [if_pos rfl,g3]
     dsimp only
     rw [hei]
     dsimp only
     refine Qa (wpAny_isSame_ref_self ?_)
     simp only [if_true]
     refine Qa (Qb ?_)
     dsimp only
     rw [if_neg (by simp [hkk])]
     refine zKq hu ho hd T X hk h1 h2 q1 q2 fuel (m+1) (by lia) hN (by lia) (fun m' hm' i' hi'=>?_) _ rfl
     by_cases l1:m'<c
     ·exact inv m' l1 i' hi'
     ·by_cases l2:m'=m
      ·subst l2
       rw [g3]at hi'
       cases hi'
       rw [e1]
       exact fun e=>hkk (Qy e)
      ·exact key m' i' hi' (g5 m' (by lia) (by lia) i' hi')
end
end ST
namespace ST
open PySem PySem.SetTable
section
variable {prog:Program}{w:World}{A:Around}{E:Value->Shared->Prop}{s:Shared}
theorem TK.keep{h h':Heap}{a b:Addr}{o:Obj}{es:Array (Int × Value)}{ep:Nat}{t:SetTable}{k:List Int}(ho:h.get? a=some o)(hd:o.data=.set es ep t)(hs:Heap.SameBut a h h')(x:TK prog w h k b):TK prog w h' k b:=by
 obtain⟨o',items,n,ho',hc,hd',hi⟩:=x
 have hne:b≠a:=by
  rintro rfl
  obtain rfl:o'=o:=Qy (ho'.symm.trans ho)
  rw [hd]at hd';exact nomatch hd'
 exact⟨o',items,n,(hs.2 b hne).trans ho',hc,hd',hi⟩
def ledW(w:World):Bool := !w.params.followText "set-order"
def SetT(prog:Program)(w:World)(V:Value->Prop)(h:Heap)(a:Addr)(ks:List (List Int)):Prop:=
 ∃ o es ep t,h.get? a=some o/\o.ExactSet/\o.data=.set es ep t/\TOk t (es.toList.map (·.1))/\(t.plain=true/\t.led=ledW w)/\Ents prog w h es.toList ks/\ks.Nodup/\∀ e∈es.toList,V e.2
theorem zGO(es:List (Int × Value)):∀ l:List Nat,(∀ i∈l,i<es.length)->(l.filterMap (es[·]?)).map (·.1)=l.map fun i=>(es.map (·.1)).getD i 0
 | [],_=>rfl
 | i::l,h=>by
  have hi:=h i Qj
  rw [List.filterMap_cons_some (b:=es[i]) (Qg hi),Qq,Qq,zGO es l fun j hj=>h j (Qe _ hj)]
  congr 1
  rw [YQ,QB,Qg hi]
  rfl
theorem zMx{t:SetTable}{hs:List Int}(T:TOk t hs)(hf:(t.place.toList.length+1) * 5 >= t.mask * 3)(h76:t.place.toList.length+1<=76):
  ∃ M,sizeAbove (grown (t.place.toList.length+1))-1=M/\Good M/\(t.place.toList.length+1) * 5<M * 3/\¬ sizeAbove (grown (t.place.toList.length+1)) > sizeLine:=by
 have hr:=T.room
 rcases T.good with g | g | g | g | g | g
 ·rw [g]at hr hf
  have e:t.place.toList.length+1=5:=by lia
  rw [e]
  exact⟨31,by decide,.inr (.inl rfl),by decide,by rw [Ya];decide⟩
 ·rw [g]at hr hf
  have e:t.place.toList.length+1=19:=by lia
  rw [e]
  exact⟨127,by decide,.inr (.inr (.inl rfl)),by decide,by rw [Ya];decide⟩
 ·rw [g]at hr hf
  lia
 ·rw [g]at hr hf
  have e:t.place.toList.length+1=9:=by lia
  rw [e]
  exact⟨63,by decide,.inr (.inr (.inr (.inr (.inl rfl)))),by decide,by rw [Ya];decide⟩
 ·rw [g]at hr hf
  have e:t.place.toList.length+1=38:=by lia
  rw [e]
  exact⟨255,by decide,.inr (.inr (.inr (.inr (.inr rfl)))),by decide,by rw [Ya];decide⟩
 ·rw [g]at hr hf
  lia
theorem zKb{V:Value->Prop}{a:Addr}{o:Obj}{es:Array (Int × Value)}{ep:Nat}{t:SetTable}{ks:List (List Int)}{wanted M:Nat}{Q:Unit->Shared->Prop}
  (ho:s.heap.get? a=some o) (hex:o.ExactSet) (hd:o.data=.set es ep t) (hfit:t.fits es.size=true) (hp:t.plain=true/\t.led=ledW w) (X:Ents prog w s.heap es.toList ks) (hnd:ks.Nodup) (hV:∀ e∈es.toList,V e.2)
  (hM:sizeAbove wanted-1=M) (g:Good M) (hl:es.size * 5<M * 3) (hz:¬ sizeAbove wanted > sizeLine) (hsz:es.size<=sizeLine)
  (h:∀ h' ks',Heap.SameBut a s.heap h'->SetT prog w V h' a ks'->List.Perm ks' ks->Q () { s with heap:=h' }):
  wpAny (model prog w) A (setRelay a wanted) Q E s:=by
 obtain⟨t',order,r1,r2,r3,r4,r5⟩:=zOK (t:=t) (hs:=es.map (·.1)) hM g (by simpa using hl)
 have hlt:∀ i∈order.toList,i<es.toList.length:=fun i hi=>by
  have:=QO.mp (r2.mem_iff.mp hi)
  simpa using this
 have hes:(order.filterMap (es[·]?)).toList=order.toList.filterMap (es.toList[·]?):=by
  rw [Ja]
  congr 1
  funext i
  rw [QA]
 have hperm:List.Perm (order.filterMap (es[·]?)).toList es.toList:=by
  rw [Ja]
  refine(r2.filterMap _).trans ?_
  rw [YO,filterMap_getElem?_range]
 have hsize:(order.filterMap (es[·]?)).size=es.size:=by rw [<- Qp,hperm.length_eq,Qp]
 unfold setRelay
 refine Qa (QL ho hd hfit ?_)
 dsimp only
 rw [if_neg hz]
 rw [r1]
 refine Qa ?_
 show wpAny _ _ (if((order.filterMap (es[·]?)).size != es.size)=true then _ else pure (order.filterMap (es[·]?),t')) _ _ s
 rw [if_neg (by simp [hsize])]
 refine Qb ?_
 dsimp only
 refine YX ho hd ?_ (by rw [hsize];exact hsz)
 have hg:(s.heap.update a (Obj.putSet (order.filterMap (es[·]?)) t')).get? a=some { o with data:=.set (order.filterMap (es[·]?)) (ep+1) t' }:=by
  have:=Q6 (Obj.putSet (order.filterMap (es[·]?)) t') ho (by rw [Y1 _ t' hd];rfl)
  rw [Y1 _ t' hd]at this;exact this
 have hsb:=QZ s.heap a (Obj.putSet (order.filterMap (es[·]?)) t')
 refine h _ (order.toList.filterMap (ks[·]?)) hsb ⟨_,_,_,t',hg,hex,rfl,?_,⟨by rw [r5];exact hp.1,by rw [r4];exact hp.2⟩,?_,?_,fun e he=>hV e (hperm.mem_iff.mp he)⟩ ?_
 ·rw [hes,zGO _ _ hlt]
  simpa using r3
 ·rw [hes]
  exact(X.pick _ hlt).mono fun k b=>TK.keep ho hd hsb
 ·have:List.Perm (order.toList.filterMap (ks[·]?)) ks:=by
   refine(r2.filterMap _).trans ?_
   rw [YO,<- Qp,X.length,YG]
  exact this.nodup_iff.mpr hnd
 ·refine(r2.filterMap _).trans ?_
  rw [YO,<- Qp,X.length,YG]
theorem zH0{V:Value->Prop}{a x:Addr}{ks:List (List Int)}{k:List Int}{Q:Bool->Shared->Prop}(hu:A.units<cLine)(S:SetT prog w V s.heap a ks)(hk:TK prog w s.heap k x)(hx:V (.ref x))(h76:ks.length+1<=76)
  (q1:k∈ks->Q false s) (q2:k∉ks->∀ h' ks',Heap.SameBut a s.heap h'->SetT prog w V h' a ks'->List.Perm ks' (k::ks)->Q true { s with heap:=h' }):
  wpAny (model prog w) A (setAddHashed a (.ref x) (TH prog w k)) Q E s:=by
 obtain⟨o,es,ep,t,ho,hex,hd,T,hp,X,hnd,hV⟩:=S
 have hfit:t.fits es.size=true:=T.fits (by simp)
 have hlen:t.place.toList.length=ks.length:=by rw [T.len,Ql,X.length]
 have hes:es.size=ks.length:=by rw [<- X.length,Qp]
 have hroom:=T.room
 obtain⟨n,n1,n2,n3⟩:=zII (l:=t.place.toList) T.good (by lia) (TH prog w k)
 have hM:t.mask<=255:=by rcases T.good with g | g | g | g | g | g <;> lia
 unfold setAddHashed setAddHashedIn
 refine Q2 (Qa (QL ho hd hfit ?_))
 dsimp only
 rw [if_neg (by simp [byScan,Value.scannable])]
 refine Qa ?_
 unfold setSearch
 refine zKq hu ho hd T X hk n2 n3 ?_ ?_ 100000 0 (QN _) n1 (by unfold turns at n1;lia) (fun m hm=>absurd hm (Yu _)) none rfl
 ·intro hmem
  exact Qb (q1 hmem)
 ·intro hmem
  dsimp only
  refine Qa (QL ho hd hfit ?_)
  dsimp only
  rw [if_pos (show(t.put (P t.mask (TH prog w k) n).j).1.plain=true from hp.1)]
  refine Qa (zLl hk ?_)
  rw [if_pos rfl]
  have hesz:(insertAt es (t.put (P t.mask (TH prog w k) n).j).2 (TH prog w k,Value.ref x)).size=es.size+1:=by
   rw [<- Qp,(YJ _ _ _).length_eq]
   simp
  refine Qa (YX ho hd ?_ (by rw [hesz,Ya];lia))
  have hg:(s.heap.update a (Obj.putSet (insertAt es (t.put (P t.mask (TH prog w k) n).j).2 (TH prog w k,Value.ref x)) (t.put (P t.mask (TH prog w k) n).j).1)).get? a=some { o with data:=.set (insertAt es (t.put (P t.mask (TH prog w k) n).j).2 (TH prog w k,Value.ref x)) (ep+1) (t.put (P t.mask (TH prog w k) n).j).1 }:=by
   have:=Q6 (Obj.putSet (insertAt es (t.put (P t.mask (TH prog w k) n).j).2 (TH prog w k,Value.ref x)) (t.put (P t.mask (TH prog w k) n).j).1) ho (by rw [Y1 _ _ hd];rfl)
   rw [Y1 _ _ hd]at this;exact this
  have hsb:=QZ s.heap a (Obj.putSet (insertAt es (t.put (P t.mask (TH prog w k) n).j).2 (TH prog w k,Value.ref x)) (t.put (P t.mask (TH prog w k) n).j).1)
  have X2:Ents prog w (s.heap.update a (Obj.putSet (insertAt es (t.put (P t.mask (TH prog w k) n).j).2 (TH prog w k,Value.ref x)) (t.put (P t.mask (TH prog w k) n).j).1)) (insertAt es (t.put (P t.mask (TH prog w k) n).j).2 (TH prog w k,Value.ref x)).toList (ks.take (t.put (P t.mask (TH prog w k) n).j).2++k::ks.drop (t.put (P t.mask (TH prog w k) n).j).2):=by
   rw [zB7]
   exact((X.take _).append (.cons hk (X.drop _))).mono fun k b=>TK.keep ho hd hsb
  have hkp:List.Perm (ks.take (t.put (P t.mask (TH prog w k) n).j).2++k::ks.drop (t.put (P t.mask (TH prog w k) n).j).2) (k::ks):=by
   refine List.perm_middle.trans ?_
   rw [Q5]
  have hnd2:(ks.take (t.put (P t.mask (TH prog w k) n).j).2++k::ks.drop (t.put (P t.mask (TH prog w k) n).j).2).Nodup:=hkp.nodup_iff.mpr (Yc.mpr ⟨hmem,hnd⟩)
  have hV2:∀ e∈(insertAt es (t.put (P t.mask (TH prog w k) n).j).2 (TH prog w k,Value.ref x)).toList,V e.2:=fun e he=>by
   have:=(YJ es (t.put (P t.mask (TH prog w k) n).j).2 (TH prog w k,Value.ref x)).mem_iff.mp he
   rw [Array.toList_push,QD,QC]at this
   rcases this with h | rfl
   ·exact hV e h
   ·exact hx
  have hfill:(t.put (P t.mask (TH prog w k) n).j).1.fill=t.place.toList.length+1:=by
   show(insertAt t.place (below t.place (P t.mask (TH prog w k) n).j) (P t.mask (TH prog w k) n).j).size+(if has t.dummies _=true then _ else t.dummies).size=_
   rw [T.dum,<- Qp,(YJ _ _ _).length_eq]
   simp [has]
  have hfit2:(t.put (P t.mask (TH prog w k) n).j).1.fits (insertAt es (t.put (P t.mask (TH prog w k) n).j).2 (TH prog w k,Value.ref x)).size=true:=by
   unfold SetTable.fits
   rw [hfill,hesz]
   have:(t.put (P t.mask (TH prog w k) n).j).1.place.size=es.size+1:=by
    show(insertAt t.place (below t.place (P t.mask (TH prog w k) n).j) (P t.mask (TH prog w k) n).j).size=_
    rw [<- Qp,(YJ _ _ _).length_eq]
    simp
    rw [<- Qp,hlen,hes]
   rw [this]
   simp only [beq_self_eq_true,Bool.true_and,decide_eq_true_eq]
   show t.place.toList.length+1<=t.mask
   lia
  by_cases hfull:(t.put (P t.mask (TH prog w k) n).j).1.tooFull=true
  ·rw [hfull]
   simp only [Bool.not_false,Bool.and_self,if_true]
   have hf5:(t.place.toList.length+1) * 5 >= t.mask * 3:=by
    unfold SetTable.tooFull at hfull
    rw [hfill]at hfull
    exact of_decide_eq_true hfull
   obtain⟨M,m1,m2,m3,m4⟩:=zMx T hf5 (by lia)
   refine Qa (zKb (V:=V) hg hex rfl hfit2 hp X2 hnd2 hV2 (M:=M) ?_ m2 ?_ ?_ ?_ ?_)
   ·rw [hes,<- hlen];exact m1
   ·rw [hesz,hes,<- hlen];exact m3
   ·rw [hes,<- hlen];exact m4
   ·rw [hesz,Ya];lia
   ·intro h' ks' hsb' S' pk
    exact Qb (q2 hmem h' ks' (hsb.trans hsb') S' (pk.trans hkp))
  ·rw [Bool.not_eq_true]at hfull
   rw [hfull]
   simp only [Bool.and_false,Qm,if_false]
   have hf5:(t.place.toList.length+1) * 5<t.mask * 3:=by
    unfold SetTable.tooFull at hfull
    rw [hfill]at hfull
    have:=of_decide_eq_false hfull
    have e:(t.put (P t.mask (TH prog w k) n).j).1.mask=t.mask:=rfl
    rw [e]at this
    lia
   have T2:=zOD T n2 n3 hf5 t.plain
   refine Qa (Qb (Qb (q2 hmem _ _ hsb ⟨_,_,_,_,hg,hex,rfl,?_,hp,X2,hnd2,hV2⟩ hkp)))
   rw [zB7,Q0,Qq,List.map_take,List.map_drop]
   exact T2
end
end ST
namespace ST
open PySem PySem.SetTable PyProof.Rows
section
variable {prog:Program}{w:World}{A:Around}{R:Result->Shared->Prop}{I:Addr}{fp wr:List Addr}{G:Array GenState->Array GenState->Prop}{n:Nat}{Pv:Nat->Value->Prop}{St:Nat->Shared->Prop}{V:Value->Prop}
theorem TK.at{h h':Heap}{k:List Int}{b:Addr}(x:TK prog w h k b)(e:∀ o,h.get? b=some o->h'.get? b=some o):TK prog w h' k b:=by
 obtain⟨o,items,n,ho,r⟩:=x
 exact⟨o,items,n,e o ho,r⟩
theorem SetT.moved{h h':Heap}{a:Addr}{ks:List (List Int)}(S:SetT prog w V h a ks)(e:∀ b o,h.get? b=some o->(b=a ∨ ∃ k,TK prog w h k b)->h'.get? b=some o):SetT prog w V h' a ks:=by
 obtain⟨o,es,ep,t,ho,hex,hd,T,hp,X,hnd,hV⟩:=S
 exact⟨o,es,ep,t,e a o ho (.inl rfl),hex,hd,T,hp,X.mono fun k b x=>x.at fun o' ho'=>e b o' ho' (.inr ⟨k,x⟩),hnd,hV⟩
def Keys(ks:List (List Int))(val:Nat->List Int)(i:Nat):Prop:=∀ k,k∈ks ↔ ∃ j,j<i/\val j=k
theorem zMV{ks:List (List Int)}{val:Nat->List Int}{i:Nat}(h:Keys ks val i)(hn:ks.Nodup):ks.length<=i:=by
 have:ks ⊆ (List.range i).map val:=fun k hk=>by
  obtain⟨j,hj,e⟩:=(h k).mp hk
  exact QK.mpr ⟨j,QO.mpr hj,e⟩
 have:=Ym hn this
 simpa using this
theorem SetT.nodup{h:Heap}{a:Addr}{ks:List (List Int)}(S:SetT prog w V h a ks):ks.Nodup:=by
 obtain⟨o,es,ep,t,ho,hex,hd,T,hp,X,hnd,hV⟩:=S
 exact hnd
theorem zKR(W:WalksS prog w A.in1 I fp wr G n Pv St)(S:Addr)(hSf:S∉fp)(hu:A.in1.units<cLine)(val:Nat->List Int)(s0:Heap)
  (hold:∀ b o,s0.get? b=some o->b≠S/\b∉wr) (hval:∀ i v,i<n->Pv i v->V v/\∃ b,v=.ref b/\TK prog w s0 (val i) b) (hb:n<=75):
  ∀(k i:Nat) (s:Shared) (ks:List (List Int)),n-i=k->i<=n->St i s->(∀ b o,s0.get? b=some o->s.heap.get? b=some o)->
   SetT prog w (fun v=>V v/\∃ k b,v=.ref b/\TK prog w s0 k b) s.heap S ks->Keys ks val i->
   (∀ s' ks',Moved (S::wr) G s s'->(∀ b o,s0.get? b=some o->s'.heap.get? b=some o)->SetT prog w (fun v=>V v/\∃ k b,v=.ref b/\TK prog w s0 k b) s'.heap S ks'->Keys ks' val n->R (.ok (.ret .none)) s')->
   codeAny (model prog w) A (.builtin "set.update.loop" ⟨[.ref S,.ref I],[]⟩) R s:=by
 have hSw:S∉wr:=fun h=>hSf (W.sub _ h)
 have hsub:∀ b∈wr,b∈S::wr:=fun b hb=>Qe _ hb
 have hmv:∀(s s':Shared) ks,Moved wr G s s'->(∀ b o,s0.get? b=some o->s.heap.get? b=some o)->SetT prog w (fun v=>V v/\∃ k b,v=.ref b/\TK prog w s0 k b) s.heap S ks->SetT prog w (fun v=>V v/\∃ k b,v=.ref b/\TK prog w s0 k b) s'.heap S ks:=fun s s' ks hm h0 hS=>by
  obtain⟨o,es,ep,t,ho,hex,hd,T,hp,X,hnd,hV⟩:=hS
  refine⟨o,es,ep,t,hm.heap S _ hSw ho,hex,hd,T,hp,?_,hnd,hV⟩
  clear hd hex ho T hp
  have:∀ e∈es.toList,∃ k b,e.2=.ref b/\TK prog w s0 k b:=fun e he=>(hV e he).2
  revert this
  clear hV hnd
  generalize es.toList=l at X
  intro this
  induction X with
  | nil=>exact .nil
  | @cons k b es ks h1 hr ih=>
   refine .cons ?_ (ih fun e he=>this e (Qe _ he))
   obtain⟨k',b',e1,e2⟩:=this _ Qj
   have e1':b=b':=by injection e1
   subst e1'
   obtain⟨o',items,n',ho',r⟩:=e2
   refine h1.at fun o2 ho2=>?_
   have:=h0 b o' ho'
   rw [ho2]at this
   cases this
   exact hm.heap b _ (hold b _ ho').2 (h0 b _ ho')
 intro k
 induction k with
 | zero=>
  intro i s ks hk hi hst h0 hS hK hR
  have hin:i=n:=by lia
  subst hin
  refine YV F.entry_set_update_loop ?_
  rw [YY Y2 _]
  show wpAny _ A.in1 (pyNext (.ref I) >>= _) _ _ s
  refine Qa (W.done s _ _ hst fun s' hm=>?_)
  show wpAny _ A.in1 (ret Value.none) _ _ s'
  exact Qb (hR s' ks (hm.mono hsub) (fun b o e=>hm.heap b o (hold b o e).2 (h0 b o e)) (hmv s s' ks hm h0 hS) hK)
 | succ k ih=>
  intro i s ks hk hi hst h0 hS hK hR
  have hlt:i<n:=by lia
  refine YV F.entry_set_update_loop ?_
  rw [YY Y2 _]
  show wpAny _ A.in1 (pyNext (.ref I) >>= _) _ _ s
  refine Qa (W.item i s _ _ hlt hst fun v s' hP hst' hm=>?_)
  obtain⟨hVv,b,rfl,hb0⟩:=hval i v hlt hP
  have h0':∀ b o,s0.get? b=some o->s'.heap.get? b=some o:=fun b o e=>hm.heap b o (hold b o e).2 (h0 b o e)
  have hb1:TK prog w s'.heap (val i) b:=hb0.at fun o e=>h0' b o e
  have hS':=hmv s s' ks hm h0 hS
  show wpAny _ A.in1 (holding [Value.ref b] (setAdd S (.ref b)) >>= _) _ _ s'
  refine Qa (Q2 ?_)
  unfold setAdd
  refine Q2 ?_
  refine Qa (wpAny_pyHash_tuple hu hb1 ?_)
  have hlen:=zMV hK hS.nodup
  have hmoved:∀(h':Heap) (tk:Nat),s'.toks<=tk->Heap.SameBut S s'.heap h'->Moved (S::wr) G s { s' with heap:=h',toks:=tk }:=fun h' tk htk hsb=>
   (hm.mono hsub).then_heap htk fun b o hb e=>by rw [hsb.2 b (fun h:b=S=>hb (by rw [h];exact Qj))];exact e
  refine zH0 (V:=fun v=>V v/\∃ k b,v=.ref b/\TK prog w s0 k b) (s:={ s' with toks:=s'.toks+((val i).length+1) }) hu hS' hb1 ⟨hVv,val i,b,rfl,hb0⟩ (by lia) ?_ ?_
  ·intro hmem
   refine Qb ⟨plainId_quiet Y2 _,ih (i+1) _ ks (by lia) hlt (W.frame _ s' s'.heap _ hst' (Yf _ _) fun b hb o e=>e) h0' hS' ?_ fun s'' ks'' hm'' h0'' hS'' hK''=>?_⟩
   ·intro k'
    rw [hK k']
    constructor
    ·rintro⟨j,hj,e⟩;exact⟨j,by lia,e⟩
    ·rintro⟨j,hj,e⟩
     by_cases c:j=i
     ·subst c;subst e;exact(hK _).mp hmem
     ·exact⟨j,by lia,e⟩
   ·exact hR s'' ks'' (Moved.trans W.gtrans (hmoved s'.heap _ (Yf _ _) (Heap.SameBut.refl S _)) hm'') h0'' hS'' hK''
  ·intro hmem h' ks' hsb hS2 hp
   have h02:∀ b o,s0.get? b=some o->h'.get? b=some o:=fun b o e=>by
    rw [hsb.2 b (hold b o e).1];exact h0' b o e
   refine Qb ⟨plainId_quiet Y2 _,ih (i+1) _ ks' (by lia) hlt (W.frame _ s' _ _ hst' (Yf _ _) fun b hb o e=>?_) h02 hS2 ?_ fun s'' ks'' hm'' h0'' hS'' hK''=>?_⟩
   ·rw [hsb.2 b (fun h:b=S=>hSf (by rw [<- h];exact hb))];exact e
   ·intro k'
    rw [hp.mem_iff,Qh,hK k']
    constructor
    ·rintro(rfl | ⟨j,hj,e⟩)
     ·exact⟨i,by lia,rfl⟩
     ·exact⟨j,by lia,e⟩
    ·rintro⟨j,hj,e⟩
     by_cases c:j=i
     ·subst c;exact .inl e.symm
     ·exact .inr ⟨j,by lia,e⟩
   ·exact hR s'' ks'' (Moved.trans W.gtrans (hmoved h' _ (Yf _ _) hsb) hm'') h0'' hS'' hK''
end
section
variable {prog:Program}{w:World}{A:Around}{E:Value->Shared->Prop}{s:Shared}
theorem zJD(a:Value){Q₁:Value->Shared->Prop}
  (h:Q₁ (.ref s.heap.objs.size) { s with heap:=s.heap.push { cls:=.type "set",dict:=none,data:=.set #[] 0 (.fresh 0 0 (ledW w)) } }):
  codeAny (model prog w) A (.call (.builtin "set.__new__") ⟨[.type "set",a],[]⟩) (wants Q₁ E) s:=by
 refine codeAny_of_tree ?_
 show wpAny _ A.in1 (checkBuiltinCall "set.__new__" ⟨[.type "set",a],[]⟩ >>= fun _=>again (.builtin "set.__new__" ⟨[.type "set",a],[]⟩)) _ _ s
 refine Qa (wpAny_of_eq (F.newCall_set_1 a) (Qb ⟨plainId_quiet F.plain_set_new _,YV F.entry_set_new ?_⟩))
 rw [YY F.plain_set_new _]
 unfold Builtin.«set.__new__» Builtin.Frozenset.newClass
 have hsub:=sub_set_self
 obtain⟨hp,g,d,tk,os⟩:=s
 dsimp only
 wp_walk
 refine wpAny_askSetting (Qb ?_)
 dsimp only
 simp only [newObj]
 refine Qa (wpAny_alloc (Qb ?_))
 exact Qb h
theorem zPv:isSubtype (.type "tuple") (.type "set")=pure false:=by rw [isSubtype_type];kernel_rfl
theorem zPu:isSubtype (.type "tuple") (.type "frozenset")=pure false:=by rw [isSubtype_type];kernel_rfl
end
section
variable {prog:Program}{w:World}{A:Around}{E:Value->Shared->Prop}{s:Shared}{V:Value->Prop}
theorem zLr{l:Addr}{items:Array Value}{kl:List (List Int)}{Q:Value->Shared->Prop}
  (hh:A.handled=none) (hu:A.units+8<cLine) (hl:s.heap.IsList l items) (hi:∀ i v,items[i]?=some v->V v/\∃ b,v=.ref b/\TK prog w s.heap (kl.getD i []) b) (hb:items.size<=75)
  (h:∀(h':Heap) (tk:Nat) ks,SetT prog w V h' s.heap.objs.size ks->Keys ks (fun i=>kl.getD i []) items.size->
   (∀ b o,s.heap.get? b=some o->h'.get? b=some o)->Q (.ref s.heap.objs.size) { s with heap:=h',toks:=tk }):
  wpAny (model prog w) A (call (.type "set") [.ref l]) Q E s:=by
 obtain⟨c,tl,hmro⟩:=F.called_set.mro
 have hmade:=F.called_set.made
 have hsub:=F.called_set.sub
 refine wpAny_call (codeAny_of_tree ?_)
 show wpAny _ _ (callAny (.type "set") _) _ _ _
 refine Qb ⟨Code.quiet_builtin _ (by decide +kernel),YV F.entry_type_call ?_⟩
 rw [Around.under_plain (weight_type_call_type "set" [.ref l] []) rfl]
 have h1:=F.called_set.notType
 have h2:=F.called_set.canCreate
 have hct:=F.typeCall_set_1 (.ref l)
 repeat (any_goals (first | assumption | wp_step))
 refine Y6 (zJD (.ref l) (E:=E) (Q₁:=fun obj s₁=>obj=.ref s.heap.objs.size/\s₁={ s with heap:=s.heap.push { cls:=.type "set",dict:=none,data:=.set #[] 0 (.fresh 0 0 (ledW w)) } }) ⟨rfl,rfl⟩) fun r s₁ hr=>?_
 cases r with
 | error e=>exact hr
 | ok fl=>
  cases fl with
  | ret obj=>
   obtain⟨rfl,rfl⟩:=hr
   have hS:(s.heap.push { cls:=.type "set",dict:=none,data:=.set #[] 0 (.fresh 0 0 (ledW w)) }).get? s.heap.objs.size=some { cls:=.type "set",dict:=none,data:=.set #[] 0 (.fresh 0 0 (ledW w)) }:=Qu _ rfl
   have hT:Shared.TypeIs { s with heap:=s.heap.push { cls:=.type "set",dict:=none,data:=.set #[] 0 (.fresh 0 0 (ledW w)) } } (.ref s.heap.objs.size) "set":=⟨_,hS,rfl⟩
   have hli:=F.called_set.init.lookup
   have hbi:=F.called_set.init.bind (.ref s.heap.objs.size)
   repeat (any_goals (first | assumption | wp_step))
   refine Y6 (codeAny_call_builtin (R:=wants (fun r s₂=>r=.none/\∃ h' tk ks,s₂={ s with heap:=h',toks:=tk } /\
     SetT prog w V h' s.heap.objs.size ks/\Keys ks (fun i=>kl.getD i []) items.size /\
     (∀ b o,s.heap.get? b=some o->h'.get? b=some o)) E) F.called_set.init.plain F.entry_set_init (check_set_init_1 hT ?_)) fun r₂ s₂ hr₂=>?_
   ·obtain⟨ol,hol,hcl,nl,hdl⟩:=hl
    obtain⟨ocls,odict,odata,oslots⟩:=ol
    simp only at hcl hdl
    subst hcl;subst hdl
    have hol':(s.heap.push { cls:=.type "set",dict:=none,data:=.set #[] 0 (.fresh 0 0 (ledW w)) }).get? l=some { cls:=.type "list",dict:=odict,data:=.seq items nl,slots:=oslots }:=Qd _ hol
    have hsls:=F.sub_list_set
    have hslf:=F.sub_list_frozenset
    have hne:(Value.type "list" == Value.type "dict")=false:=by decide
    have hl1:(s.heap.push { cls:=.type "set",dict:=none,data:=.set #[] 0 (.fresh 0 0 (ledW w)) }).IsList l items:=⟨_,hol',rfl,nl,rfl⟩
    unfold Builtin.«set.__init__» noKeywords Builtin.Frozenset.updateFrom
    generalize hPI:pyIter=PI
    wp_walk
    subst hPI
    refine wpAny_pyIter_list hl1 ?_
    refine Qa (wpAny_runValue ?_)
    have hlS:l<s.heap.objs.size:=Qo hol
    have hh3:A.in1.in1.in1.handled=none:=by simp [hh]
    have hneI:l≠(s.heap.push { cls:=.type "set",dict:=none,data:=.set #[] 0 (.fresh 0 0 (ledW w)) }).objs.size:=by
     rw [Yr];exact Qt (YW hlS)
    have hSf:s.heap.objs.size∉[(s.heap.push { cls:=.type "set",dict:=none,data:=.set #[] 0 (.fresh 0 0 (ledW w)) }).objs.size,l]:=by
     rw [Yr];simp only [Qh,QC,List.not_mem_nil,or_false,not_or]
     exact⟨Qt (Je _),YH hlS⟩
    have hunits:A.in1.in1.in1.units<cLine:=by
     show A.units+1+1+1<cLine
     lia
    refine zKR (V:=V) ((Walks.list hh3 _ l hneI items).toS) s.heap.objs.size
     hSf hunits (fun i=>kl.getD i []) s.heap (fun b o e=>?_) (fun i v _ hv=>hi i v hv) hb (items.size-0) 0 _ [] (by lia) (QN _)
     ⟨⟨_,Qu _ rfl,rfl,rfl⟩,(hl1.push _)⟩ (fun b o e=>?_) ?hS0 ?hK0 ?hR
    ·have hlt:b<s.heap.objs.size:=Qo e
     refine⟨Qt hlt,fun hm=>?_⟩
     rw [Yr]at hm
     have:b=s.heap.objs.size+1:=QC.mp hm
     rw [this]at hlt
     exact absurd hlt (Nat.not_lt.mpr (Nat.le_succ _))
    ·exact Qd _ (Qd _ e)
    case hS0=>
     have hget:((s.heap.push { cls:=.type "set",dict:=none,data:=.set #[] 0 (.fresh 0 0 (ledW w)) }).push { cls:=.type "list_iterator",data:=.fields #[.ref l,.int 0 0] }).get? s.heap.objs.size
       = some { cls:=.type "set",dict:=none,data:=.set #[] 0 (.fresh 0 0 (ledW w)) }:=Qd _ hS
     exact⟨_,#[],0,_,hget,⟨rfl,rfl,rfl⟩,rfl,⟨.inl rfl,rfl,rfl,List.Pairwise.nil,fun x hx=>by simp [SetTable.fresh]at hx,(by show 0 * 5<7 * 3;decide),fun q hq=>by simp at hq⟩,⟨rfl,rfl⟩,.nil,Y3,fun e he=>by simp at he⟩
    case hK0=>
     intro k
     simp
    case hR=>
     intro s' ks hm h0 hS' hK
     obtain⟨h',g',d',tk',os'⟩:=s'
     have eg:g'=s.gens:=hm.gens
     have ed:d'=s.drawn:=hm.drawn
     have eo:os'=s.os:=hm.os
     subst eg;subst ed;subst eo
     show wpAny _ _ _ _ _ _
     refine Qb ?_
     show wpAny _ _ (ret Value.none) _ _ _
     obtain⟨o',es',ep',t',z1,z2,z3,z4,z5,z6,z7,z8⟩:=hS'
     exact Qb ⟨rfl,h',tk',ks,rfl,⟨o',es',ep',t',z1,z2,z3,z4,z5,z6,z7,fun e he=>(z8 e he).1⟩,hK,fun b o e=>h0 b o e⟩
   ·cases r₂ with
    | error e=>exact hr₂
    | ok fl₂=>
     cases fl₂ with
     | ret r=>
      obtain⟨rfl,h',tk,ks,rfl,hS',hK',hk'⟩:=hr₂
      repeat (any_goals (first | assumption | wp_step))
      exact h _ _ _ hS' hK' hk'
     | _=>exact hr₂.elim
  | _=>exact hr.elim
theorem zLq{l:Addr}{items:Array Value}{kl:List (List Int)}{Q:Value->Shared->Prop}
  (hh:A.handled=none) (hu:A.units+8<cLine) (hl:s.heap.IsTuple l items) (hi:∀ i v,items[i]?=some v->V v/\∃ b,v=.ref b/\TK prog w s.heap (kl.getD i []) b) (hb:items.size<=75)
  (h:∀(h':Heap) (tk:Nat) ks,SetT prog w V h' s.heap.objs.size ks->Keys ks (fun i=>kl.getD i []) items.size->
   (∀ b o,s.heap.get? b=some o->h'.get? b=some o)->Q (.ref s.heap.objs.size) { s with heap:=h',toks:=tk }):
  wpAny (model prog w) A (call (.type "set") [.ref l]) Q E s:=by
 obtain⟨c,tl,hmro⟩:=F.called_set.mro
 have hmade:=F.called_set.made
 have hsub:=F.called_set.sub
 refine wpAny_call (codeAny_of_tree ?_)
 show wpAny _ _ (callAny (.type "set") _) _ _ _
 refine Qb ⟨Code.quiet_builtin _ (by decide +kernel),YV F.entry_type_call ?_⟩
 rw [Around.under_plain (weight_type_call_type "set" [.ref l] []) rfl]
 have h1:=F.called_set.notType
 have h2:=F.called_set.canCreate
 have hct:=F.typeCall_set_1 (.ref l)
 repeat (any_goals (first | assumption | wp_step))
 refine Y6 (zJD (.ref l) (E:=E) (Q₁:=fun obj s₁=>obj=.ref s.heap.objs.size/\s₁={ s with heap:=s.heap.push { cls:=.type "set",dict:=none,data:=.set #[] 0 (.fresh 0 0 (ledW w)) } }) ⟨rfl,rfl⟩) fun r s₁ hr=>?_
 cases r with
 | error e=>exact hr
 | ok fl=>
  cases fl with
  | ret obj=>
   obtain⟨rfl,rfl⟩:=hr
   have hS:(s.heap.push { cls:=.type "set",dict:=none,data:=.set #[] 0 (.fresh 0 0 (ledW w)) }).get? s.heap.objs.size=some { cls:=.type "set",dict:=none,data:=.set #[] 0 (.fresh 0 0 (ledW w)) }:=Qu _ rfl
   have hT:Shared.TypeIs { s with heap:=s.heap.push { cls:=.type "set",dict:=none,data:=.set #[] 0 (.fresh 0 0 (ledW w)) } } (.ref s.heap.objs.size) "set":=⟨_,hS,rfl⟩
   have hli:=F.called_set.init.lookup
   have hbi:=F.called_set.init.bind (.ref s.heap.objs.size)
   repeat (any_goals (first | assumption | wp_step))
   refine Y6 (codeAny_call_builtin (R:=wants (fun r s₂=>r=.none/\∃ h' tk ks,s₂={ s with heap:=h',toks:=tk } /\
     SetT prog w V h' s.heap.objs.size ks/\Keys ks (fun i=>kl.getD i []) items.size /\
     (∀ b o,s.heap.get? b=some o->h'.get? b=some o)) E) F.called_set.init.plain F.entry_set_init (check_set_init_1 hT ?_)) fun r₂ s₂ hr₂=>?_
   ·obtain⟨ol,hol,hcl,nl,hdl⟩:=hl
    obtain⟨ocls,odict,odata,oslots⟩:=ol
    simp only at hcl hdl
    subst hcl;subst hdl
    have hol':(s.heap.push { cls:=.type "set",dict:=none,data:=.set #[] 0 (.fresh 0 0 (ledW w)) }).get? l=some { cls:=.type "tuple",dict:=odict,data:=.seq items nl,slots:=oslots }:=Qd _ hol
    have hsls:=zPv
    have hslf:=zPu
    have hne:(Value.type "tuple" == Value.type "dict")=false:=by decide
    have hl1:(s.heap.push { cls:=.type "set",dict:=none,data:=.set #[] 0 (.fresh 0 0 (ledW w)) }).IsTuple l items:=⟨_,hol',rfl,nl,rfl⟩
    unfold Builtin.«set.__init__» noKeywords Builtin.Frozenset.updateFrom
    generalize hPI:pyIter=PI
    wp_walk
    subst hPI
    refine wpAny_pyIter_tuple hl1 ?_
    refine Qa (wpAny_runValue ?_)
    have hlS:l<s.heap.objs.size:=Qo hol
    have hh3:A.in1.in1.in1.handled=none:=by simp [hh]
    have hneI:l≠(s.heap.push { cls:=.type "set",dict:=none,data:=.set #[] 0 (.fresh 0 0 (ledW w)) }).objs.size:=by
     rw [Yr];exact Qt (YW hlS)
    have hSf:s.heap.objs.size∉[(s.heap.push { cls:=.type "set",dict:=none,data:=.set #[] 0 (.fresh 0 0 (ledW w)) }).objs.size,l]:=by
     rw [Yr];simp only [Qh,QC,List.not_mem_nil,or_false,not_or]
     exact⟨Qt (Je _),YH hlS⟩
    have hunits:A.in1.in1.in1.units<cLine:=by
     show A.units+1+1+1<cLine
     lia
    refine zKR (V:=V) ((Walks.tuple hh3 _ l hneI items).toS) s.heap.objs.size
     hSf hunits (fun i=>kl.getD i []) s.heap (fun b o e=>?_) (fun i v _ hv=>hi i v hv) hb (items.size-0) 0 _ [] (by lia) (QN _)
     ⟨⟨_,Qu _ rfl,rfl,rfl⟩,(hl1.push _)⟩ (fun b o e=>?_) ?hS0 ?hK0 ?hR
    ·have hlt:b<s.heap.objs.size:=Qo e
     refine⟨Qt hlt,fun hm=>?_⟩
     rw [Yr]at hm
     have:b=s.heap.objs.size+1:=QC.mp hm
     rw [this]at hlt
     exact absurd hlt (Nat.not_lt.mpr (Nat.le_succ _))
    ·exact Qd _ (Qd _ e)
    case hS0=>
     have hget:((s.heap.push { cls:=.type "set",dict:=none,data:=.set #[] 0 (.fresh 0 0 (ledW w)) }).push { cls:=.type "tuple_iterator",data:=.fields #[.ref l,.int 0 0] }).get? s.heap.objs.size
       = some { cls:=.type "set",dict:=none,data:=.set #[] 0 (.fresh 0 0 (ledW w)) }:=Qd _ hS
     exact⟨_,#[],0,_,hget,⟨rfl,rfl,rfl⟩,rfl,⟨.inl rfl,rfl,rfl,List.Pairwise.nil,fun x hx=>by simp [SetTable.fresh]at hx,(by show 0 * 5<7 * 3;decide),fun q hq=>by simp at hq⟩,⟨rfl,rfl⟩,.nil,Y3,fun e he=>by simp at he⟩
    case hK0=>
     intro k
     simp
    case hR=>
     intro s' ks hm h0 hS' hK
     obtain⟨h',g',d',tk',os'⟩:=s'
     have eg:g'=s.gens:=hm.gens
     have ed:d'=s.drawn:=hm.drawn
     have eo:os'=s.os:=hm.os
     subst eg;subst ed;subst eo
     show wpAny _ _ _ _ _ _
     refine Qb ?_
     show wpAny _ _ (ret Value.none) _ _ _
     obtain⟨o',es',ep',t',z1,z2,z3,z4,z5,z6,z7,z8⟩:=hS'
     exact Qb ⟨rfl,h',tk',ks,rfl,⟨o',es',ep',t',z1,z2,z3,z4,z5,z6,z7,fun e he=>(z8 e he).1⟩,hK,fun b o e=>h0 b o e⟩
   ·cases r₂ with
    | error e=>exact hr₂
    | ok fl₂=>
     cases fl₂ with
     | ret r=>
      obtain⟨rfl,h',tk,ks,rfl,hS',hK',hk'⟩:=hr₂
      repeat (any_goals (first | assumption | wp_step))
      exact h _ _ _ hS' hK' hk'
     | _=>exact hr₂.elim
  | _=>exact hr.elim
end
end ST
namespace SL
open PySem PySem.Spec PyProof.Rows L2 CL DL SD ST
section
variable {X:Cx}{pins:List (Addr × Obj)}{σ:L2.St}{H:Hp}{s:Shared}
theorem zCq(I:Inv X pins σ H s){b:Addr}{k:List Int}(h:SqT X.K H b (k.map V.int)):TK X.prog X.w s.heap k b:=by
 obtain⟨its,rv,it,hz⟩:=I.tuple h
 obtain⟨o,h1,h2,n,h3⟩:=it
 refine⟨o,its.toArray,n,h1,h2,h3,?_⟩
 show ItemsAre (intKind X.prog X.w) k its
 clear h h3 h1 h2 hz
 generalize hxs:k.map V.int=xs at rv
 induction rv generalizing k with
 | nil=>
  cases k with
  | nil=>exact .nil
  | cons _ _=>simp at hxs
 | @cons x u xs us r t ih=>
  cases k with
  | nil=>simp at hxs
  | cons i k=>
   rw [Qq,List.cons.injEq]at hxs
   obtain⟨e1,e2⟩:=hxs
   subst e1
   obtain⟨tk,rfl⟩:=r
   exact .cons (intKind_is _ _ _ _) (ih e2)
abbrev KsK:=List (List Int)->Hp->Prop
abbrev TSt:=L2.St->Hp->KsK->Prop
def StP(X:Cx)(pins:List (Addr × Obj))(σ:L2.St)(Q:KsK)(u:Value)(s':Shared):Prop:=
 ∃ a o ks H',u=.ref a/\Inv X ((a,o)::pins) σ H' s'/\SetT X.prog X.w (fun v=>∃ b,∃ xs:List Int,v=.ref b/\SqT X.K H' b (xs.map V.int)) s'.heap a ks/\(∀ p∈pins,p.1≠a)/\Q ks H'
def PSt(X:Cx)(e:Expr)(t:TSt):Prop:=
 ∀(pins:List (Addr × Obj)) (s:Shared) (σ:L2.St) (H:Hp) (Q:KsK),Inv X pins σ H s->t σ H Q->wpAny (model X.prog X.w) X.A (eval e X.env) (StP X pins σ Q) X.xe s
def tSet(K:PySem.W.Frag)(t:TA):TSt:=fun σ H Q=>t σ H fun vs H1=>∃(a:Addr) (xs:List V) (kl:List (List Int)),vs=[.ref a]/\(SqL K H1 a xs ∨ SqT K H1 a xs)/\xs.length<=75/\xs.length=kl.length/\(∀(i:Nat) (x:V),xs[i]?=some x->∃ b,x=.ref b/\SqT K H1 b ((kl.getD i []).map V.int))/\∀ ks:List (List Int),ks.Nodup->(∀ k,k∈ks ↔ k∈kl)->Q ks H1
theorem zBw{x:Str}{e:Expr}{p pos:Pos}{t:TA}(hc:X.calm=true)(hu:X.A.units+64<cLine)(hg:Gl X x)(hm:X.mg x=none)(hv:bootBuiltins x=some (.type "set"))(ha:PA X [e] t)(hn:x≠"__name__":=by decide)(hdb:(x == ("__debug__":Str))=false:=by decide)
  (he:starEach [e] X.env=(false,eval e X.env)::starEach [] X.env:=by rfl) (hpl:(backTo pos (starEach [] X.env)).any (·.1)=false:=by rfl):
  PSt X (.Call (.Name x p) [e] [] pos) (tSet X.K t):=by
 intro pins s σ H Q I h
 refine YM (zBT I hg hm hv ?_ hn hdb)
 refine Q3 (thn (ha pos pins s σ H _ I h) fun us s1 ⟨vs,H1,I1,r1,q1⟩=>?_) he hpl
 obtain⟨a,xs,kl,rfl,hq,h75,hlen,hks,q⟩:=q1
 obtain⟨u,rfl,ru⟩:=zCf r1
 cases ru
 have go:∀ its:List Value,Vals xs its->(∀(kl':List (List Int)) (Q':Value->Shared->Prop),(∀ i v,its.toArray[i]?=some v->(∃ b,∃ xs:List Int,v=.ref b/\SqT X.K H1 b (xs.map V.int))/\∃ b,v=.ref b/\TK X.prog X.w s1.heap (kl'.getD i []) b)->
   its.toArray.size<=75->(∀(h':Heap) (tk:Nat) ks,SetT X.prog X.w (fun v=>∃ b,∃ xs:List Int,v=.ref b/\SqT X.K H1 b (xs.map V.int)) h' s1.heap.objs.size ks->Keys ks (fun i=>kl'.getD i []) its.toArray.size->
   (∀ b o,s1.heap.get? b=some o->h'.get? b=some o)->Q' (.ref s1.heap.objs.size) { s1 with heap:=h',toks:=tk })->wpAny (model X.prog X.w) X.A (call (.type "set") [.ref a]) Q' X.xe s1)->
   wpAny (model X.prog X.w) X.A (call (.type "set") [.ref a]) (StP X pins σ Q) X.xe s1:=by
  intro its rv cs
  have hsz:its.toArray.size=kl.length:=by rw [Qx,<- rv.length,hlen]
  refine cs kl _ (fun i v hv=>?_) (by rw [hsz];lia) fun h' tk ks S' K' keep=>?_
  ·have hv':its[i]?=some v:=by simpa using hv
   have hi:i<xs.length:=by
    have:=(Qc.mp hv').1
    rw [rv.length];exact this
   obtain⟨u,e1,e2⟩:=Vals.get rv (Qg hi)
   rw [hv']at e1
   cases e1
   obtain⟨b,e3,e4⟩:=hks i _ (Qg hi)
   rw [e3]at e2
   cases e2
   exact⟨⟨b,_,rfl,e4⟩,b,rfl,zCq I1 e4⟩
  ·obtain⟨o,es,ep,t,z1,z2,z3,z4,z5,z6,z7,z8⟩:=S'
   have I2:Inv X pins σ H1 { s1 with heap:=h',toks:=tk }:=I1.kept keep
   have I3:Inv X ((s1.heap.objs.size,o)::pins) σ H1 { s1 with heap:=h',toks:=tk }:=by
    refine I2.pins_of fun p hp=>?_
    rcases Qh.mp hp with rfl | hp
    ·refine⟨z1,I1.hok.fresh (Qi _),YH I1.lt,I1.nofs (Qi _),fun v hv=>?_⟩
     rw [z3]at hv
     exact nomatch hv
    ·exact I2.pin p (Qz _ hp)
   refine⟨_,o,ks,H1,rfl,I3,⟨o,es,ep,t,z1,z2,z3,z4,z5,z6,z7,z8⟩,fun p hp=>Qt (Qo (I1.pin p (Qz _ hp)).1),q ks z7 fun k=>(K' k).trans ?_⟩
   rw [hsz]
   constructor
   ·rintro⟨j,hj,rfl⟩
    show kl.getD j []∈kl
    rw [YQ,Qg hj]
    exact YL hj
   ·intro hk
    obtain⟨j,hj⟩:=QR hk
    refine⟨j,(Qc.mp hj).1,?_⟩
    show kl.getD j []=k
    rw [YQ,hj]
    rfl
 rcases hq with hq | hq
 ·obtain⟨its,rv,pl,_⟩:=I1.list hq
  exact go its rv fun kl' Q' h1 h2 h3=>zLr (kl:=kl') (I1.ok.hd hc) (by lia) pl.isList h1 h2 h3
 ·obtain⟨its,rv,it,hz⟩:=I1.tuple hq
  exact go its rv fun kl' Q' h1 h2 h3=>zLq (kl:=kl') (I1.ok.hd hc) (by lia) it h1 h2 h3
end
def zDw:List D->Option (List (List Int))
 | []=>some []
 | .tuple ds::r=>(zAK ds).bind fun is=>(zDw r).bind fun rs=>some (is::rs)
 | _=>none
theorem zKe{K:PySem.W.Frag}{F:Addr->Prop}{H:Hp}:∀{ds:List D}{vs:List V}{kl:List (List Int)},Reps K F H ds vs->zDw ds=some kl->ds.length=kl.length/\∀(i:Nat) (x:V),vs[i]?=some x->∃ b,x=.ref b/\SqT K H b ((kl.getD i []).map V.int):=by
 intro ds
 induction ds with
 | nil=>intro vs kl r h;cases r;cases h;exact⟨rfl,fun i x e=>by simp at e⟩
 | cons d ds ih=>
  intro vs kl r h
  cases r with
  | cons r0 r=>
   cases d with
   | tuple xs=>
    cases r0 with
    | tup h1 r1=>
     obtain⟨is,e1,h⟩:=bnd h
     obtain⟨rs,e2,h⟩:=bnd h
     cases h
     obtain⟨q1,q2⟩:=ih r e2
     refine⟨by simp [q1],fun i x e=>?_⟩
     cases i with
     | zero=>
      cases e
      refine⟨_,rfl,?_⟩
      rw [zE4 r1 e1]at h1
      exact h1
     | succ i=>exact q2 i x (by simpa using e)
   | _=>cases h
def tDSt(K:PySem.W.Frag)(g:Rho->Option (List (List Int))):TSt:=fun σ H Q=>TDx K σ H g fun F kl=>∀ F' H' (ks:List (List Int)),Ext F F' H H'->ks.Nodup->(∀ k,k∈ks ↔ k∈kl)->Q ks H'
def DSt(X:Cx)(e:Expr)(g:Rho->Option (List (List Int))):Prop:=PSt X e (tDSt X.K g)
def setD:List D->Option (List (List Int))
 | [.list xs]=>if xs.length<=75 then zDw xs else none
 | [.tuple xs]=>if xs.length<=75 then zDw xs else none
 | _=>none
def eSet(gr:Rho->Option (List D)):Rho->Option (List (List Int)):=fun ρ=>(gr ρ).bind setD
def dd:List (List Int)->List (List Int)
 | []=>[]
 | k::r=>if k∈r then dd r else k::dd r
theorem zFr:∀{l:List (List Int)}{k:List Int},k∈dd l ↔ k∈l
 | [],k=>by simp [dd]
 | x::r,k=>by
  unfold dd
  split
  ·rename_i h
   rw [zFr,Qh]
   constructor
   ·exact .inr
   ·rintro(rfl | h')
    ·exact h
    ·exact h'
  ·rw [Qh,Qh,zFr]
theorem zG1:∀ l:List (List Int),(dd l).Nodup
 | []=>Y3
 | x::r=>by
  unfold dd
  split
  ·exact zG1 r
  ·rename_i h
   exact Yc.mpr ⟨fun q=>h (zFr.mp q),zG1 r⟩
section
variable {X:Cx}{e:Expr}{p pos:Pos}{gr:Rho->Option (List D)}{g:Rho->Option (List (List Int))}
theorem ps_mono{e:Expr}{t t':TSt}(h:PSt X e t)(m:∀ σ H Q,t' σ H Q->t σ H Q):PSt X e t':=fun pins s σ H Q I q=>h pins s σ H Q I (m σ H Q q)
theorem zGk{x:Str}(hc:X.calm=true)(hu:X.A.units+64<cLine)(hg:Gl X x)(hm:X.mg x=none)(hv:bootBuiltins x=some (.type "set"))(ha:DA X [e] gr)(hn:x≠"__name__":=by decide)(hdb:(x == ("__debug__":Str))=false:=by decide)
  (he:starEach [e] X.env=(false,eval e X.env)::starEach [] X.env:=by rfl) (hpl:(backTo pos (starEach [] X.env)).any (·.1)=false:=by rfl):
  DSt X (.Call (.Name x p) [e] [] pos) (eSet gr):=
 ps_mono (zBw hc hu hg hm hv ha hn hdb he hpl) fun σ H Q zz=>by
  obtain⟨F,H₀,ρ,kl,S,q,k⟩:=zz
  obtain⟨ds,e1,q⟩:=bnd q
  refine⟨F,H₀,ρ,ds,S,e1,fun F1 H1 vs E1 R1=>?_⟩
  unfold setD at q
  split at q
  ·rename_i xs
   by_cases c:xs.length<=75
   ·rw [if_pos c]at q
    cases R1 with
    | cons R2 R3=>
     cases R3
     cases R2 with
     | @lst a us _ h1 r1=>
      obtain⟨z1,z2⟩:=zKe r1 q
      exact⟨a,us,kl,rfl,.inl h1.sq,by rw [<- r1.length];exact c,by rw [<- r1.length,z1],z2,fun ks hn hk=>k F1 H1 ks E1 hn hk⟩
   ·rw [if_neg c]at q;cases q
  ·rename_i xs
   by_cases c:xs.length<=75
   ·rw [if_pos c]at q
    cases R1 with
    | cons R2 R3=>
     cases R3
     cases R2 with
     | @tup a us _ h1 r1=>
      obtain⟨z1,z2⟩:=zKe r1 q
      exact⟨a,us,kl,rfl,.inr h1,by rw [<- r1.length];exact c,by rw [<- r1.length,z1],z2,fun ks hn hk=>k F1 H1 ks E1 hn hk⟩
   ·rw [if_neg c]at q;cases q
  ·cases q
end
end SL
namespace PySem.F
theorem set_iter_entry:entryFor table "set.__iter__"=some Builtin.«frozenset.__iter__»:=
 entryFor_alias (id':="frozenset.__iter__") (by kernel_rfl) rfl (by decide +kernel) (by kernel_rfl)
theorem set_sub_entry:entryFor table "set.__sub__"=some Builtin.«frozenset.__sub__»:=
 entryFor_alias (id':="frozenset.__sub__") (by kernel_rfl) rfl (by decide +kernel) (by kernel_rfl)
theorem zKs:Manifest.owners.lookup (String.ofList ['r','o','t','a','r','e','t','i','_','t','e','s'].reverse)=some Manifest.sig_set_iterator:=by kernel_rfl
theorem si_next:Slot "set_iterator" "__next__" "set_iterator.__next__":=
 .of (owner:="set_iterator") (n:="__next__") (by rw [typeLookup_type,builtinLookup_eq_fast];kernel_rfl) (by decide +kernel) (by decide +kernel) (by decide +kernel)
  (.inl (by decide +kernel)) (by rw [isSubtype_type];kernel_rfl)
theorem si_iter:Slot "set_iterator" "__iter__" "set_iterator.__iter__":=
 .of (owner:="set_iterator") (n:="__iter__") (by rw [typeLookup_type,builtinLookup_eq_fast];kernel_rfl) (by decide +kernel) (by decide +kernel) (by decide +kernel)
  (.inl (by decide +kernel)) (by rw [isSubtype_type];kernel_rfl)
theorem si_iter_entry:entryFor table "set_iterator.__iter__"=some Builtin.«dict_keyiterator.__iter__»:=
 entryFor_alias (id':="dict_keyiterator.__iter__") (by kernel_rfl) rfl (by decide +kernel) (by kernel_rfl)
theorem si_iter_args(a:Value):argsOk "set_iterator.__iter__" ⟨[a],[]⟩:=by
 unfold argsOk;rw [signature?_of (id:="set_iterator.__iter__") (n:=['_','_','r','e','t','i','_','_']) (o:=['r','o','t','a','r','e','t','i','_','t','e','s']) (by kernel_rfl) zKs];kernel_rfl
theorem si_next_entry:entryFor table "set_iterator.__next__"=some Builtin.«set_iterator.__next__»:=entryFor_of_tree (by kernel_rfl)
theorem si_next_args(a:Value):argsOk "set_iterator.__next__" ⟨[a],[]⟩:=by
 unfold argsOk;rw [signature?_of (id:="set_iterator.__next__") (n:=['_','_','t','x','e','n','_','_']) (o:=['r','o','t','a','r','e','t','i','_','t','e','s']) (by kernel_rfl) zKs];kernel_rfl
end PySem.F
namespace ST
open PySem PySem.SetTable PyProof.Rows
theorem zJ2{α:Type}(next:Nat->Nat):∀(fuel k:Nat) (left:List α) (out:Array α),left.length=fuel->List.Perm (pickOrder.go next fuel k left out).toList (out.toList++left)
 | 0,k,left,out,h=>by
  have:left=[]:=List.length_eq_zero_iff.mp h
  subst this
  rw [Q8]
  exact .refl _
 | fuel+1,k,left,out,h=>by
  have hl:next k % left.length<left.length:=Nat.mod_lt _ (by lia)
  unfold pickOrder.go
  rw [Qg hl]
  dsimp only
  refine(zJ2 next fuel (k+1) _ _ (by rw [List.length_eraseIdx_of_lt hl];lia)).trans ?_
  rw [Array.toList_push,Yi]
  refine List.Perm.append_left _ ?_
  rw [List.eraseIdx_eq_take_drop_succ]
  have e:left=left.take (next k % left.length)++left[next k % left.length]::left.drop (next k % left.length+1):=by
   rw [<- Yb hl,Q5]
  refine List.Perm.trans ?_ (.of_eq e.symm)
  show List.Perm (left[next k % left.length]::(left.take (next k % left.length)++left.drop (next k % left.length+1))) _
  exact List.perm_middle.symm
def ordW(w:World)(a ep:Nat)(es:Array (Int × Value)):Array (Int × Value):=if w.params.followText "set-order"=true then pickOrder (w.params.setOrder a ep) es else es
theorem zDs(w:World)(a ep:Nat)(es:Array (Int × Value)):List.Perm (ordW w a ep es).toList es.toList:=by
 unfold ordW
 split
 ·exact(zJ2 _ es.size 0 es.toList #[] (by simp)).trans (by simp)
 ·exact .refl _
theorem zFy(w:World)(a ep:Nat)(es:Array (Int × Value)):(ordW w a ep es).size=es.size:=by
 have:=(zDs w a ep es).length_eq
 simpa using this
theorem zLg(xs:Array Nat)(s:Up xs.toList):below xs 0=0:=by
 obtain⟨h1,h2,h3⟩:=zDb xs s 0
 by_cases c:below xs 0=0
 ·exact c
 ·have hl:0<xs.toList.length:=by rw [Qp];lia
  have:=h2 0 _ (Qg hl) (by lia)
  lia
theorem zLf(xs:Array Nat)(s:Up xs.toList){i j:Nat}(h:xs.toList[i]?=some j):below xs (j+1)=i+1:=by
 obtain⟨h1,h2,h3⟩:=zDb xs s (j+1)
 have hi:=(Qc.mp h).1
 rw [Qp]at hi
 by_cases a:below xs (j+1)<=i
 ·have:=h3 i j h a
  lia
 ·by_cases b:below xs (j+1)=i+1
  ·exact b
  ·have hl:i+1<xs.toList.length:=by rw [Qp];lia
   have e:=Qg hl
   have:=h2 _ _ e (by lia)
   have:=s.at h e (by lia)
   lia
structure zBn(w:World)(h:Heap)(a:Addr)(o:Obj)(es:Array (Int × Value))(ep:Nat)(t:SetTable):Prop where
 get:h.get? a=some o
 ex:o.ExactSet
 data:o.data=.set es ep t
 fits:t.fits es.size=true
 up:Up t.place.toList
 plain:t.plain=true
 led:t.led=ledW w
theorem zBn.at{w:World}{h h':Heap}{a:Addr}{o:Obj}{es:Array (Int × Value)}{ep:Nat}{t:SetTable}(S:zBn w h a o es ep t)(e:h'.get? a=some o):zBn w h' a o es ep t:=⟨e,S.ex,S.data,S.fits,S.up,S.plain,S.led⟩
def zC8(h:Heap)(I a:Addr)(slot i n ep:Nat):Prop:=∃ o,h.get? I=some o/\o.cls=.type "set_iterator"/\o.data=.fields #[.int slot 0,.int i 0,.ref a,.int n 0,.int ep 0]
section
variable {prog:Program}{w:World}{A:Around}{E:Value->Shared->Prop}{s:Shared}{I a:Addr}{o:Obj}{es:Array (Int × Value)}{ep slot i:Nat}{t:SetTable}
theorem zC8.typeIs{n:Nat}(h:zC8 s.heap I a slot i n ep):s.TypeIs (.ref I) "set_iterator":=by
 obtain⟨o,h1,h2,_⟩:=h
 exact⟨o,h1,h2⟩
theorem zEP{Q:Bool->Shared->Prop}(h:Q (w.params.followText "set-order") s):wpAny (model prog w) A setsByText Q E s:=by
 unfold setsByText
 exact Qa (wpAny_askSetting (Qb h))
theorem zKU{Q:Array (Int × Value)->Shared->Prop}(S:zBn w s.heap a o es ep t)(h:Q (ordW w a ep es) s):wpAny (model prog w) A (setWalk a) Q E s:=by
 unfold setWalk
 refine Qa (QL S.get S.data S.fits ?_)
 dsimp only
 refine Qa (zEP ?_)
 unfold ordW at h
 cases c:w.params.followText "set-order" with
 | true=>
  rw [c,if_pos rfl]at h
  rw [if_pos rfl]
  exact Qa (wpAny_askSetting (Qb h))
 | false=>
  rw [c,if_neg Qr]at h
  rw [if_neg Qr]
  have hd:(!t.plain && decide (es.size > 1))=false:=by rw [S.plain];rfl
  have hl:(!t.led && decide (es.size > 1))=false:=by rw [S.led,ledW,c];rfl
  show wpAny _ _ (if(!t.plain && decide (es.size > 1))=true then _ else _) _ _ s
  rw [hd,if_neg Qr]
  refine Qa ?_
  show wpAny _ _ (if(!t.led && decide (es.size > 1))=true then _ else _) _ _ s
  rw [hl,if_neg Qr]
  exact Qb (Qb h)
theorem zJG{Q:Option (Value × Nat)->Shared->Prop}(S:zBn w s.heap a o es ep t)(hb:w.params.followText "set-order"=false->below t.place slot=i)
  (h1:∀ x next,(ordW w a ep es)[i]?=some x->(w.params.followText "set-order"=false->below t.place next=i+1)->Q (some (x.2,next)) s) (h2:es.size<=i->Q none s):
  wpAny (model prog w) A (setNext a slot i ep) Q E s:=by
 unfold setNext
 refine Qa (QL S.get S.data S.fits ?_)
 dsimp only
 refine Qa (zEP ?_)
 cases c:w.params.followText "set-order" with
 | true=>
  rw [if_pos rfl,if_neg (by simp)]
  refine Qa (zKU S (Qb ?_))
  by_cases l:i<es.size
  ·have l':i<(ordW w a ep es).size:=by rw [zFy];exact l
   rw [QE l']
   exact h1 _ _ (QE l') fun e=>by rw [c]at e;cases e
  ·rw [Yn (by rw [zFy];lia)]
   exact h2 (by lia)
 | false=>
  rw [if_neg Qr]
  have hd:(!t.plain && decide (es.size > 1))=false:=by rw [S.plain];rfl
  have hl:(!t.led && !es.isEmpty)=false:=by rw [S.led,ledW,c];rfl
  show wpAny _ _ (if(!t.plain && decide (es.size > 1))=true then _ else _) _ _ s
  rw [hd,if_neg Qr]
  refine Qa ?_
  show wpAny _ _ (if(!t.led && !es.isEmpty)=true then _ else _) _ _ s
  rw [hl,if_neg Qr]
  refine Qb (Qb ?_)
  have hps:t.place.size=es.size:=by
   have:=S.fits
   unfold SetTable.fits at this
   rw [QQ,beq_iff_eq]at this
   exact this.1
  rw [hb c]
  have ho:ordW w a ep es=es:=by unfold ordW;rw [c,if_neg Qr]
  rw [ho]at h1
  by_cases l:i<es.size
  ·have l':i<t.place.size:=by lia
   rw [QE l,QE l']
   refine h1 _ _ (QE l) fun _=>zLf _ S.up ?_
   rw [QA,QE l']
  ·rw [Yn (by lia)]
   exact h2 (by lia)
theorem zMN{Q:Value->Shared->Prop}(S:zBn w s.heap a o es ep t)
  (h:Q (.ref s.heap.objs.size) { s with heap:=s.heap.push { cls:=.type "set_iterator",data:=.fields #[.int 0 0,.int 0 0,.ref a,.int (es.size:Nat) 0,.int (ep:Nat) 0] } }):wpAny (model prog w) A (pyIter (.ref a)) Q E s:=by
 have hT:s.TypeIs (.ref a) "set":=⟨o,S.get,S.ex.1⟩
 refine wpAny_pyIter_slot hT F.slot_set_iter (Yl F.slot_set_iter hT F.set_iter_entry ?_ (F.args_set_iter_1 _))
 unfold Builtin.«frozenset.__iter__» Builtin.Frozenset.slot0 slotArgs
 simp only [List.isEmpty_nil,YK,Qm,↓reduceIte,bind_assoc,YU,bne_self_eq_false]
 unfold Builtin.Frozenset.addrOf Builtin.Frozenset.sizeOf
 refine Qa (Qb ?_)
 refine Qa (Qb ?_)
 refine Qa (Qa (Jh S.get S.data S.fits (Qb ?_)))
 unfold setDrawn
 refine Qa (Qa (QL S.get S.data S.fits ?_))
 dsimp only
 refine Qa (zEP ?_)
 refine Qb ?_
 have hd:(!(w.params.followText "set-order") && (!t.plain && decide (es.size > 1)))=false:=by rw [S.plain];simp
 show wpAny _ _ (if(!(w.params.followText "set-order") && (!t.plain && decide (es.size > 1)))=true then _ else _) _ _ s
 rw [hd,if_neg Qr]
 refine Qa (Qb ?_)
 unfold setEpoch
 refine Qa (Qa (QL S.get S.data S.fits (Qb ?_)))
 exact Qa (Yh (Qb ⟨_,rfl,"set_iterator",_,⟨_,Qu _ rfl,rfl⟩,F.si_next.lookup,h⟩))
theorem zNB{Q:Option Value->Shared->Prop}(hit:zC8 s.heap I a slot i es.size ep)(S:zBn w s.heap a o es ep t)(hb:w.params.followText "set-order"=false->below t.place slot=i)(hi:i<es.size)
  (hQ:∀ x h' next,(ordW w a ep es)[i]?=some x->(w.params.followText "set-order"=false->below t.place next=i+1)->zC8 h' I a next (i+1) es.size ep->Heap.SameBut I s.heap h'->Q (some x.2) { s with heap:=h' }):
  wpAny (model prog w) A (pyNext (.ref I)) Q E s:=by
 obtain⟨oi,hoi,hc,hd⟩:=id hit
 unfold pyNext
 refine Qa (wpAny_attempt (Yw (name:=Str.ofString "__next__") hit.typeIs F.si_next
  (Yl F.si_next hit.typeIs F.si_next_entry ?_ (F.si_next_args _))))
 show wpAny _ _ (fieldsOf (.ref I) >>= _) _ _ s
 refine Qa (wpAny_fieldsOf hoi hd ?_)
 dsimp only
 refine Qa (Jh S.get S.data S.fits ?_)
 rw [if_neg (by simp)]
 refine Qa (zJG (i:=i) (slot:=slot) S hb (fun x next h1 h2=>?_) fun h=>absurd hi (by lia))
 dsimp only
 refine Qa (wpAny_setField hoi hd (by simp) ?_)
 have h1g:=Q6 (Obj.mapFields (·.setIfInBounds 0 (rawInt next))) hoi (Obj.isFreed_of_fields (YR hd _))
 have h1d:=YR hd (fun x=>x.setIfInBounds 0 (rawInt next))
 refine Qa (wpAny_setField h1g h1d (by simp) (Qb ⟨_,rfl,Qb (hQ x _ next h1 h2 ?_ ((QZ ..).trans (QZ ..)))⟩))
 refine⟨_,Q6 _ h1g (Obj.isFreed_of_fields (YR h1d _)),((Obj.cls_mapFields ..).trans (Obj.cls_mapFields ..)).trans hc,?_⟩
 rw [YR h1d]
 simp [rawInt]
theorem zNA{Q:Option Value->Shared->Prop}(hh:A.handled=none)(hit:zC8 s.heap I a slot es.size es.size ep)(S:zBn w s.heap a o es ep t)(hb:w.params.followText "set-order"=false->below t.place slot=es.size)
  (hQ:∀ h',Heap.ExtBut I s.heap h'->Q none { s with heap:=h' }):
  wpAny (model prog w) A (pyNext (.ref I)) Q E s:=by
 obtain⟨oi,hoi,hc,hd⟩:=id hit
 unfold pyNext
 refine Qa (wpAny_attempt (Yw (name:=Str.ofString "__next__") hit.typeIs F.si_next
  (Yl F.si_next hit.typeIs F.si_next_entry ?_ (F.si_next_args _))))
 show wpAny _ _ (fieldsOf (.ref I) >>= _) _ _ s
 refine Qa (wpAny_fieldsOf hoi hd ?_)
 dsimp only
 refine Qa (Jh S.get S.data S.fits ?_)
 rw [if_neg (by simp)]
 refine Qa (zJG (i:=es.size) (slot:=slot) S hb (fun x next h1 h2=>?_) fun _=>?_)
 ·rw [Yn (by rw [zFy];exact Qi _)]at h1
  cases h1
 dsimp only
 refine Qa (wpAny_setField hoi hd (by simp) ?_)
 show wpAny _ _ (newExc (.type "StopIteration") [] >>= _) _ _ _
 refine Qa ?_
 simp only [newExc,newTuple]
 refine Qa (Yh ?_ (by size_fits))
 refine Qa (m:=firstArgMember _ _) (wpAny_of_eq (a:=Value.none) (by first | rfl | (simp only [firstArgMember];rfl)) ?_)
 refine Yh ?_ (by size_fits)
 simp only [raiseNew]
 refine Qa (wpAny_handled ?_)
 first | rw [show A.in1.handled=none from hh] | rw [hh]
 refine Qa (Qb (wpAny_throw ?_))
 refine Qa (wpAny_isInstance (T:="StopIteration") (b:=true) ⟨_,Qu _ rfl,rfl⟩ isSubtype_stop ?_)
 exact Qb (hQ _ (((QZ ..).extBut.push _).push _))
theorem Walks.set{prog:Program}{w:World}{A:Around}(hh:A.handled=none)(I a:Addr)(hne:a≠I)(o:Obj)(es:Array (Int × Value))(ep:Nat)(t:SetTable):
  Walks prog w A I [I,a] [I] es.size (fun i v=>∃ x,(ordW w a ep es)[i]?=some x/\v=x.2) (fun i h=>∃ slot,(w.params.followText "set-order"=false->below t.place slot=i)/\zC8 h I a slot i es.size ep/\zBn w h a o es ep t) where
 sub:=fun b hb=>by simp at hb;simp [hb]
 frame:=fun _ _ _ ⟨slot,h1,⟨oi,h2,h3,h4⟩,S⟩ hk=>⟨slot,h1,⟨oi,hk I (by simp) _ h2,h3,h4⟩,S.at (hk a (by simp) _ S.get)⟩
 item:=fun i s Q E hi ⟨slot,h1,hit,S⟩ hQ=>
  zNB hit S h1 hi fun x h' next e1 e2 e3 e4=>hQ _ h' s.toks ⟨x,e1,rfl⟩ ⟨next,e2,e3,S.at ((e4.2 a hne).trans S.get)⟩ fun b o hb e=>e4.extBut b o (fun h=>hb (by simp [h])) e
 done:=fun s Q E ⟨slot,h1,hit,S⟩ hQ=>zNA hh hit S h1 fun h' he'=>hQ h' s.toks fun b o hb e=>he' b o (fun h=>hb (by simp [h])) e
 self:=fun i s Q E zz hQ=>by
  obtain⟨slot,h1,hit,S⟩:=zz
  refine wpAny_pyIter_slot hit.typeIs F.si_iter (Yl F.si_iter hit.typeIs F.si_iter_entry ?_ (F.si_iter_args _))
  show wpAny _ _ (ret (.ref I)) _ _ s
  exact Qb ⟨_,rfl,"set_iterator",_,hit.typeIs,F.si_next.lookup,hQ⟩
end
end ST
namespace ST
open PySem PySem.SetTable PyProof.Rows
section
variable {prog:Program}{w:World}{A:Around}{E:Value->Shared->Prop}{s:Shared}
theorem zMB{r:Addr}{Q:Bool->Shared->Prop}(hT:s.TypeIs (.ref r) "set")(h:Q false s):wpAny (model prog w) A (Builtin.List.listLengthHint (.ref r)) Q E s:=by
 unfold Builtin.List.listLengthHint
 refine Qa (wpAny_specialOf hT PySem.F.slot_set_len.lookup ?_)
 generalize hid:("set.__len__":String)=id0
 wp_delta
 rw [show splitId id0=some ("set","__len__")from by subst hid;decide +kernel]
 subst hid
 refine Qa (wpAny_isInstance (T:="set") (b:=true) hT (by rw [isSubtype_type];kernel_rfl) ?_)
 refine wpAny_ite_split (fun z=>absurd z (by decide)) fun _=>wpAny_ite_split (fun _=>?_) fun z=>absurd (by decide +kernel) z
 exact Qa (YI hT (Qb h))
theorem zPo(a:Addr)(o:Obj)(es:Array (Int × Value))(ep:Nat)(t:SetTable):PySem.W.KdlSrc prog w "set" a a es.size (fun i v=>∃ x,(ordW w a ep es)[i]?=some x/\v=x.2) (fun h=>zBn w h a o es ep t) where
 type:=fun s S=>⟨o,S.get,S.ex.1⟩
 there:=fun h S=>⟨Qo S.get,Qo S.get⟩
 keep:=fun h h' S hk=>S.at (hk a (.inl rfl) o S.get)
 notList:=by decide
 notTuple:=by decide
 hint:=fun A E s Q S h=>zMB ⟨o,S.get,S.ex.1⟩ h
 iter:=fun A s hh S=>⟨_,_,fun E Q hQ=>zMN S hQ,Walks.set hh _ a (Qt (Qo S.get)) o es ep t,⟨0,fun _=>zLg _ S.up,⟨_,Qu _ rfl,rfl,rfl⟩,S.at (Qd _ S.get)⟩⟩
theorem zMM{w:World}{a:Addr}{ep:Nat}{es:Array (Int × Value)}{acc:Array Value}(h:ItemsOf (fun i v=>∃ x,(ordW w a ep es)[i]?=some x/\v=x.2) acc es.size):acc.toList=(ordW w a ep es).toList.map (·.2):=by
 refine List.ext_getElem? fun i=>?_
 rw [QB,QA,QA]
 by_cases l:i<es.size
 ·have l':i<acc.size:=by rw [h.1];exact l
  obtain⟨x,e1,e2⟩:=h.2 i _ (QE l')
  rw [e1,QE l',e2]
  rfl
 ·rw [Yn (by rw [h.1];lia),Yn (by rw [zFy];lia)]
  rfl
theorem Ents.perm{h:Heap}{es es':List (Int × Value)}(p:List.Perm es es'):∀{ks:List (List Int)},Ents prog w h es ks->∃ ks',Ents prog w h es' ks'/\List.Perm ks' ks:=by
 induction p with
 | nil=>intro ks X;exact⟨ks,X,.refl _⟩
 | cons x _ ih=>
  intro ks X
  cases X with
  | cons h1 r=>
   obtain⟨ks',X',q⟩:=ih r
   exact⟨_,.cons h1 X',q.cons _⟩
 | swap x y l=>
  intro ks X
  cases X with
  | cons h1 r=>cases r with
   | cons h2 r=>exact⟨_,.cons h2 (.cons h1 r),.swap _ _ _⟩
 | trans _ _ ih1 ih2=>
  intro ks X
  obtain⟨k1,X1,q1⟩:=ih1 X
  obtain⟨k2,X2,q2⟩:=ih2 X1
  exact⟨k2,X2,q2.trans q1⟩
theorem ItemsAre.unique:∀{k k':List Int}{vs:List Value},ItemsAre (intKind prog w) k vs->ItemsAre (intKind prog w) k' vs->k=k'
 | _,_,_,.nil,h=>by cases h;rfl
 | _,_,_,.cons h1 r1,h=>by
  cases h with
  | cons h2 r2=>
   obtain⟨t1,e1⟩:=Value.isInt_shape h1
   obtain⟨t2,e2⟩:=Value.isInt_shape h2
   rw [e1]at e2
   cases e2
   rw [ItemsAre.unique r1 r2]
theorem TK.unique{h:Heap}{k k':List Int}{a:Addr}(x:TK prog w h k a)(y:TK prog w h k' a):k=k':=by
 obtain⟨o,items,n,ho,_,hd,hi⟩:=x
 obtain⟨o',items',n',ho',_,hd',hi'⟩:=y
 rw [ho]at ho'
 cases ho'
 rw [hd]at hd'
 cases hd'
 exact ItemsAre.unique hi hi'
def SetV(prog:Program)(w:World)(V:Value->Prop)(h:Heap)(a:Addr)(o:Obj)(ks:List (List Int)):Prop:=
 ∃ es ep t,zBn w h a o es ep t/\Ents prog w h es.toList ks/\ks.Nodup/\∀ e∈es.toList,V e.2
end
end ST
namespace SL
open PySem PySem.Spec PyProof.Rows L2 CL DL SD ST
def tupI(k:List Int):D:=.tuple (k.map PyData.int)
section
variable {X:Cx}{pins:List (Addr × Obj)}{σ:L2.St}{H:Hp}{s:Shared}
abbrev VT(K:PySem.W.Frag)(H:Hp)(v:Value):Prop:=∃ b,∃ xs:List Int,v=.ref b/\SqT K H b (xs.map V.int)
def StV(X:Cx)(pins:List (Addr × Obj))(σ:L2.St)(Q:KsK)(u:Value)(s':Shared):Prop:=
 ∃ a o ks H',u=.ref a/\Inv X ((a,o)::pins) σ H' s'/\SetV X.prog X.w (VT X.K H') s'.heap a o ks/\Q ks H'
def PSv(X:Cx)(e:Expr)(t:TSt):Prop:=
 ∀(pins:List (Addr × Obj)) (s:Shared) (σ:L2.St) (H:Hp) (Q:KsK),Inv X pins σ H s->t σ H Q->wpAny (model X.prog X.w) X.A (eval e X.env) (StV X pins σ Q) X.xe s
def DSv(X:Cx)(e:Expr)(g:Rho->Option (List (List Int))):Prop:=PSv X e (tDSt X.K g)
theorem zOz{e:Expr}{t:TSt}(h:PSt X e t):PSv X e t:=fun pins s σ H Q I q=>thn (h pins s σ H Q I q) fun u s1 zz=>by
 obtain⟨a,o,ks,H1,eu,I1,S,_,q⟩:=zz
 obtain⟨o',es,ep,t,z1,z2,z3,z4,z5,z6,z7,z8⟩:=S
 have e:s1.heap.get? a=some o:=(I1.pin (a,o) (Qz _ Qj)).1
 rw [z1]at e
 cases e
 exact⟨a,o,ks,H1,eu,I1,⟨es,ep,t,⟨z1,z2,z3,z4.fits (by simp),z4.up,z5.1,z5.2⟩,z6,z7,z8⟩,q⟩
theorem zMb{e:Expr}{g:Rho->Option (List (List Int))}(h:DSt X e g):DSv X e g:=zOz h
theorem zIt{F:Addr->Prop}(I:Inv X pins σ H s):∀{es:List (Int × Value)}{ks:List (List Int)},Ents X.prog X.w s.heap es ks->(∀ e∈es,VT X.K H e.2)->∃ vs:List V,Reps X.K F H (ks.map tupI) vs/\Vals vs (es.map (·.2))
 | _,_,.nil,_=>⟨[],.nil,.nil⟩
 | _,_,.cons (k:=k) (b:=b) h1 r,hv=>by
  obtain⟨vs,r1,r2⟩:=zIt (F:=F) I r fun e he=>hv e (Qe _ he)
  obtain⟨b',xs,e1,e2⟩:=hv _ Qj
  cases e1
  have:k=xs:=h1.unique (zCq I e2)
  subst this
  exact⟨.ref b::vs,.cons (.tup e2 (zE5 k)) r1,.cons rfl r2⟩
end
theorem zOQ{d0:List D}{ds ds':List D}(p:List.Perm ds ds'):∀{l:List KD},zA9 d0 ds=some l->∃ l',zA9 d0 ds'=some l'/\List.Perm l' l:=by
 induction p with
 | nil=>intro l h;exact⟨l,h,.refl _⟩
 | cons x _ ih=>
  intro l h
  obtain⟨k,e1,h⟩:=bnd h
  obtain⟨r,e2,h⟩:=bnd h
  cases h
  obtain⟨l',q1,q2⟩:=ih e2
  exact⟨(k,x)::l',by unfold zA9;rw [e1,q1];rfl,q2.cons _⟩
 | swap x y l0=>
  intro l h
  obtain⟨k,e1,h⟩:=bnd h
  obtain⟨r,e2,h⟩:=bnd h
  cases h
  obtain⟨k2,e3,h⟩:=bnd e2
  obtain⟨r2,e4,h⟩:=bnd h
  cases h
  exact⟨(k2,x)::(k,y)::r2,by unfold zA9;rw [e3];unfold zA9;rw [e1,e4];rfl,.swap _ _ _⟩
 | trans _ _ ih1 ih2=>
  intro l h
  obtain⟨l1,q1,q2⟩:=ih1 h
  obtain⟨l2,q3,q4⟩:=ih2 q1
  exact⟨l2,q3,q4.trans q2⟩
theorem zPj{d0:List D}{ds ds':List D}{l l':List KD}(h:zA9 d0 ds=some l)(h':zA9 d0 ds'=some l')(p:List.Perm l' l):zA6 l'=zA6 l:=by
 refine zHC (((zDC l').trans p).trans (zDC l).symm) (zEB l') (zEB l) fun a ha b hb e=>?_
 have r:=(zHq h').2
 have h1:=r a ((zDC l').mem_iff.mp ha)
 have h2:=r b ((zDC l').mem_iff.mp hb)
 rw [e]at h1
 exact Prod.ext e (zDv h1 h2)
def zCN(g:Rho->Option (List (List Int))):Rho->Option D:=fun ρ=>(g ρ).bind fun kl=>zBC [.list ((dd kl).map tupI)]
section
variable {X:Cx}{e:Expr}{p pos:Pos}{g:Rho->Option (List (List Int))}
theorem zIj{x:Str}(hc:X.calm=true)(hu:X.A.units+66<cLine)(hg:Gl X x)(hm:X.mg x=none)(hv:bootBuiltins x=some (.builtin "sorted"))(ha:DSv X e g)(hn:x≠"__name__":=by decide)(hdb:(x == ("__debug__":Str))=false:=by decide)
  (he:starEach [e] X.env=(false,eval e X.env)::starEach [] X.env:=by rfl) (hpl:(backTo pos (starEach [] X.env)).any (·.1)=false:=by rfl):
  DE X (.Call (.Name x p) [e] [] pos) (zCN g):=by
 intro pins s σ H Q I ⟨F,H₀,ρ,d,S,q,k⟩
 obtain⟨kl,e1,q⟩:=bnd q
 refine YM (zBT I hg hm hv ?_ hn hdb)
 refine PyProof.Rows.callWith_builtin1 (Q:=?_) ?_ he hpl
 rw [he]
 show wpAny _ _ (spliced ((false,eval e X.env)::backTo pos (starEach [] X.env))) _ _ s
 refine Calls.spliced_cons (thn (ha pins s σ H (fun ks H1=>ks.Nodup/\(∀ k,k∈ks ↔ k∈kl)/\∃ F1,Ext F F1 H H1) I ⟨F,H₀,ρ,kl,S,e1,fun F1 H1 ks E1 n1 m1=>⟨n1,m1,F1,E1⟩⟩) fun u s1 zz=>?_)
 obtain⟨a,o,ks,H1,eu,I1,⟨es,ep,t,S1,X1,n1,v1⟩,_,m1,F1,E1⟩:=zz
 refine Calls.spliced_nil ?_
 subst eu
 refine Calls.call_function_entry kind_sorted plain_sorted entry_sorted (args_sorted1 _) ?_
 unfold Builtin.«sorted»
 have pk:List.Perm ks (dd kl):=(List.perm_ext_iff_of_nodup n1 (zG1 kl)).mpr fun k=>(m1 k).trans zFr.symm
 have hlen:es.size=(dd kl).length:=by rw [<- Qp,X1.length,pk.length_eq]
 have l64:(dd kl).length<64:=by
  cases c:dd kl with
  | nil=>decide
  | cons k0 kr=>
   rw [c]at q
   have q':(if(kr.map tupI).length<63 then _ else none)=some d:=q
   by_cases z:(kr.map tupI).length<63
   ·rw [Ql]at z;simp;lia
   ·rw [if_neg z]at q';cases q'
 refine Qa (m:=checkCount "sorted" 1 1 _) (Qb (Qa (PySem.W.kdu_collect (zPo a o es ep t) (by simp [I1.ok.hd hc]) S1 (zAR (by lia)) fun h' tk acc hk hacc=>?_)))
 have I2:Inv X pins σ H1 { s1 with heap:=h',toks:=tk }:=(I1.pins_of fun p hp=>I1.pin p (Qz _ (Qe _ hp))).kept hk
 obtain⟨ks',X2,p2⟩:=(X1.mono fun k b x=>x.at fun o e=>hk b o e).perm (zDs X.w a ep es).symm
 obtain⟨vs,r1,r2⟩:=zIt (F:=F1) I2 X2 fun e he=>v1 e ((zDs X.w a ep es).mem_iff.mp he)
 rw [<- zMM hacc]at r2
 have form:∃ d0 l,zA9 d0 ((dd kl).map tupI)=some l/\d=.list ((zA6 l).map (·.2)):=by
  cases c:dd kl with
  | nil=>rw [c]at q;cases q;exact⟨[],[],rfl,rfl⟩
  | cons k0 kr=>
   rw [c]at q
   have q':(if(kr.map tupI).length<63 then(zA9 (k0.map PyData.int) ((k0::kr).map tupI)).bind fun l=>some (PyData.list ((zA6 l).map (·.2)))else none)=some d:=q
   by_cases z:(kr.map tupI).length<63
   ·rw [if_pos z]at q'
    obtain⟨l,e2,q'⟩:=bnd q'
    cases q'
    exact⟨_,l,e2,rfl⟩
   ·rw [if_neg z]at q';cases q'
 obtain⟨d0,l,f1,rfl⟩:=form
 obtain⟨l',f2,f3⟩:=zOQ ((p2.trans pk).map tupI).symm f1
 refine zKA hu I2 r2 r1 f2 (by rw [Ql,(p2.trans pk).length_eq];exact l64) fun p vs' hp r' _=>?_
 rw [zPj f1 f2 f3]at r'
 exact k _ _ _ (E1.trans (Ext.frozen hp)) (Rep.newLst hp r')
end
end SL
namespace SL
open PySem PySem.Spec PyProof.Rows L2 CL DL SD
section
variable {X:Cx}{e st:Expr}{p2 pos:Pos}
end
end SL
namespace TL
open PySem PySem.Spec PyProof.Rows L2 HT
theorem zNG:fillsNumberSlot (.type "tuple") "mul"=pure false:=
 PySem.fillsNumberSlot_seq (id:="tuple.__mul__") (r:=some (.builtin "tuple.__rmul__")) PySem.F.slot_tuple_mul.lookup (by decide +kernel) PySem.F.slot_tuple_rmul.lookup (by decide +kernel)
theorem zOM:seqRepeat? (.type "tuple")=pure (some (.builtin "tuple.__mul__")):=by
 unfold seqRepeat?
 rw [PySem.seqSlot_of (T:="tuple") (name:="__mul__") (id:="tuple.__mul__") PySem.F.slot_tuple_mul.lookup (by decide +kernel),PySem.seqSlot_of (T:="tuple") (name:="__rmul__") (id:="tuple.__rmul__") PySem.F.slot_tuple_rmul.lookup (by decide +kernel)]
 rfl
theorem zOO(a:Int)(t:Tok)(l:Addr)(items:Array Value)(n:Nat)(dd:Option Addr)(sl:Array (Option Value)):
  Meets (Builtin.«int.__rmul__» ⟨[.int a t,.ref l],[]⟩) (fun _ R s=>s.heap.get? l=some { cls:=.type "tuple",dict:=dd,data:=.seq items n,slots:=sl }/\R (.ok (.ret Value.notImplemented)) s):=
 .of_wp fun prog w A R s h=>by
  obtain⟨hp,g,d,tk,os⟩:=s
  obtain⟨hl,h⟩:=h
  wp_walk
  exact⟨_,rfl,h⟩
theorem zNm(t:Tok)(l:Addr)(items:Array Value)(n:Nat)(dd:Option Addr)(sl:Array (Option Value))(hne:items.isEmpty=false)(hsz:items.size+items.size<=16777216):
  Meets (Builtin.«tuple.__mul__» ⟨[.ref l,.int 2 t],[]⟩) (fun _ R s=>s.heap.get? l=some { cls:=.type "tuple",dict:=dd,data:=.seq items n,slots:=sl }/\R (.ok (.ret (Value.ref s.heap.objs.size))) { s with heap:=s.heap.push { cls:=Value.type "tuple",data:=Data.seq (items++items) },toks:=s.toks }):=
 .of_wp fun prog w A R s h=>by
  obtain⟨hp,g,d,tk,os⟩:=s
  obtain⟨hl,h⟩:=h
  have f1:=AutoSeq1.idx_int
  have c1:(items.isEmpty || (2:Int) == 1)=false:=by rw [hne];rfl
  have c2:(decide ((2:Int)<=0) || items.isEmpty)=false:=by rw [hne];rfl
  have c3:¬ ((items.size:Int) * 2 > (2 ^ 63-1) / 8):=by
   have:((2:Int) ^ 63-1) / 8=1152921504606846975:=by decide
   lia
  have c4:Builtin.Tuple.tupleTooMany ((items.size:Int) * 2)=false:=by
   unfold Builtin.Tuple.tupleTooMany
   rw [Ya]
   exact decide_eq_false (by lia)
  have c5:(List.replicate ((2:Int).toNat) items).foldl (fun x y=>x++y) #[]=items++items:=by
   show(#[]++items)++items=items++items
   simp
  have c6:sizeOk (.seq (items++items)):=by
   show(items++items).size<=sizeLine
   rw [Array.size_append,Ya];exact hsz
  unfold Builtin.«tuple.__mul__»
  wp_walk using wpAny_loadPart' hl
  rw [if_neg c3]
  dsimp only
  rw [c4,if_neg Qr,c5]
  exact Qa (m:=Builtin.Tuple.tupleExact _) (Yh (Qb ⟨_,rfl,h⟩) c6)
section
variable {prog:Program}{w:World}{A:Around}{E:Value->Shared->Prop}{s:Shared}
theorem zNn{t:Addr}{vs:List Value}{u:Tok}{Q:Value->Shared->Prop}(ht:IsTup s.heap t vs.toArray)(hv:vs≠[])(hz:vs.length+vs.length<=16777216)
  (h:Q (.ref s.heap.objs.size) { s with heap:=s.heap.push { cls:=.type "tuple",data:=.seq (vs++vs).toArray } }):wpAny (model prog w) A (binaryOp .Mult (.ref t) (.int 2 u)) Q E s:=by
 obtain⟨⟨cls,dd,data,sl⟩,ho,hc,n,hd⟩:=id ht
 simp only at hc hd
 subst hc hd
 have hne:vs.toArray.isEmpty=false:=by cases vs with
  | nil=>exact absurd rfl hv
  | cons _ _=>rfl
 have e:vs.toArray++vs.toArray=(vs++vs).toArray:=by simp
 refine wpAny_binaryOp_repeat_ref (T:="tuple") (U:="int") (by decide) ⟨_,ho,rfl⟩ (fun s'=>typeIs_int s' 2 u) zNG PySem.F.fills_int_mul PySem.F.slot_int_rmul zOM PySem.F.slot_int_index.lookup
  (call_meets PySem.F.slot_int_rmul (typeIs_int s 2 u) PySem.F.entry_int_rmul (PySem.F.args_int_rmul_2 _ _) (zOO 2 u t vs.toArray n dd sl)
   ⟨ho,rfl,⟨_,ho,rfl⟩,call_meets PySem.F.slot_tuple_mul ⟨_,ho,rfl⟩ PySem.F.entry_tuple_mul (PySem.F.args_tuple_mul_2 _ _) (zNm u t vs.toArray n dd sl hne (by simpa using hz)) ⟨ho,?_⟩⟩)
 rw [e]
 exact h
theorem zLt{t b:Addr}{ws:List Value}{Q:Value->Shared->Prop}(ht:IsTup s.heap t #[])(hb:IsTup s.heap b ws.toArray)(h:Q (.ref b) s):wpAny (model prog w) A (binaryOp .Add (.ref t) (.ref b)) Q E s:=by
 obtain⟨⟨cls,dd,data,sl⟩,ho,hc,n,hd⟩:=id ht
 obtain⟨⟨cls2,dd2,data2,sl2⟩,ho2,hc2,n2,hd2⟩:=id hb
 simp only at hc hd hc2 hd2
 subst hc hd hc2 hd2
 exact concat_meets ⟨_,ho,rfl⟩ ⟨_,ho2,rfl⟩ noFill_tuple_add seq_tuple_add PySem.F.slot_tuple_add PySem.F.entry_tuple_add (PySem.F.args_tuple_add_2 _ _) (tuple_addW0 t b #[] ws.toArray n n2 dd dd2 sl sl2 rfl) ⟨ho,ho2,h⟩
theorem zLu{t b:Addr}{vs ws:List Value}{Q:Value->Shared->Prop}(ht:s.heap.IsList t vs.toArray)(hb:s.heap.IsList b ws.toArray)(hz:vs.length+ws.length<=sizeLine)
  (h:Q (.ref s.heap.objs.size) { s with heap:=s.heap.push { cls:=.type "list",data:=.seq (vs++ws).toArray } }):wpAny (model prog w) A (binaryOp .Add (.ref t) (.ref b)) Q E s:=by
 obtain⟨⟨cls,dd,data,sl⟩,ho,hc,n,hd⟩:=id ht
 obtain⟨⟨cls2,dd2,data2,sl2⟩,ho2,hc2,n2,hd2⟩:=id hb
 simp only at hc hd hc2 hd2
 subst hc hd hc2 hd2
 have e:vs.toArray++ws.toArray=(vs++ws).toArray:=by simp
 refine concat_meets ⟨_,ho,rfl⟩ ⟨_,ho2,rfl⟩ noFill_list_add seq_list_add PySem.F.slot_list_add PySem.F.entry_list_add (PySem.F.args_list_add_2 _ _) (list_addW t b vs.toArray ws.toArray n n2 dd dd2 sl sl2 (by simpa using hz)) ⟨ho,ho2,?_⟩
 rw [e]
 exact h
theorem zPO{t sl:Addr}{items:Array Value}{vl vu:Value}{lo hi:Option Int}{Q:Value->Shared->Prop}(ht:IsTup s.heap t items)(hs:s.heap.IsSliceOf sl vl vu .none)(pl:IsPart vl lo)(pu:IsPart vu hi)
  (hw:sIx items.size 0 lo=0/\sIx items.size items.size hi=items.size) (h:Q (.ref t) s):wpAny (model prog w) A (getItem (.ref t) (.ref sl)) Q E s:=by
 obtain⟨os,hos,hcs,hds⟩:=id hs
 have hTs:s.TypeIs (.ref sl) "slice":=⟨os,hos,hcs⟩
 unfold getItem
 try with_reducible refine Q2 ?_
 first | refine Qa (Qb ?_) | skip
 refine Qa (wpAny_sequenceKey ht.typeIs (by decide) ?_)
 refine Qa (Yw (name:=Str.ofString "__getitem__") ht.typeIs Yx
  (Yl Yx ht.typeIs entry_tuple_getitem ?_ (args_tuple_getitem _ _)))
 show wpAny _ _ (Builtin.Tuple.tupleItemsOf (.ref t) >>= _) _ _ s
 refine Qa (tupleItemsOf_ ht (Qa (YI hTs ?_)))
 rw [if_pos (by decide)]
 refine Qa (zKv hs pl pu ?_)
 rw [hw.1,hw.2]
 show wpAny _ _ (if(((0:Nat):Int) == 0 && (1:Int) == 1 && (items.size-0) == items.size)=true then _ else _) _ _ s
 rw [if_pos (by simp)]
 unfold Builtin.Tuple.tupleIsExact
 refine Qa (Qa (YI ht.typeIs (Qb ?_)))
 rw [if_pos (by decide)]
 exact Qa (wpAny_rule (Qb ⟨_,rfl,Qb h⟩))
end
end TL
namespace SL
open PySem PySem.Spec PyProof.Rows L2 CL DL SD TL
section
variable {X:Cx}{e st:Expr}{p2 pos:Pos}
theorem zN8:OpR X (binaryOp .Mult) (fun x y H Q=>∃ a xs,x=.ref a/\y=.int 2/\SqT X.K H a xs/\xs≠[]/\xs.length<=1000/\∀ p,H p=none->Q (.ref p) (upd H p (.tup (xs++xs)))):=by
 intro pins s σ H x y v u Q I rx ry h
 obtain⟨a,xs,rfl,rfl,ha,hx,hz,q⟩:=h
 cases rx
 obtain⟨t,rfl⟩:=ry
 obtain⟨its,r1,p1,_⟩:=I.tuple ha
 refine zNn p1 (fun z=>hx (r1.nil_iff.mp z)) (by rw [<- r1.length];lia) ?_
 refine⟨.ref s.heap.objs.size,_,I.laid (t':=s.toks) (o:=.tup (xs++xs)) (fun b ob q=>Qd _ q) (Qi _) ?_,rfl,q _ (I.hok.fresh (Qi _))⟩
 exact⟨by rw [Qv,Ya];lia,_,r1.append r1,IsTup.new _ _⟩
theorem zN6:OpR X (binaryOp .Add) (fun x y H Q=>∃ a b ys,x=.ref a/\y=.ref b/\SqT X.K H a []/\SqT X.K H b ys/\Q (.ref b) H):=by
 intro pins s σ H x y v u Q I rx ry h
 obtain⟨a,b,ys,rfl,rfl,ha,hb,q⟩:=h
 cases rx
 cases ry
 obtain⟨its,r1,p1,_⟩:=I.tuple ha
 obtain⟨its2,r2,p2,_⟩:=I.tuple hb
 cases r1
 exact zLt p1 p2 ⟨.ref b,H,I,rfl,q⟩
theorem zN7:OpR X (binaryOp .Add) (fun x y H Q=>∃ a b xs ys,x=.ref a/\y=.ref b/\SqL X.K H a xs/\SqL X.K H b ys/\xs.length+ys.length<=1000/\∀ p,H p=none->Q (.ref p) (upd H p (.lst (xs++ys)))):=by
 intro pins s σ H x y v u Q I rx ry h
 obtain⟨a,b,xs,ys,rfl,rfl,ha,hb,hz,q⟩:=h
 cases rx
 cases ry
 obtain⟨its,r1,p1,_⟩:=I.list ha
 obtain⟨its2,r2,p2,_⟩:=I.list hb
 refine zLu p1.isList p2.isList (by rw [<- r1.length,<- r2.length];exact zAR hz) ?_
 refine⟨.ref s.heap.objs.size,_,I.laid (t':=s.toks) (o:=.lst (xs++ys)) (fun b ob q=>Qd _ q) (Qi _) ?_,rfl,q _ (I.hok.fresh (Qi _))⟩
 exact⟨by rw [Qv];exact zAR hz,_,0,r1.append r2,Qu _ rfl⟩
theorem zPe:SlR X (fun x lo hi H Q=>∃ a xs,x=.ref a/\SqT X.K H a xs/\(HT.sIx xs.length 0 lo=0/\HT.sIx xs.length xs.length hi=xs.length)/\Q (.ref a) H):=by
 intro pins s σ H x v vl vu lo hi sl Q I rx hs pl pu h
 obtain⟨a,xs,rfl,hx,hw,q⟩:=h
 cases rx
 obtain⟨its,r,ht,hz⟩:=I.tuple hx
 have hlen:its.toArray.size=xs.length:=by rw [Qx];exact r.length.symm
 exact⟨"tuple",_,Yx.lookup,ht.typeIs,zPO ht hs pl pu (by rw [hlen];exact hw) ⟨.ref a,H,I,rfl,q⟩⟩
def dSl2:D->Option Int->Option Int->Option D
 | .list xs,lo,hi=>some (.list (DL.cutD xs lo hi))
 | .tuple xs,lo,hi=>some (.tuple (DL.cutD xs lo hi))
 | _,_,_=>none
def eSl2(ga:Rho->Option D)(gl gh:Rho->Option (Option Int)):Rho->Option D:=fun ρ=>(ga ρ).bind fun d=>(gl ρ).bind fun l=>(gh ρ).bind fun h=>dSl2 d l h
theorem zLF{xs:List D}{lo hi:Option Int}(h:HT.sIx xs.length 0 lo=0/\HT.sIx xs.length xs.length hi=xs.length):DL.cutD xs lo hi=xs:=by
 unfold DL.cutD
 rw [h.1,h.2,List.drop_zero,Nat.sub_zero,List.take_length]
theorem zGd{a:Expr}{lo hi:Option Expr}{ga:Rho->Option D}{gl gh:Rho->Option (Option Int)}(ha:DE X a ga)(hl:DO X lo gl)(hh:DO X hi gh):DE X (.Subscript a (.Slice lo hi none p2) pos) (eSl2 ga gl gh):=
 zAE (zOf (zPa.or (zPb.or zPe)) ha hl hh) fun σ H Q zz=>by
  obtain⟨F,H₀,ρ,d,S,q,k⟩:=zz
  obtain⟨x,e1,q⟩:=bnd q
  obtain⟨l,e2,q⟩:=bnd q
  obtain⟨h,e3,q⟩:=bnd q
  refine⟨F,H₀,ρ,x,S,e1,fun F1 H1 v E1 R1=>⟨F1,H₀,ρ,l,S.ext E1,e2,fun F2 H2 E2=>⟨F2,H₀,ρ,h,(S.ext E1).ext E2,e3,fun F3 H3 E3=>?_⟩⟩⟩
  have R3:=(R1.stay E2.stay).stay E3.stay
  have E123:=E1.trans (E2.trans E3)
  cases R3 with
  | @lst a' vs ds h1 r1=>
   cases q
   exact .inl ⟨a',vs,rfl,h1.sq,fun p hp=>k _ _ _ (E123.trans (Ext.frozen hp)) (Rep.newLst hp (r1.cut l h))⟩
  | @tup a' vs ds h1 r1=>
   cases q
   by_cases c:HT.sIx ds.length 0 l=0/\HT.sIx ds.length ds.length h=ds.length
   ·rw [zLF c]at k
    exact .inr (.inr ⟨a',vs,rfl,h1,by rw [<- r1.length];exact c,k _ _ _ E123 (.tup h1 r1)⟩)
   ·exact .inr (.inl ⟨a',vs,rfl,h1,by rw [<- r1.length];exact c,fun p hp=>k _ _ _ (E123.trans (Ext.fresh hp)) (Rep.newTup hp (r1.cut l h))⟩)
  | non=>cases q
  | dct _ _ _ _ _=>cases q
  | exn _ _ _=>cases q
  | bl _=>cases q
  | int _=>cases q
  | str _=>cases q
def zAr:D->D->Option D
 | .int i,.int j=>some (.int (i+j))
 | .tuple xs,.tuple ys=>if xs.length+ys.length<=1000 then some (.tuple (xs++ys))else none
 | .list xs,.list ys=>if xs.length+ys.length<=1000 then some (.list (xs++ys))else none
 | _,_=>none
theorem zG0{α β:Type}{xs:List α}{ys:List β}(h:xs.length=ys.length)(e:ys=[]):xs=[]:=by subst e;exact Y5 h
theorem zAy:OpR X (binaryOp .Add) (rD2 X.K zAr):=zEn (zNW.or (zNX.or (zN6.or zN7))) fun x y H Q zz=>by
 obtain⟨F,d,e,q,z,R1,R2,hq,k⟩:=zz
 unfold zAr at hq
 split at hq
 ·cases hq
  cases R1
  cases R2
  exact .inl ⟨_,_,rfl,rfl,k F H _ (Ext.refl F H) (.int _)⟩
 ·rename_i xs ys
  by_cases c:xs.length+ys.length<=1000
  ·rw [if_pos c]at hq
   cases hq
   cases R1 with
   | @tup a vs _ h1 r1=>
    cases R2 with
    | @tup b us _ h2 r2=>
     by_cases n:vs=[]
     ·subst n
      have:xs=[]:=zG0 r1.length rfl
      subst this
      exact .inr (.inr (.inl ⟨a,b,us,rfl,rfl,h1,h2,k F H _ (Ext.refl F H) (.tup h2 r2)⟩))
     ·refine .inr (.inl ⟨a,b,vs,us,rfl,rfl,h1,h2,n,zAR (by rw [<- r1.length,<- r2.length];exact c),fun e=>?_,fun e p hp=>?_⟩)
      ·have:ys=[]:=zG0 r2.length e
       subst this
       rw [Q8]at k
       exact k F H _ (Ext.refl F H) (.tup h1 r1)
      ·exact k F _ _ (Ext.fresh hp) (Rep.newTup hp (r1.append r2))
  ·rw [if_neg c]at hq;cases hq
 ·rename_i xs ys
  by_cases c:xs.length+ys.length<=1000
  ·rw [if_pos c]at hq
   cases hq
   cases R1 with
   | @lst a vs _ h1 r1=>
    cases R2 with
    | @lst b us _ h2 r2=>
     exact .inr (.inr (.inr ⟨a,b,vs,us,rfl,rfl,h1.sq,h2.sq,by rw [<- r1.length,<- r2.length];exact c,fun p hp=>k _ _ _ (Ext.frozen hp) (Rep.newLst hp (r1.append r2))⟩))
  ·rw [if_neg c]at hq;cases hq
 ·cases hq
def zAt:D->D->Option D
 | .int i,.int j=>if zCb i j=true then some (.int (i * j))else none
 | .tuple xs,.int j=>if j=2/\xs≠[]/\xs.length<=500 then some (.tuple (xs++xs))else none
 | _,_=>none
theorem zAZ:OpR X (binaryOp .Mult) (rD2 X.K zAt):=zEn ((zN3 (X:=X)).or zN8) fun x y H Q zz=>by
 obtain⟨F,d,e,q,z,R1,R2,hq,k⟩:=zz
 unfold zAt at hq
 split at hq
 ·exact .inl ⟨F,_,_,q,z,R1,R2,hq,k⟩
 ·rename_i xs j
  by_cases c:j=2/\xs≠[]/\xs.length<=500
  ·rw [if_pos c]at hq
   cases hq
   obtain⟨rfl,c1,c2⟩:=c
   cases R2
   cases R1 with
   | @tup a vs _ h1 r1=>
    exact .inr ⟨a,vs,rfl,rfl,h1,fun e=>c1 (zG0 r1.length e),by rw [<- r1.length];lia,fun p hp=>k F _ _ (Ext.fresh hp) (Rep.newTup hp (r1.append r1))⟩
  ·rw [if_neg c]at hq;cases hq
 ·cases hq
def dLt2:D->D->Option D
 | .int i,.int j=>some (.bool (decide (i<j)))
 | .tuple xs,.tuple ys=>(zAK xs).bind fun a=>(zAK ys).bind fun b=>some (.bool (HT.lexLt a b))
 | _,_=>none
theorem zDq(hu:X.A.units+64<cLine):OpR X (compareOp .Lt) (rD2 X.K dLt2):=zEn (op_lt.or (zNZ (by lia))) fun x y H Q zz=>by
 obtain⟨F,d,e,q,z,R1,R2,hq,k⟩:=zz
 unfold dLt2 at hq
 split at hq
 ·cases hq
  cases R1
  cases R2
  exact .inl ⟨_,_,rfl,rfl,k F H _ (Ext.refl F H) (.bl _)⟩
 ·obtain⟨a,e1,hq⟩:=bnd hq
  obtain⟨b,e2,hq⟩:=bnd hq
  cases hq
  cases R1 with
  | @tup u vs _ h1 r1=>
   cases R2 with
   | @tup u' us _ h2 r2=>
    rw [zE4 r1 e1]at h1
    rw [zE4 r2 e2]at h2
    exact .inr ⟨u,u',a,b,rfl,rfl,h1,h2,k F H _ (Ext.refl F H) (.bl _)⟩
 ·cases hq
end
end SL
namespace EL
open PySem PySem.Spec PyProof.Rows L2 DL ZL
open AutoSeq1 (wpAny_loadPart')
theorem zNy(l:Addr)(items:Array Value)(n:Nat)(dct:Option Addr)(sl:Array (Option Value)):
  Meets (Builtin.«enumerate.__new__» ⟨[.type "enumerate",.ref l],[]⟩) (fun _ R s=>s.heap.get? l=some { cls:=.type "tuple",dict:=dct,data:=.seq items n,slots:=sl } /\
   R (.ok (.ret (.ref (s.heap.push { cls:=.type "tuple_iterator",data:=.fields #[.ref l,.int 0 0] }).objs.size)))
    { s with heap:=(s.heap.push { cls:=.type "tuple_iterator",data:=.fields #[.ref l,.int 0 0] }).push { cls:=.type "enumerate",data:=.fields #[.none,.bool false,.ref s.heap.objs.size,rawInt 0,.none,.none] } }):=
 .of_wp fun prog w A R s h=>by
  obtain⟨hp,g,d,tk,os⟩:=s
  obtain⟨hl,h⟩:=h
  have hsub:=sub_enumerate
  have hT:Heap.IsTuple (Shared.heap ⟨hp,g,d,tk,os⟩) l items:=⟨_,hl,rfl,n,rfl⟩
  wp_walk using wpAny_loadPart' hl
  refine wpAny_stack_any fun st=>Qb ?_
  split
  ·rename_i c _ _ _ _ _
   cases(c == Value.type "enumerate") <;> (wp_walk using wpAny_loadPart' hl,wpAny_pyIter_tuple hT;exact⟨_,rfl,h⟩)
  ·wp_walk using wpAny_loadPart' hl,wpAny_pyIter_tuple hT
   exact⟨_,rfl,h⟩
section
variable {prog:Program}{w:World}{A:Around}{E:Value->Shared->Prop}{s:Shared}
theorem zLo{l:Addr}{items:Array Value}{Q:Value->Shared->Prop}(hT:s.heap.IsTuple l items)
  (h:∀ h',IsEnum h' (s.heap.objs.size+1) s.heap.objs.size 0 .none->h'.IsTupleIter s.heap.objs.size l 0->h'.objs.size=s.heap.objs.size+2->
   (∀ b o,s.heap.get? b=some o->h'.get? b=some o)->Q (.ref (s.heap.objs.size+1)) { s with heap:=h' }):
  wpAny (model prog w) A (call (.type "enumerate") [.ref l]) Q E s:=by
 obtain⟨⟨c,dct,dt,sl⟩,hl,hc,n,hd⟩:=hT
 replace hc:c=.type "tuple":=hc
 replace hd:dt=.seq items n:=hd
 subst hc hd
 refine callType_new F.called_enumerate (by decide) (F.typeCall_enumerate_1 _) (F.newCall_enumerate_1 _) (fun obj=>F.args_object_init_2 obj _) F.entry_enumerate_new
  (zNy l items n dct sl) ⟨hl,?_⟩
 have hz:(s.heap.push { cls:=.type "tuple_iterator",data:=.fields #[.ref l,.int 0 0] }).objs.size=s.heap.objs.size+1:=Yr ..
 show _/\_
 rw [hz]
 have he:IsEnum ((s.heap.push { cls:=.type "tuple_iterator",data:=.fields #[.ref l,.int 0 0] }).push
   { cls:=.type "enumerate",data:=.fields #[.none,.bool false,.ref s.heap.objs.size,rawInt 0,.none,.none] }) (s.heap.objs.size+1) s.heap.objs.size 0 .none:=by
  have:=Qu (s.heap.push { cls:=.type "tuple_iterator",data:=.fields #[.ref l,.int 0 0] })
   (o:={ cls:=.type "enumerate",data:=.fields #[.none,.bool false,.ref s.heap.objs.size,rawInt 0,.none,.none] }) rfl
  rw [hz]at this;exact this
 exact⟨⟨_,he,rfl⟩,h _ he ⟨_,Qd _ (Qu _ rfl),rfl,rfl⟩ (by rw [Yr,hz]) fun b o x=>Qd _ (Qd _ x)⟩
theorem zNz{it t:Addr}{i:Nat}{items:Array Value}{x:Value}{Q:Value->Shared->Prop}(hit:s.heap.IsTupleIter it t i)(ht:s.heap.IsTuple t items)(hx:items[i]?=some x)
  (hQ:∀ h',h'.IsTupleIter it t (i+1)->Heap.SameBut it s.heap h'->Q x { s with heap:=h' }):wpAny (model prog w) A (Builtin.SmallTypes.nextOf (.ref it)) Q E s:=by
 obtain⟨o,ho,hc,hd⟩:=id hit
 obtain⟨ol,hol,_,nl,hdl⟩:=ht
 unfold Builtin.SmallTypes.nextOf
 refine Qa (Yw (name:=Str.ofString "__next__") hit.typeIs YS
  (Yl YS hit.typeIs F.entry_tuple_iterator_next ?_ (F.args_tuple_iterator_next_1 _)))
 show wpAny _ _ (field (.ref it) 0 >>= _) _ _ s
 refine Qa (Jo ho hd (x:=.ref t) rfl ?_)
 show wpAny _ _ (if(Value.ref t == Value.none)=true then _ else _) _ _ s
 rw [if_neg (show ¬ ((Value.ref t == Value.none)=true)from Qr)]
 show wpAny _ _ (field (.ref it) 1 >>= _) _ _ s
 refine Qa (Jo ho hd (x:=.int i 0) rfl ?_)
 show wpAny _ _ (seqItems? (.ref t) >>= _) _ _ s
 refine Qa (wpAny_seqItems hol hdl ?_)
 simp only [Jd,hx]
 refine Qa (wpAny_setField ho hd (by simp) (Qb ⟨x,rfl,Qb (hQ _ ?_ (QZ ..))⟩))
 refine⟨_,Q6 _ ho (Obj.isFreed_of_fields (YR hd _)),(Obj.cls_mapFields ..).trans hc,?_⟩
 rw [YR hd]
 simp [rawInt]
theorem zJF{it t:Addr}{i:Nat}{items:Array Value}{Q:Value->Shared->Prop}(hh:A.handled=none)(hit:s.heap.IsTupleIter it t i)(ht:s.heap.IsTuple t items)(hx:items[i]?=none)
  (hE:∀ h' e,Heap.ExtBut it s.heap h'->(∃ o,h'.get? e=some o/\o.cls=.type "StopIteration")->E (.ref e) { s with heap:=h' }):wpAny (model prog w) A (Builtin.SmallTypes.nextOf (.ref it)) Q E s:=by
 obtain⟨o,ho,hc,hd⟩:=id hit
 obtain⟨ol,hol,_,nl,hdl⟩:=ht
 unfold Builtin.SmallTypes.nextOf
 refine Qa (Yw (name:=Str.ofString "__next__") hit.typeIs YS
  (Yl YS hit.typeIs F.entry_tuple_iterator_next ?_ (F.args_tuple_iterator_next_1 _)))
 show wpAny _ _ (field (.ref it) 0 >>= _) _ _ s
 refine Qa (Jo ho hd (x:=.ref t) rfl ?_)
 show wpAny _ _ (if(Value.ref t == Value.none)=true then _ else _) _ _ s
 rw [if_neg (show ¬ ((Value.ref t == Value.none)=true)from Qr)]
 show wpAny _ _ (field (.ref it) 1 >>= _) _ _ s
 refine Qa (Jo ho hd (x:=.int i 0) rfl ?_)
 show wpAny _ _ (seqItems? (.ref t) >>= _) _ _ s
 refine Qa (wpAny_seqItems hol hdl ?_)
 simp only [Jd,hx]
 refine Qa (wpAny_rule (Qa (wpAny_setField ho hd (by simp) ?_)))
 show wpAny _ _ (newExc (.type "StopIteration") [] >>= _) _ _ _
 refine Qa ?_
 simp only [newExc,newTuple]
 refine Qa (Yh ?_ (by size_fits))
 refine Qa (m:=firstArgMember _ _) (wpAny_of_eq (a:=Value.none) (by first | rfl | (simp only [firstArgMember];rfl)) ?_)
 refine Yh ?_ (by size_fits)
 simp only [raiseNew]
 refine Qa (wpAny_handled ?_)
 first | rw [show A.in1.handled=none from hh] | rw [hh]
 refine Qa (Qb (wpAny_throw ?_))
 exact hE _ _ (((QZ ..).extBut.push _).push _) ⟨_,Qu _ rfl,rfl⟩
end
theorem zL6{prog:Program}{w:World}{A:Around}(hh:A.handled=none)(it t:Addr)(hne:t≠it)(items:Array Value):
  Draws prog w A it [it,t] items.size (fun i v=>items[i]?=some v) (fun i h=>h.IsTupleIter it t i/\h.IsTuple t items) where
 live:=fun _ _ st=>let⟨o,ho,_⟩:=st.1;⟨o,ho⟩
 frame:=fun _ _ _ st hk=>⟨st.1.at fun o e=>hk it (by simp) o e,st.2.at fun o e=>hk t (by simp) o e⟩
 item:=fun i s Q E hi st hQ=>zNz st.1 st.2 (x:=items[i]) (by simp [hi]) fun h' hit' hs'=>hQ _ h' s.toks (by simp [hi]) ⟨hit',st.2.extBut hs'.extBut hne⟩ hs'
 done:=fun s Q E st hE=>zJF hh st.1 st.2 (by simp) hE
def Ite(SQ:Hp->List V->Prop):It:=
 ⟨fun i H=>∃ xs x,SQ H xs/\xs[i]?=some x,
  fun i H v H'=>∃ p,H p=none/\v=.ref p/\∃ x,H'=upd H p (.tup [.int i,x])/\∀ xs,SQ H xs->xs[i]?=some x,
  fun i H=>∃ xs,SQ H xs/\xs.length<=i⟩
structure ESrc(P:Program)(w:World)(K:PySem.W.Frag)(SQ:Hp->List V->Prop)(a it:Addr)(IT:Nat->Heap->Prop)(IS:Heap->Array Value->Prop):Prop where
 sq:∀(X:Cx) (pins:List (Addr × Obj)) (σ:L2.St) (H:Hp) (s:Shared) (xs:List V),X.K=K->L2.Inv X pins σ H s->SQ H xs->(∃ its,Vals xs its/\IS s.heap its.toArray)/\∀ ys,SQ H ys->ys=xs
 ob:∀ i h,IT i h->∃ o,h.get? it=some o/\∀ v,o.data≠.cell v
 kp:∀ i h h',IT i h->(∀ o,h.get? it=some o->h'.get? it=some o)->IT i h'
 D:∀(A:Around) (items:Array Value),A.handled=none->Draws P w A it [it,a] items.size (fun i v=>items[i]?=some v) (fun i h=>IT i h/\IS h items)
 Z:∀(A:Around) (items:Array Value) (i:Nat),A.handled=none->items.size<=i->Draws P w A it [it,a] i (fun _ _=>False) (fun j h=>j=i/\IT i h/\IS h items)
theorem zKM{P:Program}{w:World}{K:PySem.W.Frag}{elts:List Expr}{x1}{tpos:Pos}{SQ:Hp->List V->Prop}(a e it:Addr)(hei:e≠it)(hea:e≠a){IT:Nat->Heap->Prop}{IS:Heap->Array Value->Prop}(Z:ESrc P w K SQ a it IT IS):
  Turn P w K (.Tuple elts x1 tpos) (Ite SQ) [e,it] e (fun i h=>(∃ old,IsEnum h e it i old)/\IT i h) where
 mem:=by simp
 obj:=fun i h st c hc=>by
  obtain⟨⟨old,h1⟩,h2⟩:=st
  rcases Qh.mp hc with rfl | hc
  ·exact⟨_,h1,fun v z=>by have z':Data.fields _=Data.cell v:=z;cases z'⟩
  ·rw [QC.mp hc];exact Z.ob i h h2
 keep:=fun i h h' st k=>by
  obtain⟨⟨old,h1⟩,h2⟩:=st
  exact⟨⟨old,k e (by simp) _ h1⟩,Z.kp i h h' h2 fun o q=>k it (by simp) o q⟩
 item:=by
  intro X hP hw hK hc i pins s σ H E I hf st hg
  subst hP hw
  obtain⟨xs,x,ha,hx⟩:=hg
  obtain⟨⟨old,h1⟩,h2⟩:=st
  obtain⟨⟨its,rv,pl⟩,inj⟩:=Z.sq X pins σ H s xs hK I ha
  obtain⟨xu,ex,rx⟩:=rv.get hx
  have hlt:i<its.toArray.size:=by
   have:=(Qc.mp ex).1
   simpa using this
  have hef:e∉[it,a]:=by simp only [Qh,List.not_mem_nil,or_false,not_or];exact⟨hei,hea⟩
  refine wpAny_pyNext_enum_itemD (Z.D X.A.in1 its.toArray (by simp [I.ok.hd hc])) h1 ⟨h2,pl⟩ hlt hei hef fun x' h' tk hP ho hst hT hsz hk=>⟨_,rfl,?_⟩
  have ex':its[i]?=some x':=by simpa using hP
  rw [ex]at ex'
  cases ex'
  refine wpAny_letOwnedTupleGo_enum ho fun h'' z1 sb=>?_
  have hn:H s.heap.objs.size=none:=I.hok.fresh (Qi _)
  have old':∀ c o,s.heap.get? c=some o->c≠s.heap.objs.size:=fun c o q=>Qt (Qo q)
  have eT:s.heap.objs.size≠e:=(old' e _ h1).symm
  obtain⟨oi,hoi,_⟩:=Z.ob i _ h2
  have kk:∀ c o,c∉[e,it]->s.heap.get? c=some o->h''.get? c=some o:=fun c o nc q=>
   sb.extBut c o (fun q=>nc (by simp [q])) (hk c o (fun q=>nc (by simp [q])) (fun q=>nc (by simp [q])) q)
  have nfp:∀ c o,H c=some o->c∉[e,it]:=fun c o q hc'=>by
   have:=(hf c hc').1
   rw [this]at q;cases q
  have hok:HOk X.prog X.w (upd H s.heap.objs.size (.tup [.int i,x])) h'':=fun c o q=>by
   by_cases hcT:c=s.heap.objs.size
   ·subst hcT
    rw [zAs]at q;cases q
    exact⟨zAR (by simp),[.int i tk,xu],.cons ⟨tk,rfl⟩ (.cons rx .nil),⟨_,sb.extBut _ _ eT hT,rfl,0,rfl⟩⟩
   ·rw [zAf hcT]at q
    refine(I.hok c o q).stay (fun d v hd q=>kk d v ?_ q) (fun d q=>by rw [zAf (zAO q hn)];exact q) fun d xs q=>by rw [zAf (zAO q hn)];exact q
    rcases hd with rfl | hd
    ·exact nfp _ _ q
    ·exact nfp _ _ hd
  refine⟨.ref s.heap.objs.size,_,zFZ (s:=s) (h':=h'') (tk:=tk+1) I hf kk (fun c o q=>zAf (old' c o q)) (fun c o q=>by rw [zAf (zAO q hn)];exact q) hok,rfl,⟨_,hn,rfl,x,rfl,fun ys hy=>by rw [inj ys hy];exact hx⟩,⟨⟨_,by simpa using z1⟩,Z.kp _ _ _ hst.1 fun o q=>sb.extBut it o (Ne.symm hei) q⟩,fun c hc'=>?_⟩
  have q:=(hf c hc').1
  have nT:c≠s.heap.objs.size:=by
   rcases Qh.mp hc' with rfl | hc'
   ·exact old' _ _ h1
   ·rw [QC.mp hc'];exact old' _ _ hoi
  rw [zAf nT];exact q
 done:=by
  intro X hP hw hK hc i pins s σ H E I hf st hg
  subst hP hw
  obtain⟨xs,ha,hend⟩:=hg
  obtain⟨⟨old,h1⟩,h2⟩:=st
  obtain⟨⟨its,rv,pl⟩,inj⟩:=Z.sq X pins σ H s xs hK I ha
  have l1:=rv.length
  refine wpAny_pyNext_enum_endD (Z.Z X.A.in1 its.toArray i (by simp [I.ok.hd hc]) (by rw [Qx];lia)) h1 ⟨rfl,h2,pl⟩ fun h' hx=>⟨rfl,?_⟩
  have kk:∀ c o,c∉[e,it]->s.heap.get? c=some o->h'.get? c=some o:=fun c o nc q=>hx c o (fun q=>nc (by simp [q])) q
  have nfp:∀ c o,H c=some o->c∉[e,it]:=fun c o q hc'=>by
   have:=(hf c hc').1
   rw [this]at q;cases q
  refine zFZ (s:=s) (h':=h') (tk:=s.toks) I hf kk (fun _ _ _=>rfl) (fun _ _ q=>q) fun c o q=>?_
  refine(I.hok c o q).stay (fun d v hd q=>kk d v ?_ q) (fun d q=>q) fun d xs q=>q
  rcases hd with rfl | hd
  ·exact nfp _ _ q
  ·exact nfp _ _ hd
 self:=fun _ _ _ _ _ st h=>by
  obtain⟨⟨old,h1⟩,_⟩:=st
  exact wpAny_pyIter_enum h1 h
theorem esrcT{P:Program}{w:World}{K:PySem.W.Frag}(a it:Addr)(hne:a≠it):ESrc P w K (fun H xs=>SqT K H a xs) a it (fun i h=>h.IsTupleIter it a i) (fun h items=>h.IsTuple a items) where
 sq:=fun X pins σ H s xs hK I ha=>by
  subst hK
  obtain⟨its,rv,pl,_⟩:=I.tuple ha
  exact⟨⟨its,rv,pl⟩,fun ys hy=>I.tuple_inj hy ha⟩
 ob:=fun i h ⟨o,ho,_,hd⟩=>⟨o,ho,fun v z=>by rw [hd]at z;cases z⟩
 kp:=fun i h h' hi k=>hi.at k
 D:=fun A items hh=>zL6 hh it a hne items
 Z:=fun A items i hh hle=>
  {live:=fun _ _ ⟨_,⟨o,ho,_⟩,_⟩=>⟨o,ho⟩
   frame:=fun _ _ _ ⟨e,st,st2⟩ hk=>⟨e,st.at fun o q=>hk it (by simp) o q,st2.at fun o q=>hk a (by simp) o q⟩
   item:=fun j s Q E hj ⟨e,_⟩ _=>absurd e (Qt hj)
   done:=fun s Q E ⟨_,st,st2⟩ hE=>zJF hh st st2 (Yn hle) hE }
theorem esrcL{P:Program}{w:World}{K:PySem.W.Frag}(a it:Addr)(hne:a≠it):ESrc P w K (fun H xs=>SqL K H a xs) a it (fun i h=>h.IsListIter it a i) (fun h items=>h.IsList a items) where
 sq:=fun X pins σ H s xs hK I ha=>by
  subst hK
  obtain⟨its,rv,pl,_⟩:=I.list ha
  exact⟨⟨its,rv,pl.isList⟩,fun ys hy=>I.list_inj hy ha⟩
 ob:=fun i h ⟨o,ho,_,hd⟩=>⟨o,ho,fun v z=>by rw [hd]at z;cases z⟩
 kp:=fun i h h' hi k=>hi.at k
 D:=fun A items hh=>Draws.list hh it a hne items
 Z:=fun A items i hh hle=>
  {live:=fun _ _ ⟨_,⟨o,ho,_⟩,_⟩=>⟨o,ho⟩
   frame:=fun _ _ _ ⟨e,st,st2⟩ hk=>⟨e,st.at fun o q=>hk it (by simp) o q,st2.at fun o q=>hk a (by simp) o q⟩
   item:=fun j s Q E hj ⟨e,_⟩ _=>absurd e (Qt hj)
   done:=fun s Q E ⟨_,st,st2⟩ hE=>wpAny_nextOf_list_end hh st st2 (Yn hle) hE }
def zEc(K:PySem.W.Frag)(ta:TA):TI:=fun σ H R=>ta σ H fun vs H1=>∃ a,vs=[.ref a]/\(((∃ xs,SqL K H1 a xs)/\R (Ite fun H xs=>SqL K H a xs) H1) ∨ ((∃ xs,SqT K H1 a xs)/\R (Ite fun H xs=>SqT K H a xs) H1))
theorem zOl{X:Cx}{elts:List Expr}{x1}{tpos:Pos}{a:Expr}{ta:TA}{p pos:Pos}(hg:Gl X "enumerate")(hm:X.mg "enumerate"=none)(ha:PA X [a] ta)(hs:starEach [a] X.env=[(false,eval a X.env)]:=by rfl):
  PI X (.Tuple elts x1 tpos) (.Call (.Name "enumerate" p) [a] [] pos) (zEc X.K ta):=by
 intro pins s σ H R I h
 refine Call_ (zBT I hg hm boot_enumerate (Q3 (thn (ha pos pins s σ H _ I h) fun us s1 ⟨vs,H1,I1,r1,q1⟩=>?_) (by rw [hs];rfl) (by rfl)))
 obtain⟨a',e,q⟩:=q1
 subst e
 obtain⟨u,rfl,ru⟩:=zCf r1
 cases ru
 have fin:∀ c∈[s1.heap.objs.size+1,s1.heap.objs.size],FpOk X pins H1 c:=fun c hc=>by
  have lc:s1.heap.objs.size<=c:=by
   rcases Qh.mp hc with rfl | hc
   ·exact Yf _ _
   ·rw [QC.mp hc];exact Qi _
  exact I1.fpOk lc (I1.hok.fresh lc)
 rcases q with⟨⟨xs,hx⟩,q⟩ | ⟨⟨xs,hx⟩,q⟩
 ·obtain⟨its,rv,pl,_⟩:=I1.list hx
  refine call_enumerate_list pl.isList fun h' a1 a2 a3 hk=>?_
  have la:a'<s1.heap.objs.size:=by obtain⟨_,e,_⟩:=pl.isList;exact Qo e
  have I2:L2.Inv X pins σ H1 { s1 with heap:=h' }:=I1.kept (t':=s1.toks) hk
  refine wpAny_pyIter_enum (s:={ s1 with heap:=h' }) a1 ?_
  exact⟨_,[s1.heap.objs.size+1,s1.heap.objs.size],_,_,H1,rfl,I2,zKM a' (s1.heap.objs.size+1) s1.heap.objs.size (Nat.succ_ne_self _) (YH (YW la)) (esrcL a' s1.heap.objs.size (Qt la)),⟨⟨_,a1⟩,a2⟩,fin,q⟩
 ·obtain⟨its,rv,pl,_⟩:=I1.tuple hx
  refine zLo pl fun h' a1 a2 a3 hk=>?_
  have la:a'<s1.heap.objs.size:=by obtain⟨_,e,_⟩:=pl;exact Qo e
  have I2:L2.Inv X pins σ H1 { s1 with heap:=h' }:=I1.kept (t':=s1.toks) hk
  refine wpAny_pyIter_enum (s:={ s1 with heap:=h' }) a1 ?_
  exact⟨_,[s1.heap.objs.size+1,s1.heap.objs.size],_,_,H1,rfl,I2,zKM a' (s1.heap.objs.size+1) s1.heap.objs.size (Nat.succ_ne_self _) (YH (YW la)) (esrcT a' s1.heap.objs.size (Qt la)),⟨⟨_,a1⟩,a2⟩,fin,q⟩
end EL
namespace SL
open PySem PySem.Spec PyProof.Rows L2 CL DL SD EL
def zBH(n:Nat):List D->List D
 | []=>[]
 | x::xs=>.tuple [.int n,x]::zBH (n+1) xs
theorem zG4:∀(xs:List D) (n i:Nat),(zBH n xs)[i]?=(xs[i]?).map fun x=>.tuple [.int ((n+i:Nat):Int),x]
 | [],n,i=>by simp [zBH]
 | x::xs,n,0=>by simp [zBH]
 | x::xs,n,i+1=>by
  show(zBH (n+1) xs)[i]?=_
  rw [zG4 xs (n+1) i,show n+1+i=n+(i+1) by lia]
  rfl
theorem zJL:∀(xs:List D) (n:Nat),(zBH n xs).length=xs.length
 | [],_=>rfl
 | x::xs,n=>by show(zBH (n+1) xs).length+1=_;rw [zJL xs];rfl
def zGo:List D->Option (List D)
 | [.list xs]=>some (zBH 0 xs)
 | [.tuple xs]=>some (zBH 0 xs)
 | _=>none
theorem zJb{K:PySem.W.Frag}{F:Addr->Prop}{H:Hp}{SQ:Hp->List V->Prop}{vs:List V}{ds:List D}(h1:∀ F2 H2,Stay K F F2 H H2->SQ H2 vs)(r1:Reps K F H ds vs):ItD K F H (zBH 0 ds) (Ite SQ):=fun F2 H2 T z i=>by
 have g1:=h1 F2 H2 T
 have s1:=r1.stay T
 refine⟨fun d hd=>?_,fun hl=>⟨vs,g1,?_⟩⟩
 ·rw [zG4]at hd
  cases e1:ds[i]? with
  | none=>rw [e1]at hd;cases hd
  | some x=>
   rw [e1]at hd
   cases hd
   obtain⟨v,e3,R1⟩:=s1.get e1
   refine⟨⟨vs,v,g1,e3⟩,fun w H3 yy=>?_⟩
   obtain⟨p,hp,rfl,x',rfl,q1⟩:=yy
   have q3:=q1 vs g1
   rw [e3]at q3;cases q3
   refine⟨F2,Ext.fresh hp,Rep.newTup hp (.cons ?_ (.cons R1 .nil))⟩
   rw [Y7]
   exact .int _
 ·rw [zJL]at hl
  rw [<- s1.length]
  exact hl
theorem zLS{X:Cx}{elts:List Expr}{x1}{tpos:Pos}{a:Expr}{gr:Rho->Option (List D)}{p pos:Pos}(hg:Gl X "enumerate")(hm:X.mg "enumerate"=none)(ha:DA X [a] gr)(hs:starEach [a] X.env=[(false,eval a X.env)]:=by rfl):
  DI X (.Tuple elts x1 tpos) (.Call (.Name "enumerate" p) [a] [] pos) (fun ρ=>(gr ρ).bind zGo):=
 zEt (zOl hg hm ha hs) fun σ H R zz=>by
  obtain⟨F,H₀,ρ,ds,S,q,k⟩:=zz
  obtain⟨xs,e1,q⟩:=bnd q
  unfold zGo at q
  split at q
  ·cases q
   refine⟨F,H₀,ρ,_,S,e1,fun F1 H1 vs E1 R1=>?_⟩
   cases R1 with
   | cons r rs=>
    cases rs
    cases r with
    | @lst a' vs' _ h1 r1=>exact⟨a',rfl,.inl ⟨⟨_,h1.sq⟩,k F1 H1 _ E1 (zJb (fun F2 H2 T=>(h1.stay T).sq) r1)⟩⟩
  ·cases q
   refine⟨F,H₀,ρ,_,S,e1,fun F1 H1 vs E1 R1=>?_⟩
   cases R1 with
   | cons r rs=>
    cases rs
    cases r with
    | @tup a' vs' _ h1 r1=>exact⟨a',rfl,.inr ⟨⟨_,h1⟩,k F1 H1 _ E1 (zJb (fun F2 H2 T=>T.tp _ _ h1) r1)⟩⟩
  ·cases q
end SL
namespace SL
open PySem PySem.Spec PyProof.Rows L2 CL DL SD
section
variable {X:Cx}
end
open AutoSeq1 (wpAny_loadPart')
theorem zMg(l:Addr)(items:Array Value)(n:Nat)(b:Addr)(items2:Array Value)(n2:Nat)(dd:Option Addr)(sl:Array (Option Value))(hc0:(!items.isEmpty && Builtin.List.listTooLong (items.size+items2.size))=false)(hc1:items.size<=sizeLine)(hs2:items.size+items2.size<=sizeLine+1):
  Meets (Builtin.«list.extend» ⟨[.ref l,.ref b],[]⟩) (fun _ R s=>s.heap.get? l=some { cls:=.type "list",dict:=none,data:=.seq items n,slots:=#[] }/\s.heap.get? b=some { cls:=.type "list",dict:=dd,data:=.seq items2 n2,slots:=sl }/\R (.ok (.ret Value.none)) { s with heap:=s.heap.update l (Obj.mapSeq fun x=>x++items2),toks:=s.toks }):=
 .of_wp fun prog w A R s h=>by
  obtain⟨hp,g,d,tk,os⟩:=s
  obtain⟨hl,hb,h⟩:=h
  have f1:=AutoSeq1.idx_int
  have f2:=AutoSeq1.sub_tuple_tuple
  have f3:=AutoSeq1.sub_list_list
  have f4:=AutoSeq1.sub_tuple_list
  have f5:=AutoSeq1.sub_list_tuple
  have hz':(items++items2).size<=sizeLine+1:=by rw [Array.size_append];exact hs2
  wp_walk using(wpAny_updateSeq hl rfl (hz:=hc1) (_hz':=hz')),wpAny_loadPart' hl,wpAny_loadPart' hb
  exact⟨_,rfl,h⟩
section
variable {X:Cx}
theorem zNl:MtM X "list.extend" (fun x vs H Q=>∃ l b xs zs,x=.ref l/\vs=[.ref b]/\H l=some (.lst xs)/\SqL X.K H b zs/\xs.length+zs.length<=1000/\Q .non (upd H l (.lst (xs++zs)))):=by
 intro pins s σ H x vs v us Q I rx rv h
 obtain⟨l,b,xs,zs,rfl,rfl,hH,hB,hz,q⟩:=h
 cases rx
 obtain⟨u,rfl,ru⟩:=rv.one
 cases ru
 obtain⟨z,its,n,r,hl,e⟩:=I.lstM hH
 obtain⟨its2,r2,⟨⟨c2,dd,dt,sl⟩,n2,e2,hc2,hd2,hs2⟩,_⟩:=I.list hB
 simp only at hc2 hd2 hs2
 subst hc2 hd2 hs2
 have l1:=r.length
 have l2:=r2.length
 have hsz:its.toArray.size+its2.toArray.size<=sizeLine:=by rw [Qx,Qx];exact zAR (by lia)
 refine call_meets F.slot_list_extend ⟨_,e,rfl⟩ F.entry_list_extend (F.args_list_extend_2 _ _)
  (zMg l its.toArray n b its2.toArray n2 _ _ (by rw [zNH hsz,Bool.and_false]) (by lia) (by lia)) ⟨e,e2,?_⟩
 refine⟨.non,_,I.lset (its':=its++its2) hH e (by simp) (r.append r2) ?_,rfl,q⟩
 rw [Qv]
 exact zAR (by lia)
def sExt(i:Nat)(g:Rho->Option D):Rho->Option Out:=fun ρ=>match ρ[i]? with
 | some (.own ds)=>(g ρ).bind fun d=>match d with
  | .list es=>if ds.length+es.length<=1000 then some (.nx (ρ.set i (.own (ds++es))))else none
  | _=>none
 | _=>none
variable {e:Expr}{p pos:Pos}{ga:Rho->Option D}
theorem zGj{i:Nat}{x:Str}{apos pos':Pos}(ha:DE X e ga)(hN:X.N[i]?=some x:=by rfl)(hv:Vis X.env.scope x:=by first | exact Or.inl rfl | exact Or.inr (Or.inl rfl) | exact Or.inr (Or.inr rfl))(hd:(x == ("__debug__":Str))=false:=by decide)
  (hcd:(x == ("__classdict__":Str))=false:=by decide) (hse:starEach [e] X.env=(false,eval e X.env)::starEach [] X.env:=by rfl)
  (hbase:attributeBase (.Name x p) "extend" X.env (eval (.Name x p) X.env)=eval (.Name x p) X.env:=by rfl)
  (hfew:((backTo pos' (starEach [e] X.env)).all (fun x => !x.1) && (backToKw pos' (keywordEach [] X.env)).all (fun x=>x.1.isSome)
   && decide ([e].length+([]:List Keyword).length+(if([]:List Keyword).isEmpty then 0 else 1)<30))=true:=by rfl)
  (hline:(apos.endLine == pos'.line)=true:=by rfl) (hplain:(backTo pos' (starEach [] X.env)).any (·.1)=false:=by rfl) (hsw:swapsWith (.Call (.Attribute (.Name x p) "extend" apos) [e] [] pos') none pos.line X.env=pure false:=by rfl):
  DS X (.Expr (.Call (.Attribute (.Name x p) "extend" apos) [e] [] pos') pos) (sExt i ga):=
 DL.ps_mono (zBI (zEq PySem.F.plainAttrs_list PySem.F.slot_list_extend PySem.F.type_list_extend zNl (zCd hN hv hd hcd) (zAl ha zAw hse) hbase hfew hline hse hplain) hsw) fun W σ H zz=>by
 obtain⟨F₀,H₀,F,ρ,o,E,S,q,k⟩:=zz
 unfold sExt at q
 split at q
 ·rename_i ds e0
  obtain⟨d,e1,q⟩:=bnd q
  split at q
  ·rename_i es
   by_cases hl:ds.length+es.length<=1000
   ·rw [if_pos hl]at q
    cases q
    obtain⟨l,vs,q1,q2,q3,q4,q5⟩:=S.own e0
    refine⟨_,q1,.inl ⟨rfl,_,SqL.of q2⟩,F,H₀,ρ,_,S,e1,fun F' H' v E' R'=>?_⟩
    have S':=S.ext E'
    obtain⟨l',vs',g1,g2,g3,g4,g5⟩:=S'.own e0
    rw [q1]at g1;cases g1
    cases R' with
    | @lst b us _ h1 r1=>
     refine⟨l,b,vs',us,rfl,rfl,g2,h1.sq,by rw [<- g5.length,<- r1.length];exact hl,?_⟩
     obtain⟨S2,T⟩:=S'.turn e0 q1 g2 g3 (g5.append r1)
     exact k F' _ σ ((E.trans E').turn q4) (E'.stay.trans T) S2
   ·rw [if_neg hl]at q;cases q
  ·cases q
 ·cases q
end
def zHd:Expr->Bool
 | .Starred ..=>false
 | _=>true
theorem zPp(e:Expr)(es:List Expr)(env:Env)(h:zHd e=true):starEach (e::es) env=(false,eval e env)::starEach es env:=by
 cases e <;> first | rfl | cases h
theorem zLM{X:Cx}{e:Expr}{es:List Expr}{ga:Rho->Option D}{gr:Rho->Option (List D)}(ha:DE X e ga)(hr:DA X es gr)(h:zHd e=true:=by rfl):DA X (e::es) (zAc ga gr):=zLL ha hr (zPp e es X.env h)
end SL
namespace ST
open PySem PySem.SetTable PyProof.Rows
structure TOkD(t:SetTable)(hs:List Int):Prop where
 good:Good t.mask
 len:t.place.toList.length=hs.length
 up:Up t.place.toList
 dup:Up t.dummies.toList
 apart:∀ x∈t.dummies.toList,x∉t.place.toList
 room:(t.place.toList.length+t.dummies.toList.length) * 5<t.mask * 3
 reach:∀ q∈t.place.toList.zip hs,∃ n,(P t.mask q.2 n).j=q.1/\∀ m,m<n->(P t.mask q.2 m).j∈t.place.toList++t.dummies.toList
theorem TOk.toD{t:SetTable}{hs:List Int}(T:TOk t hs):TOkD t hs:=by
 refine⟨T.good,T.len,T.up,?_,?_,?_,fun q hq=>?_⟩
 ·rw [T.dum];exact List.Pairwise.nil
 ·rw [T.dum];intro x hx;simp at hx
 ·rw [T.dum];exact T.room
 ·obtain⟨n,e,a⟩:=T.reach q hq
  exact⟨n,e,fun m hm=>Q9 _ (a m hm)⟩
theorem zGM{xs:Array Nat}(s:Up xs.toList)(j:Nat):has xs j=true ↔ j∈xs.toList:=by
 obtain⟨h1,h2,h3⟩:=zDb xs s j
 unfold has
 constructor
 ·intro h
  have:=Yj h
  rw [<- QA]at this
  exact QH this
 ·intro hj
  obtain⟨i,hi⟩:=QR hj
  have hl:=(Qc.mp hi).1
  have e:i=below xs j:=by
   by_cases a:i<below xs j
   ·have:=h2 i j hi a;lia
   ·by_cases b:i=below xs j
    ·exact b
    ·have hb:below xs j<xs.toList.length:=by lia
     have hv:=Qg hb
     have:=s.at hv hi (by lia)
     have:=h3 _ _ hv (Qi _)
     lia
  rw [<- e,<- QA,hi]
  simp
theorem zFR{t:SetTable}{hs:List Int}(T:TOkD t hs)(j:Nat):(∃ i,t.slot j=.live i/\t.place.toList[i]?=some j) ∨ (t.slot j=.dummy/\j∉t.place.toList/\j∈t.dummies.toList) ∨ (t.slot j=.empty/\j∉t.place.toList++t.dummies.toList):=by
 unfold slot
 dsimp only
 by_cases c:(t.place[below t.place j]? == some j)=true
 ·rw [if_pos c]
  exact .inl ⟨_,rfl,by rw [QA];exact Yj c⟩
 ·rw [if_neg c]
  have hn:j∉t.place.toList:=fun hj=>c ((zGM T.up j).mpr hj)
  by_cases d:has t.dummies j=true
  ·rw [if_pos d]
   exact .inr (.inl ⟨rfl,hn,(zGM T.dup j).mp d⟩)
  ·rw [if_neg d]
   exact .inr (.inr ⟨rfl,fun h=>(QD.mp h).elim hn fun h=>d ((zGM T.dup j).mpr h)⟩)
theorem zKy{t:SetTable}{hs:List Int}(T:TOkD t hs){j i:Nat}(h:t.slot j=.live i):t.place.toList[i]?=some j:=by
 rcases zFR T j with⟨i',h1,h2⟩ | ⟨h1,_⟩ | ⟨h1,_⟩
 ·rw [h]at h1;cases h1;exact h2
 ·rw [h]at h1;cases h1
 ·rw [h]at h1;cases h1
theorem TOkD.fits{t:SetTable}{hs:List Int}(T:TOkD t hs){n:Nat}(e:hs.length=n):t.fits n=true:=by
 have h1:=T.len
 have h2:=T.room
 rw [Qp]at h1 h2
 rw [Qp]at h2
 unfold SetTable.fits SetTable.fill
 rw [h1,e]
 rw [h1]at h2
 simp only [QQ,beq_iff_eq,decide_eq_true_eq]
 refine⟨?_,?_⟩
 ·trivial
 ·show n+t.dummies.size<=t.mask
  lia
theorem TOkD.odd{t:SetTable}{hs:List Int}(T:TOkD t hs):t.gaveWay=false:=by
 unfold SetTable.gaveWay
 rcases T.good with h | h | h | h | h | h <;> rw [h] <;> rfl
def Pd(M:Nat)(h:Int)(n:Nat)(d:Option Nat):Probe:={ P M h n with dummy:=d }
theorem adv_d(M:Nat)(p:Probe)(d:Option Nat):adv M { p with dummy:=d }={ adv M p with dummy:=d }:=by
 unfold adv
 dsimp only
 split <;> rfl
theorem zHY(M:Nat)(h:Int)(n:Nat)(d:Option Nat):adv M (Pd M h n d)=Pd M h (n+1) d:=adv_d M (P M h n) d
section
variable {t:SetTable}{hs:List Int}{hashAt:Nat->Int}{h:Int}{n:Nat}
theorem zMt(fuel c:Nat)(d:Option Nat):probe.go t hashAt h (fuel+1) (Pd t.mask h c d)=match t.slot (P t.mask h c).j with
  | .empty=>some (.empty (P t.mask h c).j d)
  | .dummy=>probe.go t hashAt h fuel (Pd t.mask h (c+1) (some (P t.mask h c).j))
  | .live i=>if(hashAt i == h)=true then some (.candidate (P t.mask h c).j i (Pd t.mask h (c+1) d))else probe.go t hashAt h fuel (Pd t.mask h (c+1) d):=by
 conv=>lhs;unfold probe.go
 rw [<- zHY t.mask h c d,<- zHY t.mask h c (some (P t.mask h c).j)]
 rfl
theorem zGI(T:TOkD t hs)(h1:(P t.mask h n).j∉t.place.toList++t.dummies.toList)(h2:∀ m,m<n->(P t.mask h m).j∈t.place.toList++t.dummies.toList):∀ fuel c d,c<=n->n-c<fuel->
  (∃ d',probe.go t hashAt h fuel (Pd t.mask h c d)=some (.empty (P t.mask h n).j d')/\∀ m,c<=m->m<n->∀ i,t.slot (P t.mask h m).j=.live i->hashAt i≠h)
  ∨ ∃ m i d',c<=m/\m<n/\t.slot (P t.mask h m).j=.live i/\hashAt i=h/\(∀ m',c<=m'->m'<m->∀ i,t.slot (P t.mask h m').j=.live i->hashAt i≠h)/\probe.go t hashAt h fuel (Pd t.mask h c d)=some (.candidate (P t.mask h m).j i (Pd t.mask h (m+1) d'))
 | 0,c,d,_,hf=>absurd hf (Yu _)
 | fuel+1,c,d,hc,hf=>by
  rw [zMt]
  by_cases e:c=n
  ·subst e
   rcases zFR T (P t.mask h c).j with⟨i,q1,q2⟩ | ⟨q1,q2,q3⟩ | ⟨q1,_⟩
   ·exact absurd (Q9 _ (QH q2)) h1
   ·exact absurd (Qz _ q3) h1
   ·rw [q1]
    exact .inl ⟨d,rfl,fun m a b=>by lia⟩
  ·rcases zFR T (P t.mask h c).j with⟨i,q1,q2⟩ | ⟨q1,q2,q3⟩ | ⟨_,q2⟩
   ·rw [q1]
    dsimp only
    by_cases k:(hashAt i == h)=true
    ·rw [if_pos k]
     exact .inr ⟨c,i,d,Qi _,by lia,q1,Yj k,fun m' a b=>by lia,rfl⟩
    ·rw [if_neg k]
     have hk:hashAt i≠h:=fun e=>k (by rw [e];simp)
     rcases zGI T h1 h2 fuel (c+1) d (by lia) (by lia)with⟨d',a,b⟩ | ⟨m,i',d',a1,a2,a3,a4,a5,a6⟩
     ·refine .inl ⟨d',a,fun m hm1 hm2 i2 hi2=>?_⟩
      by_cases e2:m=c
      ·subst e2;rw [q1]at hi2;cases hi2;exact hk
      ·exact b m (by lia) hm2 i2 hi2
     ·refine .inr ⟨m,i',d',by lia,a2,a3,a4,fun m' hm1 hm2 i2 hi2=>?_,a6⟩
      by_cases e2:m'=c
      ·subst e2;rw [q1]at hi2;cases hi2;exact hk
      ·exact a5 m' (by lia) hm2 i2 hi2
   ·rw [q1]
    dsimp only
    rcases zGI T h1 h2 fuel (c+1) (some (P t.mask h c).j) (by lia) (by lia)with⟨d',a,b⟩ | ⟨m,i',d',a1,a2,a3,a4,a5,a6⟩
    ·refine .inl ⟨d',a,fun m hm1 hm2 i2 hi2=>?_⟩
     by_cases e2:m=c
     ·subst e2;rw [q1]at hi2;cases hi2
     ·exact b m (by lia) hm2 i2 hi2
    ·refine .inr ⟨m,i',d',by lia,a2,a3,a4,fun m' hm1 hm2 i2 hi2=>?_,a6⟩
     by_cases e2:m'=c
     ·subst e2;rw [q1]at hi2;cases hi2
     ·exact a5 m' (by lia) hm2 i2 hi2
   ·exact absurd (h2 c (by lia)) q2
theorem metD(T:TOkD t hs)(h1:(P t.mask h n).j∉t.place.toList++t.dummies.toList){i j:Nat}(hj:t.place.toList[i]?=some j)(hh:hs[i]?=some h):∃ m,m<n/\(P t.mask h m).j=j:=by
 have hq:(j,h)∈t.place.toList.zip hs:=QH (i:=i) (by rw [Yp];exact⟨hj,hh⟩)
 obtain⟨m,e,a⟩:=T.reach _ hq
 refine⟨m,Yo fun c=>h1 ?_,e⟩
 by_cases d:n=m
 ·subst d;rw [e];exact Q9 _ (QH hj)
 ·exact a n (by lia)
end
section
variable {prog:Program}{w:World}{A:Around}{E:Value->Shared->Prop}{s:Shared}
theorem zIy{a x:Addr}{o:Obj}{es:Array (Int × Value)}{ep:Nat}{t:SetTable}{ks:List (List Int)}{k:List Int}{n:Nat}{Q:SetFound->Shared->Prop}
  (hu:A.units<cLine) (ho:s.heap.get? a=some o) (hd:o.data=.set es ep t) (T:TOkD t (es.toList.map (·.1))) (X:Ents prog w s.heap es.toList ks) (hk:TK prog w s.heap k x)
  (h1:(P t.mask (TH prog w k) n).j∉t.place.toList++t.dummies.toList) (h2:∀ m,m<n->(P t.mask (TH prog w k) m).j∈t.place.toList++t.dummies.toList)
  (q1:∀ i,ks[i]?=some k->Q (.there (some i)) s) (q2:k∉ks->∀ j b,Q (.free j b) s):
  ∀ fuel c d,c<=n->n<10 * turns t.mask->n-c<fuel->(∀ m,m<c->∀ i,t.slot (P t.mask (TH prog w k) m).j=.live i->ks[i]?≠some k)->∀ stand:Option Probe,stand.getD (t.probeStart (TH prog w k))=Pd t.mask (TH prog w k) c d->
  wpAny (model prog w) A (setSearchFrom a (.ref x) (TH prog w k) false fuel stand) Q E s
 | 0,c,d,_,_,hf,_,_,_=>absurd hf (Yu _)
 | fuel+1,c,d,hc,hN,hf,inv,stand,hst=>by
  have hfit:t.fits es.size=true:=T.fits (by simp)
  unfold setSearchFrom
  refine Qa (QL ho hd hfit ?_)
  dsimp only
  rw [hst,if_neg (by rw [T.odd];exact Qr)]
  refine Qa (Qb ?_)
  generalize hg:t.probe _ (TH prog w k) (Pd t.mask (TH prog w k) c d)=met
  obtain⟨f,hfe,hg⟩:∃ f:Nat->Int,(∀ i,f i=(es[i]?.map (·.1)).getD 0)/\t.probe f (TH prog w k) (Pd t.mask (TH prog w k) c d)=met:=⟨_,fun _=>rfl,hg⟩
  have key:∀ m i,t.slot (P t.mask (TH prog w k) m).j=.live i->f i≠TH prog w k->ks[i]?≠some k:=fun m i hi hne hki=>by
   have hp:=zKy T hi
   have hl:i<es.toList.length:=by
    have:=(Qc.mp hp).1
    rw [T.len]at this
    simpa using this
   obtain⟨k',b,e1,e2,e3⟩:=X.at (Qg hl)
   rw [hki]at e1
   cases e1
   apply hne
   rw [hfe,<- QA,Qg hl,e2]
   rfl
  have hgo:=zGI (hashAt:=f) T h1 h2 (10 * turns t.mask) c d hc (by lia)
  rcases hgo with⟨d',g1,g2⟩ | ⟨m,i,d',g1,g2,g3,g4,g5,g6⟩
  ·have:met=some (.empty (P t.mask (TH prog w k) n).j d'):=hg.symm.trans g1
   subst this
   have nin:k∉ks:=fun hmem=>by
    obtain⟨i,hi⟩:=QR hmem
    have hl:i<es.toList.length:=by rw [X.length];exact(Qc.mp hi).1
    obtain⟨k',b,e1,e2,e3⟩:=X.at (Qg hl)
    rw [hi]at e1
    cases e1
    have hpl:i<t.place.toList.length:=by rw [T.len];simpa using hl
    obtain⟨m,hm,hj⟩:=metD T h1 (Qg hpl) (h:=TH prog w k) (by rw [QB,Qg hl,e2];rfl)
    rcases zFR T (P t.mask (TH prog w k) m).j with⟨i',hs1,hs2⟩ | ⟨_,hs2,_⟩ | ⟨_,hs2⟩
    ·have hii:i'=i:=by
      rw [hj]at hs2
      have a1:=Qg hpl
      by_cases l1:i'<i
      ·have:=T.up.at hs2 a1 l1;lia
      ·by_cases l2:i<i'
       ·have:=T.up.at a1 hs2 l2;lia
       ·lia
     subst hii
     by_cases cm:m<c
     ·exact inv m cm i' hs1 hi
     ·exact key m i' hs1 (g2 m (by lia) hm i' hs1) hi
    ·rw [hj]at hs2
     exact hs2 (YL _)
    ·rw [hj]at hs2
     exact hs2 (Q9 _ (YL _))
   dsimp only
   cases d' with
   | none=>exact Qb (q2 nin _ _)
   | some dd=>
    dsimp only
    rw [if_neg (by simp)]
    exact Qb (q2 nin _ _)
  ·have:met=some (.candidate (P t.mask (TH prog w k) m).j i (Pd t.mask (TH prog w k) (m+1) d')):=hg.symm.trans g6
   subst this
   have hp:=zKy T g3
   have hl:i<es.toList.length:=by
    have:=(Qc.mp hp).1
    rw [T.len]at this
    simpa using this
   obtain⟨k',b,e1,e2,e3⟩:=X.at (Qg hl)
   have hei:es[i]?=some (TH prog w k',.ref b):=by rw [<- QA,Qg hl,e2]
   dsimp only
   have hseen:∀ y∈(es.filter (fun x=>x.1 == TH prog w k)).toList.map (fun x=>x.2),∃ k' b,y=.ref b/\TK prog w s.heap k' b:=fun y hy=>by
    obtain⟨e,he,rfl⟩:=QK.mp hy
    have he':e∈es.toList:=by
     rw [Array.toList_filter]at he
     exact(QT.mp he).1
    obtain⟨i2,hi2⟩:=QR he'
    obtain⟨k2,b2,_,z2,z3⟩:=X.at hi2
    exact⟨k2,b2,by rw [z2],z3⟩
   split
   all_goals try (refine Qa (zJK hk hseen ?_);rw [if_neg Qr])
   all_goals
    rw [hei]
    dsimp only
    refine Qa (Q2 (wpAny_eqBool_tuple hu e3 hk ?_))
    refine Qa (QL ho hd hfit ?_)
    dsimp only
    rw [if_neg (by simp),show t.sameMemory t.moves t.mask=some true by unfold sameMemory;simp]
    dsimp only
    rw [if_pos rfl,g3]
    dsimp only
    rw [hei]
    dsimp only
    refine Qa (wpAny_isSame_ref_self ?_)
    simp only [if_true]
    refine Qa (Qb ?_)
    dsimp only
    by_cases hkk:k'=k
    ·rw [if_pos (by simp [hkk])]
     exact Qb (q1 i (hkk ▸ e1))
    ·rw [if_neg (by simp [hkk])]
     refine zIy hu ho hd T X hk h1 h2 q1 q2 fuel (m+1) d' (by lia) hN (by lia) (fun m' hm' i' hi'=>?_) _ rfl
     by_cases l1:m'<c
     ·exact inv m' l1 i' hi'
     ·by_cases l2:m'=m
      ·subst l2
       rw [g3]at hi'
       cases hi'
       rw [e1]
       exact fun e=>hkk (Qy e)
      ·exact key m' i' hi' (g5 m' (by lia) (by lia) i' hi')
theorem zIz{a x:Addr}{o:Obj}{es:Array (Int × Value)}{ep:Nat}{t:SetTable}{ks:List (List Int)}{k:List Int}{Q:Option Nat->Shared->Prop}
  (hu:A.units<cLine) (ho:s.heap.get? a=some o) (hd:o.data=.set es ep t) (T:TOkD t (es.toList.map (·.1))) (X:Ents prog w s.heap es.toList ks) (hk:TK prog w s.heap k x)
  (q1:∀ i,ks[i]?=some k->Q (some i) s) (q2:k∉ks->Q none s):wpAny (model prog w) A (setFind a (.ref x) (TH prog w k)) Q E s:=by
 have hfit:t.fits es.size=true:=T.fits (by simp)
 have hroom:=T.room
 obtain⟨n,n1,n2,n3⟩:=zII (l:=t.place.toList++t.dummies.toList) T.good (by rw [Qv];lia) (TH prog w k)
 have hM:t.mask<=255:=by rcases T.good with g | g | g | g | g | g <;> lia
 unfold setFind setFindIn
 refine Qa (QL ho hd hfit ?_)
 dsimp only
 rw [if_neg (by simp [byScan,Value.scannable])]
 refine Qa ?_
 unfold setSearch
 refine zIy hu ho hd T X hk n2 n3 ?_ ?_ 100000 0 none (QN _) n1 (by unfold turns at n1;lia) (fun m hm=>absurd hm (Yu _)) none ?_
 ·intro i hi
  exact Qb (q1 i hi)
 ·intro hn j b
  exact Qb (q2 hn)
 ·show P t.mask (TH prog w k) 0=_
  rfl
end
end ST
namespace ST
open PySem PySem.SetTable PyProof.Rows
theorem zD7{α:Type}(xs:Array α)(p:Nat):(eraseAt xs p).toList=xs.toList.take p++xs.toList.drop (p+1):=by
 unfold eraseAt
 rw [Array.toList_append,Array.toList_extract,Array.toList_extract]
 simp only [List.extract_eq_take_drop,Nat.sub_zero,List.drop_zero]
 congr 1
 exact Jb (by rw [Yd,Qp];lia)
theorem zJt{l:List Nat}(s:Up l){i j:Nat}(hi:l[i]?=some j)(x:Nat):x∈l.take i++l.drop (i+1) ↔ x∈l/\x≠j:=by
 have hl:=(Qc.mp hi).1
 have e:l=l.take i++j::l.drop (i+1):=by
  have:l[i]=j:=by rw [Qg hl]at hi;exact Qy hi
  rw [<- this,<- Yb hl,Q5]
 have nd:(l.take i++j::l.drop (i+1)).Nodup:=by rw [<- e];exact s.nodup
 constructor
 ·intro hx
  refine⟨?_,fun q=>?_⟩
  ·rw [e]
   rcases QD.mp hx with h | h
   ·exact Q9 _ h
   ·exact Qz _ (Qe _ h)
  ·subst q
   have:=(List.perm_middle.nodup_iff.mp nd)
   exact(Yc.mp this).1 hx
 ·rintro⟨hx,hne⟩
  rw [e]at hx
  rcases QD.mp hx with h | h
  ·exact Q9 _ h
  ·rcases Qh.mp h with h | h
   ·exact absurd h hne
   ·exact Qz _ h
theorem zPM{xs:Array Nat}(s:Up xs.toList){j:Nat}(hj:j∉xs.toList):Up (insertAt xs (below xs j) j).toList:=by
 obtain⟨b1,b2,b3⟩:=zDb xs s j
 rw [zB7]
 unfold Up
 rw [List.pairwise_append]
 have hlt:∀ x∈xs.toList.take (below xs j),x<j:=fun x hx=>by
  obtain⟨i,hi⟩:=QR hx
  rw [List.getElem?_take]at hi
  split at hi
  ·rename_i q;exact b2 i x hi q
  ·cases hi
 have hgt:∀ x∈xs.toList.drop (below xs j),j<x:=fun x hx=>by
  obtain⟨i,hi⟩:=QR hx
  rw [List.getElem?_drop]at hi
  have:=b3 _ x hi (by lia)
  have hne:x≠j:=fun e=>hj (e ▸ QH hi)
  lia
 refine⟨s.sublist (List.take_sublist _ _),QV.mpr ⟨hgt,s.sublist (List.drop_sublist _ _)⟩,fun a ha b hb=>?_⟩
 rcases Qh.mp hb with rfl | hb
 ·exact hlt a ha
 ·exact Nat.lt_trans (hlt a ha) (hgt b hb)
theorem zJu{xs:Array Nat}{p j x:Nat}:x∈(insertAt xs p j).toList ↔ x=j ∨ x∈xs.toList:=by
 rw [zB7,QD,Qh]
 conv=>rhs;rw [<- Q5 p xs.toList,QD]
 constructor
 ·rintro(a | a | a)
  ·exact .inr (.inl a)
  ·exact .inl a
  ·exact .inr (.inr a)
 ·rintro(a | a | a)
  ·exact .inr (.inl a)
  ·exact .inl a
  ·exact .inr (.inr a)
theorem zPW{α β:Type}{l:List α}{m:List β}{i:Nat}(hlm:l.length=m.length){q:α × β}(h:q∈(l.take i++l.drop (i+1)).zip (m.take i++m.drop (i+1))):q∈l.zip m:=by
 rw [List.zip_append (by rw [QU,QU,hlm]),QD]at h
 rcases h with h | h
 ·obtain⟨n,hn⟩:=QR h
  rw [Yp,List.getElem?_take,List.getElem?_take]at hn
  split at hn
  ·exact QH (i:=n) (by rw [Yp];exact hn)
  ·cases hn.1
 ·obtain⟨n,hn⟩:=QR h
  rw [Yp,List.getElem?_drop,List.getElem?_drop]at hn
  exact QH (i:=i+1+n) (by rw [Yp];exact hn)
theorem zL7{t:SetTable}{hs:List Int}{i:Nat}(T:TOkD t hs)(hi:i<hs.length):TOkD (t.drop i) (hs.take i++hs.drop (i+1))/\(t.drop i).plain=t.plain/\(t.drop i).led=t.led:=by
 have hl:i<t.place.toList.length:=by rw [T.len];exact hi
 obtain⟨j,hj⟩:∃ j,t.place.toList[i]?=some j:=⟨_,Qg hl⟩
 have hj':t.place[i]?=some j:=by rw [<- QA];exact hj
 have jp:j∈t.place.toList:=QH hj
 have jd:j∉t.dummies.toList:=fun h=>T.apart j h jp
 have e:t.drop i={ t with place:=eraseAt t.place i,dummies:=insertAt t.dummies (below t.dummies j) j }:=by
  unfold SetTable.drop
  rw [hj']
 rw [e]
 have hp:(eraseAt t.place i).toList=t.place.toList.take i++t.place.toList.drop (i+1):=zD7 _ _
 have lp:(eraseAt t.place i).toList.length+1=t.place.toList.length:=by
  rw [hp,Qv,QU,Yd]
  lia
 have ld:(insertAt t.dummies (below t.dummies j) j).toList.length=t.dummies.toList.length+1:=by
  rw [(YJ _ _ _).length_eq]
  simp
 have occ:∀ x,x∈(eraseAt t.place i).toList++(insertAt t.dummies (below t.dummies j) j).toList ↔ x∈t.place.toList++t.dummies.toList:=fun x=>by
  rw [QD,QD,hp,zJt T.up hj,zJu]
  constructor
  ·rintro(⟨a,_⟩ | a | a)
   ·exact .inl a
   ·exact .inl (a ▸ jp)
   ·exact .inr a
  ·rintro(a | a)
   ·by_cases c:x=j
    ·exact .inr (.inl c)
    ·exact .inl ⟨a,c⟩
   ·exact .inr (.inr a)
 refine⟨⟨T.good,?_,?_,zPM T.dup jd,fun x hx=>?_,?_,fun q hq=>?_⟩,rfl,rfl⟩
 ·show(eraseAt t.place i).toList.length=_
  rw [hp,Qv,Qv,QU,Yd,QU,Yd,T.len]
 ·show Up (eraseAt t.place i).toList
  rw [hp]
  refine T.up.sublist ?_
  have:(t.place.toList.take i++t.place.toList.drop (i+1)).Sublist (t.place.toList.take i++t.place.toList.drop i):=List.Sublist.append (List.Sublist.refl _) (by
   rw [Yb hl];exact List.sublist_cons_self _ _)
  rwa [Q5]at this
 ·show x∉(eraseAt t.place i).toList
  rw [hp,zJt T.up hj]
  rintro⟨a,b⟩
  rcases zJu.mp hx with c | c
  ·exact b c
  ·exact T.apart x c a
 ·show((eraseAt t.place i).toList.length+(insertAt t.dummies (below t.dummies j) j).toList.length) * 5<t.mask * 3
  have:=T.room
  rw [ld]
  lia
 ·have hq':q∈(eraseAt t.place i).toList.zip (hs.take i++hs.drop (i+1)):=hq
  rw [hp]at hq'
  obtain⟨n,e1,a⟩:=T.reach q (zPW T.len hq')
  exact⟨n,e1,fun m hm=>(occ _).mpr (a m hm)⟩
def SetD(prog:Program)(w:World)(V:Value->Prop)(h:Heap)(a:Addr)(ks:List (List Int)):Prop:=
 ∃ o es ep t,h.get? a=some o/\o.ExactSet/\o.data=.set es ep t/\TOkD t (es.toList.map (·.1))/\(t.plain=true/\t.led=ledW w)/\Ents prog w h es.toList ks/\ks.Nodup/\∀ e∈es.toList,V e.2
theorem SetT.toD{prog:Program}{w:World}{V:Value->Prop}{h:Heap}{a:Addr}{ks:List (List Int)}(S:SetT prog w V h a ks):SetD prog w V h a ks:=by
 obtain⟨o,es,ep,t,z1,z2,z3,z4,z5,z6,z7,z8⟩:=S
 exact⟨o,es,ep,t,z1,z2,z3,z4.toD,z5,z6,z7,z8⟩
section
variable {prog:Program}{w:World}{A:Around}{E:Value->Shared->Prop}{s:Shared}{V:Value->Prop}
theorem zIf{α:Type}{l:List α}{i:Nat}{x:α}(h:l[i]?=some x):List.Perm l (x::(l.take i++l.drop (i+1))):=by
 have hl:=(Qc.mp h).1
 have:l[i]=x:=by rw [Qg hl]at h;exact Qy h
 have e:l=l.take i++x::l.drop (i+1):=by rw [<- this,<- Yb hl,Q5]
 exact(List.Perm.of_eq e).trans List.perm_middle
theorem zL3{a x:Addr}{ks:List (List Int)}{k:List Int}{Q:Bool->Shared->Prop}(hu:A.units<cLine)(S:SetD prog w V s.heap a ks)(hk:TK prog w s.heap k x)
  (q1:k∉ks->Q false s) (q2:∀ h' ks',Heap.SameBut a s.heap h'->SetD prog w V h' a ks'->List.Perm ks (k::ks')->Q true { s with heap:=h' }) (hsz:ks.length<=1000):
  wpAny (model prog w) A (setDiscardHashed a (.ref x) (TH prog w k)) Q E s:=by
 obtain⟨o,es,ep,t,ho,hex,hd,T,hp,X,hnd,hV⟩:=S
 have hfit:t.fits es.size=true:=T.fits (by simp)
 unfold setDiscardHashed
 refine Qa (zIz hu ho hd T X hk (fun i hi=>?_) fun hn=>Qb (q1 hn))
 dsimp only
 have hik:i<ks.length:=(Qc.mp hi).1
 have hie:i<es.toList.length:=by rw [X.length];exact hik
 refine Qa (QL ho hd hfit ?_)
 dsimp only
 have hes:es.size=ks.length:=by rw [<- X.length,Qp]
 have hle:(eraseAt es i).size<=es.size:=by
  rw [<- Qp,zD7,Qv,QU,Yd,Qp]
  lia
 refine Qa (YX ho hd ?_ (by rw [Ya];lia))
 have hg:(s.heap.update a (Obj.putSet (eraseAt es i) (t.drop i))).get? a=some { o with data:=.set (eraseAt es i) (ep+1) (t.drop i) }:=by
  have:=Q6 (Obj.putSet (eraseAt es i) (t.drop i)) ho (by rw [Y1 _ _ hd];rfl)
  rw [Y1 _ _ hd]at this;exact this
 have hsb:=QZ s.heap a (Obj.putSet (eraseAt es i) (t.drop i))
 obtain⟨T2,p1,p2⟩:=zL7 (i:=i) T (by rw [Ql];exact hie)
 refine Qa (wpAny_point (Qb (q2 _ (ks.take i++ks.drop (i+1)) hsb ⟨_,_,_,_,hg,hex,rfl,?_,⟨by rw [p1];exact hp.1,by rw [p2];exact hp.2⟩,?_,?_,fun e he=>?_⟩ (zIf hi))))
 ·rw [zD7,Q0,List.map_take,List.map_drop]
  exact T2
 ·rw [zD7]
  exact((X.take i).append (X.drop (i+1))).mono fun k b=>TK.keep ho hd hsb
 ·exact(Yc.mp ((zIf hi).nodup_iff.mp hnd)).2
 ·rw [zD7]at he
  rcases QD.mp he with he | he
  ·exact hV e (List.mem_of_mem_take he)
  ·exact hV e (List.mem_of_mem_drop he)
end
end ST
namespace ST
open PySem PySem.SetTable PyProof.Rows
section
variable {prog:Program}{w:World}{A:Around}{E:Value->Shared->Prop}{s:Shared}{V:Value->Prop}
abbrev zEa(w:World):Obj:={ cls:=.type "set",dict:=none,data:=.set #[] 0 (.fresh 0 0 (ledW w)) }
theorem zJE{Q:Value->Shared->Prop}(h:Q (.ref s.heap.objs.size) { s with heap:=s.heap.push (zEa w) }):wpAny (model prog w) A (newSet (.type "set")) Q E s:=by
 unfold newSet setsByText
 refine Qa (Qa (wpAny_askSetting (Qb ?_)))
 dsimp only
 simp only [newObj]
 exact Qa (wpAny_alloc (Qb h))
structure Bare(w:World)(t:SetTable)(M:Nat):Prop where
 good:Good M
 mask:t.mask=M
 place:t.place=#[]
 dum:t.dummies=#[]
 plain:t.plain=true
 led:t.led=ledW w
theorem zOJ(t:SetTable)(wanted:Nat):t.relaid #[] wanted=some ({ mask:=sizeAbove wanted-1,place:=#[],dummies:=#[],finger:=t.finger,led:=t.led,moves:=t.movedTo (sizeAbove wanted-1),plain:=t.plain },#[]):=by
 unfold relaid laid layClean
 have e:∀ M:Nat,((List.range (M+1)).filterMap fun j=>((Array.replicate (M+1) (none:Option Nat)).getD j none).map (j,·))=[]:=fun M=>by
  rw [List.filterMap_eq_nil_iff]
  intro j _
  have:(Array.replicate (M+1) (none:Option Nat)).getD j none=none:=by
   unfold Array.getD
   split
   ·simp
   ·rfl
  rw [this]
  rfl
 show some _=_
 simp only [e]
 rfl
theorem zMw{n:Nat}(h5:n * 5 >= 21)(hn:n<=75):∃ M,sizeAbove (n * 2)-1=M/\Good M/\n * 5<M * 3/\¬ sizeAbove (n * 2) > sizeLine:=by
 have h:∀ n:Fin 76,n.val * 5 >= 21->(sizeAbove (n.val * 2)-1=15 ∨ sizeAbove (n.val * 2)-1=31 ∨ sizeAbove (n.val * 2)-1=63 ∨ sizeAbove (n.val * 2)-1=127 ∨ sizeAbove (n.val * 2)-1=255)/\n.val * 5<(sizeAbove (n.val * 2)-1) * 3/\sizeAbove (n.val * 2)<=256:=by decide +kernel
 obtain⟨h1,h2,h3⟩:=h ⟨n,by lia⟩ h5
 refine⟨_,rfl,?_,h2,by rw [Ya];exact Nat.not_lt.mpr (QI h3 (by decide))⟩
 unfold Good
 rcases h1 with e | e | e | e | e <;> simp only at e <;> lia
theorem zPB{n:Nat}(hn:n<=63):∃ M,sizeAbove (grown n)-1=M/\Good M/\n * 5<M * 3/\¬ sizeAbove (grown n) > sizeLine:=by
 have h:∀ n:Fin 64,(sizeAbove (grown n.val)-1=7 ∨ sizeAbove (grown n.val)-1=15 ∨ sizeAbove (grown n.val)-1=31 ∨ sizeAbove (grown n.val)-1=63 ∨ sizeAbove (grown n.val)-1=127 ∨ sizeAbove (grown n.val)-1=255)/\n.val * 5<(sizeAbove (grown n.val)-1) * 3/\sizeAbove (grown n.val)<=256:=by decide +kernel
 obtain⟨h1,h2,h3⟩:=h ⟨n,by lia⟩
 refine⟨_,rfl,?_,h2,by rw [Ya];exact Nat.not_lt.mpr (QI h3 (by decide))⟩
 unfold Good
 rcases h1 with e | e | e | e | e | e <;> simp only at e <;> lia
theorem zOP{r n:Nat}{o:Obj}{t:SetTable}{ep:Nat}{Q:Unit->Shared->Prop}(ho:s.heap.get? r=some o)(hex:o.ExactSet)(hd:o.data=.set #[] ep t)(B:Bare w t 7)(hn:n<=75)
  (h:∀ h' o' ep' t' M,Heap.SameBut r s.heap h'->h'.get? r=some o'->o'.ExactSet->o'.data=.set #[] ep' t'->Bare w t' M->n * 5<M * 3->Q () { s with heap:=h' }):wpAny (model prog w) A (setRoomFor r n) Q E s:=by
 have hfit:t.fits (#[]:Array (Int × Value)).size=true:=by unfold SetTable.fits SetTable.fill;rw [B.place,B.dum];simp
 unfold setRoomFor
 refine Qa (QL ho hd hfit ?_)
 unfold SetTable.roomFor SetTable.fill
 rw [B.place,B.dum,B.mask]
 by_cases c:(0+n) * 5 >= 7 * 3
 ·rw [if_pos (by simpa using c)]
  obtain⟨M,m1,m2,m3,m4⟩:=zMw (n:=n) (by lia) hn
  unfold setRelay
  refine Qa (QL ho hd hfit ?_)
  dsimp only
  have ew:((#[]:Array Nat).size+n) * 2=n * 2:=by simp
  rw [ew,if_neg m4]
  have er:=zOJ t (n * 2)
  rw [m1]at er
  have em:((#[]:Array (Int × Value)).map (·.1))=#[]:=by simp
  rw [em,er]
  refine Qa (wpAny_of_eq (a:=((#[]:Array (Int × Value)),({ mask:=M,place:=#[],dummies:=#[],finger:=t.finger,led:=t.led,moves:=t.movedTo M,plain:=t.plain }:SetTable))) (by rfl) ?_)
  dsimp only
  refine YX ho hd ?_ (by simp)
  have hg:=Q6 (Obj.putSet #[] { mask:=M,place:=#[],dummies:=#[],finger:=t.finger,led:=t.led,moves:=t.movedTo M,plain:=t.plain }) ho (by rw [Y1 _ _ hd];rfl)
  rw [Y1 _ _ hd]at hg
  exact h _ _ _ _ M (QZ ..) hg hex rfl ⟨m2,rfl,rfl,rfl,B.plain,B.led⟩ m3
 ·rw [if_neg (by simpa using c)]
  exact Qb (h s.heap o ep t 7 (Heap.SameBut.refl ..) ho hex hd B (by lia))
end
end ST
namespace ST
open PySem PySem.SetTable PyProof.Rows
section
variable {prog:Program}{w:World}{A:Around}{E:Value->Shared->Prop}{s:Shared}{V:Value->Prop}
theorem zNe{r a:Addr}{o:Obj}{t:SetTable}{ep:Nat}{ks:List (List Int)}{Q:Unit->Shared->Prop}(hra:r≠a)(ho:s.heap.get? r=some o)(hex:o.ExactSet)(hd:o.data=.set #[] ep t)(B:Bare w t 7)
  (S:SetT prog w V s.heap a ks) (hn:ks.length<=75) (h:∀ h' ks',Heap.SameBut r s.heap h'->SetT prog w V h' r ks'->List.Perm ks' ks->Q () { s with heap:=h' }):wpAny (model prog w) A (setMerge r a (pure ())) Q E s:=by
 obtain⟨oa,es,epa,ta,ha,hxa,hda,T,hp,X,hnd,hV⟩:=S
 have hes:es.size=ks.length:=by rw [<- X.length,Qp]
 unfold setMerge
 rw [if_neg (by simpa using hra)]
 refine Qa (QL ha hda (T.fits (by simp)) ?_)
 dsimp only
 by_cases em:es.isEmpty=true
 ·rw [if_pos em]
  have e0:es=#[]:=by simpa using em
  have k0:ks=[]:=by
   rw [e0]at hes
   exact Y5 hes.symm
  subst k0
  refine Qb (h s.heap [] (Heap.SameBut.refl ..) ⟨o,#[],ep,t,ho,hex,hd,?_,⟨B.plain,B.led⟩,.nil,Y3,fun e he=>by simp at he⟩ (.refl _))
  exact⟨by rw [B.mask];exact B.good,B.dum,by rw [B.place];rfl,by rw [B.place];exact List.Pairwise.nil,fun x hx=>by rw [B.place]at hx;simp at hx,by rw [B.place,B.mask];decide,fun q hq=>by rw [B.place]at hq;simp at hq⟩
 ·rw [if_neg em]
  refine Qa (zOP ho hex hd B (by rw [hes];exact hn) fun h1 o1 ep1 t1 M sb1 ho1 hex1 hd1 B1 hM=>?_)
  have ha1:h1.get? a=some oa:=(sb1.2 a (Ne.symm hra)).trans ha
  have X1:Ents prog w h1 es.toList ks:=X.mono fun k b=>TK.keep ho hd sb1
  refine Qa (QL (s:={ s with heap:=h1 }) ho1 hd1 (by unfold SetTable.fits SetTable.fill;rw [B1.place,B1.dum];simp) ?_)
  dsimp only
  have hf:(t1.fill != 0)=false:=by unfold SetTable.fill;rw [B1.place,B1.dum];rfl
  have szl:es.size<=sizeLine:=by rw [Ya];lia
  unfold SetTable.road
  rw [hf,if_neg Qr]
  by_cases c:(t1.mask == ta.mask && ta.dummies.isEmpty)=true
  ·rw [if_pos c]
   dsimp only
   refine YX (s:={ s with heap:=h1 }) ho1 hd1 ?_ szl
   have hg:=Q6 (Obj.putSet es { ta with finger:=t1.finger,led:=t1.led && ta.led,moves:=t1.moves,plain:=t1.plain && ta.plain }) ho1 (by rw [Y1 _ _ hd1];rfl)
   rw [Y1 _ _ hd1]at hg
   have sb2:=QZ h1 r (Obj.putSet es { ta with finger:=t1.finger,led:=t1.led && ta.led,moves:=t1.moves,plain:=t1.plain && ta.plain })
   refine h _ ks (sb1.trans sb2) ⟨_,_,_,_,hg,hex1,rfl,⟨T.good,T.dum,T.len,T.up,T.le,T.room,T.reach⟩,⟨?_,?_⟩,X1.mono fun k b=>TK.keep ho1 hd1 sb2,hnd,hV⟩ (.refl _)
   ·show(t1.plain && ta.plain)=true
    rw [B1.plain,hp.1];rfl
   ·show(t1.led && ta.led)=ledW w
    rw [B1.led,hp.2,Bool.and_self]
  ·rw [if_neg c]
   dsimp only
   obtain⟨t',order,r1,r2,r3,r4,r5⟩:=zJh (hs:=es.map (·.1)) (M:=M) t1.finger t1.moves (t1.led && ta.led) (t1.plain && ta.plain) B1.good (by rw [YO];exact hM)
   have hlt:∀ i∈order.toList,i<es.toList.length:=fun i hi=>by
    have:=QO.mp (r2.mem_iff.mp hi)
    simpa using this
   have hesl:(order.filterMap (es[·]?)).toList=order.toList.filterMap (es.toList[·]?):=by
    rw [Ja]
    congr 1
    funext i
    rw [QA]
   have hperm:List.Perm (order.filterMap (es[·]?)).toList es.toList:=by
    rw [Ja]
    refine(r2.filterMap _).trans ?_
    rw [YO,filterMap_getElem?_range]
   have hsize:(order.filterMap (es[·]?)).size=es.size:=by rw [<- Qp,hperm.length_eq,Qp]
   rw [B1.mask,r1]
   refine Qa ?_
   show wpAny _ _ (if((order.filterMap (es[·]?)).size != es.size)=true then _ else pure (order.filterMap (es[·]?),t')) _ _ _
   rw [if_neg (by simp [hsize])]
   refine Qb ?_
   dsimp only
   refine YX (s:={ s with heap:=h1 }) ho1 hd1 ?_ (by rw [hsize];exact szl)
   have hg:=Q6 (Obj.putSet (order.filterMap (es[·]?)) t') ho1 (by rw [Y1 _ _ hd1];rfl)
   rw [Y1 _ _ hd1]at hg
   have sb2:=QZ h1 r (Obj.putSet (order.filterMap (es[·]?)) t')
   have kp:List.Perm (order.toList.filterMap (ks[·]?)) ks:=by
    refine(r2.filterMap _).trans ?_
    rw [YO,<- Qp,X.length,YG]
   refine h _ (order.toList.filterMap (ks[·]?)) (sb1.trans sb2) ⟨_,_,_,_,hg,hex1,rfl,?_,⟨by rw [r5,B1.plain,hp.1];rfl,by rw [r4,B1.led,hp.2,Bool.and_self]⟩,?_,kp.nodup_iff.mpr hnd,fun e he=>hV e (hperm.mem_iff.mp he)⟩ kp
   ·rw [hesl,zGO _ _ hlt]
    simpa using r3
   ·rw [hesl]
    exact(X1.pick _ hlt).mono fun k b=>TK.keep ho1 hd1 sb2
theorem zE6{a:Addr}{Q:Bool->Shared->Prop}(hT:s.TypeIs (.ref a) "set")(h:Q true s):wpAny (model prog w) A (Builtin.Frozenset.isAnySet (.ref a)) Q E s:=by
 unfold Builtin.Frozenset.isAnySet orM
 refine Qa (wpAny_isInstance hT sub_set_self ?_)
 exact Qb h
theorem base_of{a:Addr}{Q:Value->Shared->Prop}(hT:s.TypeIs (.ref a) "set")(h:Q (.type "set") s):wpAny (model prog w) A (Builtin.Frozenset.baseOf a) Q E s:=by
 unfold Builtin.Frozenset.baseOf
 refine Qa (wpAny_isInstance hT sub_set_self ?_)
 rw [if_pos rfl]
 exact Qb h
theorem zFP{a:Addr}{o:Obj}{es:Array (Int × Value)}{ep:Nat}{t:SetTable}{Q:Nat->Shared->Prop}(ho:s.heap.get? a=some o)(hd:o.data=.set es ep t)(hf:t.fits es.size=true)(h:Q es.size s):wpAny (model prog w) A (Builtin.Frozenset.sizeOf a) Q E s:=by
 unfold Builtin.Frozenset.sizeOf
 exact Qa (Jh ho hd hf (Qb h))
theorem zLA{a:Addr}{ks:List (List Int)}{Q:Value->Shared->Prop}(S:SetT prog w V s.heap a ks)(hn:ks.length<=75)
  (h:∀ h' ks',(∀ b o,s.heap.get? b=some o->h'.get? b=some o)->SetT prog w V h' s.heap.objs.size ks'->List.Perm ks' ks->Q (.ref s.heap.objs.size) { s with heap:=h' }):wpAny (model prog w) A (Builtin.Frozenset.copyOf a) Q E s:=by
 obtain⟨oa,es,epa,ta,ha,hxa,hda,T,hp,X,hnd,hV⟩:=id S
 have hT:s.TypeIs (.ref a) "set":=⟨oa,ha,hxa.1⟩
 have la:=Qo ha
 unfold Builtin.Frozenset.copyOf
 refine Qa (base_of hT (Qa (zJE ?_)))
 refine Qa (Qb ?_)
 have S':SetT prog w V (s.heap.push (zEa w)) a ks:=S.moved fun b o e _=>Qd _ e
 refine Qa (zNe (s:={ s with heap:=s.heap.push (zEa w) }) (r:=s.heap.objs.size) (YH la) (Qu _ rfl) ⟨rfl,rfl,rfl⟩ rfl ⟨.inl rfl,rfl,rfl,rfl,rfl,rfl⟩ S' hn fun h' ks' sb S'' pk=>?_)
 exact Qb (h h' ks' (fun b o e=>(sb.2 b (Qt (Qo e))).trans (Qd _ e)) S'' pk)
end
end ST
namespace ST
open PySem PySem.SetTable PyProof.Rows
section
variable {prog:Program}{w:World}{A:Around}{E:Value->Shared->Prop}{s:Shared}{V:Value->Prop}
theorem zKV{a:Addr}{o:Obj}{es:Array (Int × Value)}{ep:Nat}{t:SetTable}{others:List Addr}{filled:Option Addr}{Q:Array (Int × Value)->Shared->Prop}(S:zBn w s.heap a o es ep t)(h:Q (ordW w a ep es) s):
  wpAny (model prog w) A (setWalkUnseen a others filled) Q E s:=by
 unfold setWalkUnseen
 refine Qa (QL S.get S.data S.fits ?_)
 dsimp only
 refine Qa (zEP ?_)
 have c:(w.params.followText "set-order" || (t.led && t.plain) || decide (es.size<=1))=true:=by
  rw [S.led,S.plain,ledW]
  cases w.params.followText "set-order" <;> rfl
 rw [c,if_pos rfl]
 exact zKU S h
theorem zFW{id:String}{a:Addr}{o:Obj}{es:Array (Int × Value)}{ep:Nat}{t:SetTable}{Q:Unit->Shared->Prop}(ho:s.heap.get? a=some o)(hd:o.data=.set es ep t)(hf:t.fits es.size=true)(h:Q () s):wpAny (model prog w) A (Builtin.Frozenset.unchanged id a ep) Q E s:=by
 unfold Builtin.Frozenset.unchanged setEpoch
 refine Qa (Qa (QL ho hd hf (Qb ?_)))
 rw [if_neg (by simp)]
 exact Qb h
theorem SetT.setAt{h:Heap}{a:Addr}{ks:List (List Int)}(S:SetT prog w V h a ks):∃ o es ep t,zBn w h a o es ep t/\TOk t (es.toList.map (·.1))/\Ents prog w h es.toList ks/\∀ e∈es.toList,V e.2:=by
 obtain⟨o,es,ep,t,z1,z2,z3,z4,z5,z6,z7,z8⟩:=S
 exact⟨o,es,ep,t,⟨z1,z2,z3,z4.fits (by simp),z4.up,z5.1,z5.2⟩,z4,z6,z8⟩
structure DI1(prog:Program)(w:World)(V:Value->Prop)(s:Shared)(ka kb:List (List Int))(rest:List (Int × Value))(s':Shared)(h':Heap)(kc kd krest:List (List Int)):Prop where
 eq:s'={ s with heap:=h' }
 kp:∀ b o,s.heap.get? b=some o->h'.get? b=some o
 SC:SetD prog w V h' s.heap.objs.size kc
 Xr:Ents prog w s.heap rest krest
 pk:List.Perm (kd++krest) kb
 lc:kc.length<=63
 me:∀ k,k∈kc ↔ k∈ka/\k∉kd
structure DI2(prog:Program)(w:World)(V:Value->Prop)(s:Shared)(ka kb:List (List Int))(rest:List (Int × Value))(s':Shared)(h':Heap)(kr kd krest:List (List Int)):Prop where
 eq:s'={ s with heap:=h' }
 kp:∀ b o,s.heap.get? b=some o->h'.get? b=some o
 SR:SetT prog w V h' s.heap.objs.size kr
 Xr:Ents prog w s.heap rest krest
 pk:List.Perm (kd++krest) ka
 me:∀ k,k∈kr ↔ k∈kd/\k∉kb
 vr:∀ e∈rest,V e.2
theorem zL2{id:String}{a b:Addr}{ka kb:List (List Int)}{Q:Value->Shared->Prop}(hab:a≠b)(hu:A.units<cLine)(SA:SetT prog w V s.heap a ka)(SB:SetT prog w V s.heap b kb)(hna:ka.length<=63)
  (h:∀ h' r ks,s.heap.objs.size<=r->(∀ b o,s.heap.get? b=some o->h'.get? b=some o)->SetD prog w V h' r ks->(∀ k,k∈ks ↔ k∈ka/\k∉kb)->Q (.ref r) { s with heap:=h' }):
  wpAny (model prog w) A (Builtin.Frozenset.difference id a (.ref b)) Q E s:=by
 obtain⟨oa,ea,pa,ta,Sa,Ta,Xa,Va⟩:=SA.setAt
 obtain⟨ob,eb,pb,tb,Sb,Tb,Xb,Vb⟩:=SB.setAt
 have hTa:s.TypeIs (.ref a) "set":=⟨oa,Sa.get,Sa.ex.1⟩
 have hTb:s.TypeIs (.ref b) "set":=⟨ob,Sb.get,Sb.ex.1⟩
 have nda:=SA.nodup
 unfold Builtin.Frozenset.difference
 refine Qa (zE6 hTb ?_)
 simp only [YK,Qm,if_false,Bool.false_and]
 unfold Builtin.Frozenset.addrOf
 refine Qa (Qb ?_)
 simp only [if_true]
 refine Qa (zFP Sb.get Sb.data Sb.fits ?_)
 refine Qa (zFP Sa.get Sa.data Sa.fits ?_)
 by_cases c:ea.size / 4 > eb.size
 ·rw [if_pos c]
  refine Qa (wpAny_rule ?_)
  refine Qa (zLA SA (by lia) fun h1 kr kp1 SR pr=>?_)
  have lb:=Qo Sb.get
  have Sb1:=Sb.at (kp1 _ _ Sb.get)
  have hTb1:({ s with heap:=h1 }:Shared).TypeIs (.ref b) "set":=⟨ob,Sb1.get,Sb.ex.1⟩
  refine Qa (Qb ?_)
  refine Qa (Q2 ?_)
  unfold Builtin.Frozenset.differenceUpdate
  rw [if_neg (by simpa using Qt lb)]
  refine Qa (zE6 hTb1 ?_)
  rw [if_pos rfl]
  unfold Builtin.Frozenset.addrOf
  refine Qa (Qb ?_)
  refine Qa (zFP (s:={ s with heap:=h1 }) Sb1.get Sb1.data Sb1.fits ?_)
  obtain⟨oR,eR,pR,tR,SatR,TR,XR,VR⟩:=SR.setAt
  refine Qa (zFP (s:={ s with heap:=h1 }) SatR.get SatR.data SatR.fits ?_)
  have sz1:eR.size=ea.size:=by rw [<- Qp,XR.length,pr.length_eq,<- Xa.length,Qp]
  rw [if_neg (by lia)]
  dsimp only
  refine Qa (wpAny_setEpoch_of (s:={ s with heap:=h1 }) Sb1.get Sb1.data Sb1.fits ?_)
  refine Qa (Q2 (Qa (zKV (s:={ s with heap:=h1 }) Sb1 ?_)))
  obtain⟨ko,Xo,po⟩:=Xb.perm (zDs w b pb eb).symm
  rw [<- Array.forIn_toList]
  refine Qa (Y0 _ (fun rest _ s'=>∃ h' kc kd krest,DI1 prog w V s ka kb rest s' h' kc kd krest) _ ?_ ?_ _ _ ?_)
  ·rintro x rest _ s' ⟨h',kc,kd,krest,rfl,kp,SC,Xr,pk,lc,mk⟩
   cases Xr with
   | @cons k bx _ krest hk Xr=>
    have hk':TK prog w h' k bx:=hk.at fun o e=>kp bx o e
    have pk':List.Perm ((kd++[k])++krest) kb:=by rw [Yi];exact pk
    dsimp only
    refine Qa (Q2 (zL3 (s:={ s with heap:=h' }) hu SC hk' (fun hn=>?_) (fun h2 kc2 sb S2 p2=>?_) (by lia)))
    ·have Sb2:=Sb.at (kp _ _ Sb.get)
     refine Qa (zFW (s:={ s with heap:=h' }) Sb2.get Sb2.data Sb2.fits (Qb ?_))
     refine⟨h',kc,kd++[k],krest,rfl,kp,SC,Xr,pk',lc,fun k'=>?_⟩
     rw [mk k',QD,QC]
     constructor
     ·rintro⟨x1,x2⟩
      exact⟨x1,fun z=>z.elim x2 fun z=>hn (z ▸ (mk k').mpr ⟨x1,x2⟩)⟩
     ·rintro⟨x1,x2⟩
      exact⟨x1,fun z=>x2 (.inl z)⟩
    ·have kp2:∀ b o,s.heap.get? b=some o->h2.get? b=some o:=fun b o e=>(sb.2 b (Qt (Qo e))).trans (kp b o e)
     have Sb2:=Sb.at (kp2 _ _ Sb.get)
     refine Qa (zFW (s:={ s with heap:=h2 }) Sb2.get Sb2.data Sb2.fits (Qb ?_))
     have nd:(k::kc2).Nodup:=by
      obtain⟨_,_,_,_,_,_,_,_,_,_,z7,_⟩:=SC
      exact p2.nodup_iff.mp z7
     have ll:=p2.length_eq
     rw [Qw]at ll
     refine⟨h2,kc2,kd++[k],krest,rfl,kp2,S2,Xr,pk',by lia,fun k'=>?_⟩
     rw [QD,QC]
     have m1:k'∈kc ↔ k'=k ∨ k'∈kc2:=by rw [p2.mem_iff,Qh]
     constructor
     ·intro hx
      have:=(mk k').mp (m1.mpr (.inr hx))
      exact⟨this.1,fun z=>z.elim this.2 fun z=>(Yc.mp nd).1 (z ▸ hx)⟩
     ·rintro⟨x1,x2⟩
      rcases m1.mp ((mk k').mpr ⟨x1,fun z=>x2 (.inl z)⟩)with z | z
      ·exact absurd (.inr z) x2
      ·exact z
  ·rintro _ s' ⟨h',kc,kd,krest,rfl,kp,SC,Xr,pk,lc,mk⟩
   cases Xr
   rw [Q8]at pk
   refine Qb ?_
   have fin:∀ h2 kc2,(∀ b o,s.heap.get? b=some o->h2.get? b=some o)->SetD prog w V h2 s.heap.objs.size kc2->List.Perm kc2 kc->wpAny (model prog w) A (pure (Value.ref s.heap.objs.size)) Q E { s with heap:=h2 }:=fun h2 kc2 kp2 S2 p2=>
    Qb (h h2 _ kc2 (Qi _) kp2 S2 fun k=>by rw [p2.mem_iff,mk k,pk.mem_iff])
   obtain⟨o,es,ep,t,ho,hex,hd,T,hp,X,hnd,hV⟩:=_root_.id SC
   have hfit:t.fits es.size=true:=T.fits (by simp)
   have hes:es.size=kc.length:=by rw [<- X.length,Qp]
   unfold setTidy
   refine Qa (QL (s:={ s with heap:=h' }) ho hd hfit ?_)
   dsimp only
   by_cases td:t.tooManyDummies=true
   ·rw [if_pos td]
    obtain⟨M,m1,m2,m3,m4⟩:=zPB (n:=es.size) (by lia)
    refine zKb (s:={ s with heap:=h' }) (V:=V) ho hex hd hfit hp X hnd hV m1 m2 m3 m4 (by rw [Ya];lia) fun h2 kc2 sb S2 p2=>?_
    exact fin h2 kc2 (fun b o e=>(sb.2 b (Qt (Qo e))).trans (kp b o e)) S2.toD p2
   ·rw [if_neg td]
    exact Qb (fin h' kc kp SC (.refl _))
  ·exact⟨h1,kr,[],ko,rfl,kp1,SR.toD,Xo,po,by rw [pr.length_eq];exact hna,fun k=>by rw [pr.mem_iff];simp⟩
 ·rw [if_neg c]
  refine Qa (base_of hTa (Qa (zJE ?_)))
  refine Qa (Qb ?_)
  have kp0:∀ b o,s.heap.get? b=some o->(s.heap.push (zEa w)).get? b=some o:=fun b o e=>Qd _ e
  have Sa0:=Sa.at (kp0 _ _ Sa.get)
  refine Qa (wpAny_setEpoch_of Sa0.get Sa0.data Sa0.fits ?_)
  refine Qa (Q2 (Qa (zKV (s:={ s with heap:=s.heap.push (zEa w) }) Sa0 ?_)))
  obtain⟨ko,Xo,po⟩:=Xa.perm (zDs w a pa ea).symm
  rw [<- Array.forIn_toList]
  refine Qa (Y0 _ (fun rest _ s'=>∃ h' kr kd krest,DI2 prog w V s ka kb rest s' h' kr kd krest) _ ?_ ?_ _ _ ?_)
  ·rintro x rest _ s' ⟨h',kr,kd,krest,rfl,kp,SR,Xr,pk,mk,vr⟩
   cases Xr with
   | @cons k bx _ krest hk Xr=>
    have hk':TK prog w h' k bx:=hk.at fun o e=>kp bx o e
    have Sb':=Sb.at (kp _ _ Sb.get)
    have Sa':=Sa.at (kp _ _ Sa.get)
    have nin:k∉kd:=by
     have:=pk.nodup_iff.mpr nda
     have:=List.perm_middle.nodup_iff.mp this
     exact fun hh=>(Yc.mp this).1 (Q9 _ hh)
    have pk':List.Perm ((kd++[k])++krest) ka:=by rw [Yi];exact pk
    refine Qa (Q2 (Qa (zIz (s:={ s with heap:=h' }) hu Sb'.get Sb'.data Tb.toD (Xb.mono fun k b x=>x.at fun o e=>kp b o e) hk' (fun i hi=>?_) fun hn=>?_)))
    ·refine Qa (Qb ?_)
     simp only [Option.isSome_some,YK,Qm,if_false]
     refine Qb ?_
     refine Qa (zFW (s:={ s with heap:=h' }) Sa'.get Sa'.data Sa'.fits (Qb ?_))
     refine⟨h',kr,kd++[k],krest,rfl,kp,SR,Xr,pk',fun k'=>?_,fun e he=>vr e (Qe _ he)⟩
     rw [mk k',QD,QC]
     constructor
     ·rintro⟨x1,x2⟩;exact⟨.inl x1,x2⟩
     ·rintro⟨x1 | x1,x2⟩
      ·exact⟨x1,x2⟩
      ·exact absurd (x1 ▸ QH hi) x2
    ·refine Qa (Qb ?_)
     simp only [Option.isSome_none,Bool.not_false,if_true]
     have lk:kr.length<=63:=by
      have h1:kr.length<=kd.length:=Ym SR.nodup fun k hk=>((mk k).mp hk).1
      have h2:=pk.length_eq
      rw [Qv]at h2
      lia
     refine Qa (zH0 (s:={ s with heap:=h' }) hu SR hk' (vr _ Qj) (by lia) (fun hm=>absurd ((mk k).mp hm).1 nin) fun _ h2 kr2 sb S2 p2=>?_)
     have kp2:∀ b o,s.heap.get? b=some o->h2.get? b=some o:=fun b o e=>(sb.2 b (Qt (Qo e))).trans (kp b o e)
     have Sa2:=Sa.at (kp2 _ _ Sa.get)
     refine Qb (Qa (zFW (s:={ s with heap:=h2 }) Sa2.get Sa2.data Sa2.fits (Qb ?_)))
     refine⟨h2,kr2,kd++[k],krest,rfl,kp2,S2,Xr,pk',fun k'=>?_,fun e he=>vr e (Qe _ he)⟩
     rw [p2.mem_iff,Qh,mk k',QD,QC]
     constructor
     ·rintro(x1 | ⟨x1,x2⟩)
      ·exact⟨.inr x1,x1 ▸ hn⟩
      ·exact⟨.inl x1,x2⟩
     ·rintro⟨x1 | x1,x2⟩
      ·exact .inr ⟨x1,x2⟩
      ·exact .inl x1
  ·rintro _ s' ⟨h',kr,kd,krest,rfl,kp,SR,Xr,pk,mk,vr⟩
   cases Xr
   rw [Q8]at pk
   refine Qb (Qb (h h' _ kr (Qi _) kp SR.toD fun k=>?_))
   rw [mk k,pk.mem_iff]
  ·refine⟨_,[],[],ko,rfl,kp0,⟨_,#[],0,_,Qu _ rfl,⟨rfl,rfl,rfl⟩,rfl,⟨.inl rfl,rfl,rfl,List.Pairwise.nil,fun x hx=>by simp [SetTable.fresh]at hx,(by show 0 * 5<7 * 3;decide),fun q hq=>by simp at hq⟩,⟨rfl,rfl⟩,.nil,Y3,fun e he=>by simp at he⟩,Xo,po,fun k=>by simp,fun e he=>Va e ((zDs w a pa ea).mem_iff.mp he)⟩
end
end ST
namespace ST
open PySem PySem.SetTable PyProof.Rows
section
variable {prog:Program}{w:World}{A:Around}{E:Value->Shared->Prop}{s:Shared}{V:Value->Prop}
theorem zPt{a b:Addr}{ka kb:List (List Int)}{Q:Value->Shared->Prop}(hab:a≠b)(hu:A.units+8<cLine)(SA:SetT prog w V s.heap a ka)(SB:SetT prog w V s.heap b kb)(hna:ka.length<=63)
  (h:∀ h' r ks,s.heap.objs.size<=r->(∀ b o,s.heap.get? b=some o->h'.get? b=some o)->SetD prog w V h' r ks->(∀ k,k∈ks ↔ k∈ka/\k∉kb)->Q (.ref r) { s with heap:=h' }):
  wpAny (model prog w) A (binaryOp .Sub (.ref a) (.ref b)) Q E s:=by
 obtain⟨oa,ea,pa,ta,Sa,Ta,Xa,Va⟩:=SA.setAt
 obtain⟨ob,eb,pb,tb,Sb,Tb,Xb,Vb⟩:=SB.setAt
 have hTa:s.TypeIs (.ref a) "set":=⟨oa,Sa.get,Sa.ex.1⟩
 have hTb:s.TypeIs (.ref b) "set":=⟨ob,Sb.get,Sb.ex.1⟩
 refine wpAny_binaryOp_same hTa hTb PySem.F.fills_set_sub PySem.F.slot_set_sub (Yl PySem.F.slot_set_sub hTa PySem.F.set_sub_entry ?_ (PySem.F.args_set_sub_2 _ _))
 unfold Builtin.«frozenset.__sub__»
 wp_delta
 refine Qa (wpAny_of_eq (a:=(Value.ref a,Value.ref b)) (by rfl) ?_)
 simp only [Qm,if_false]
 refine Qa ?_
 unfold andM
 refine Qa (zE6 hTa ?_)
 show wpAny _ _ (Builtin.Frozenset.isAnySet (.ref b)) _ _ _
 refine zE6 hTb ?_
 simp only [YK,Qm,if_false]
 unfold Builtin.Frozenset.addrOf
 refine Qa (Qb (Qa (zL2 hab (by show A.units+1<cLine;lia) SA SB hna fun h' r ks hr kp S mk=>?_)))
 exact Qb ⟨_,rfl,(fun z=>nomatch z),h h' r ks hr kp S mk⟩
end
end ST
namespace SL
open PySem PySem.Spec PyProof.Rows L2 CL DL SD ST
def zGn(g1 g2:Rho->Option (List (List Int))):Rho->Option (List (List Int)):=fun ρ=>(g1 ρ).bind fun x=>(g2 ρ).bind fun y=>if x.length<=63 then some (x.filter fun k => !y.contains k)else none
section
variable {X:Cx}{a b:Expr}{pos:Pos}{g1 g2:Rho->Option (List (List Int))}
theorem Ents.carry{pins pins':List (Addr × Obj)}{σ σ':L2.St}{H1 H2:Hp}{s1 s2:Shared}(I1:Inv X pins σ H1 s1)(I2:Inv X pins' σ' H2 s2)(sm:Same H1 H2):∀{es:List (Int × Value)}{ks:List (List Int)},Ents X.prog X.w s1.heap es ks->(∀ e∈es,VT X.K H1 e.2)->Ents X.prog X.w s2.heap es ks
 | _,_,.nil,_=>.nil
 | _,_,.cons (k:=k) (b:=bx) h1 r,hv=>by
  obtain⟨b',xs,e1,e2⟩:=hv _ Qj
  cases e1
  have:k=xs:=h1.unique (zCq I1 e2)
  subst this
  exact .cons (zCq I2 (Same.sqT sm e2)) (Ents.carry I1 I2 sm r fun e he=>hv e (Qe _ he))
theorem zMa(hc:X.calm=true)(hu:X.A.units+66<cLine)(ha:DSt X a g1)(hb:DSt X b g2):DSv X (.BinOp a .Sub b pos) (zGn g1 g2):=by
 intro pins s σ H Q I ⟨F,H₀,ρ,kl,S,q,k⟩
 obtain⟨x,e1,q⟩:=bnd q
 obtain⟨y,e2,q⟩:=bnd q
 by_cases c:x.length<=63
 ·rw [if_pos c]at q
  cases q
  refine wpAny_BinOp (thn (ha pins s σ H (fun ks H1=>ks.Nodup/\(∀ k,k∈ks ↔ k∈x)/\∃ F1,Ext F F1 H H1) I ⟨F,H₀,ρ,x,S,e1,fun F1 H1 ks E1 n1 m1=>⟨n1,m1,F1,E1⟩⟩) fun u s1 zz=>?_)
  obtain⟨a1,o1,ka,H1,eu,I1,S1,_,_,m1,F1,E1⟩:=zz
  refine thn (hb ((a1,o1)::pins) s1 σ H1 (fun ks H2=>ks.Nodup/\(∀ k,k∈ks ↔ k∈y)/\∃ F2,Ext F1 F2 H1 H2) I1 ⟨F1,H₀,ρ,y,S.ext E1,e2,fun F2 H2 ks E2 n2 m2=>⟨n2,m2,F2,E2⟩⟩) fun v s2 zz=>?_
  obtain⟨a2,o2,kb,H2,ev,I2,S2,ap,_,m2,F2,E2⟩:=zz
  subst eu
  subst ev
  have g1:s2.heap.get? a1=some o1:=(I2.pin (a1,o1) (Qz _ (Qe _ Qj))).1
  have hne:a1≠a2:=ap (a1,o1) Qj
  have SA:SetT X.prog X.w (VT X.K H2) s2.heap a1 ka:=by
   obtain⟨o,es,ep,t,z1,z2,z3,z4,z5,z6,z7,z8⟩:=S1
   have:s1.heap.get? a1=some o1:=(I1.pin (a1,o1) (Qz _ Qj)).1
   rw [z1]at this
   cases this
   exact⟨_,es,ep,t,g1,z2,z3,z4,z5,Ents.carry I1 I2 E2.same z6 z8,z7,fun e he=>by
    obtain⟨b',xs,e1,e2⟩:=z8 e he
    exact⟨b',xs,e1,Same.sqT E2.same e2⟩⟩
  refine zPt hne (by lia) SA S2 ?_ fun h' r ks hr kp SD mk=>?_
  ·have:ka.length<=x.length:=Ym SA.nodup fun k h=>(m1 k).mp h
   lia
  ·obtain⟨o,es,ep,t,z1,z2,z3,z4,z5,z6,z7,z8⟩:=SD
   have I3:Inv X pins σ H2 s2:=I2.pins_of fun p hp=>I2.pin p (Qz _ (Qe _ (Qe _ hp)))
   have I4:Inv X pins σ H2 { s2 with heap:=h' }:=I3.kept (t':=s2.toks) kp
   have I5:Inv X ((r,o)::pins) σ H2 { s2 with heap:=h' }:=by
    refine I4.pins_of fun p hp=>?_
    rcases Qh.mp hp with rfl | hp
    ·refine⟨z1,I2.hok.fresh hr,YH (QG I2.lt hr),I2.nofs hr,fun v hv=>?_⟩
     rw [z3]at hv
     exact nomatch hv
    ·exact I4.pin p (Qz _ hp)
   refine⟨r,o,ks,H2,rfl,I5,⟨es,ep,t,⟨z1,z2,z3,z4.fits (by simp),z4.up,z5.1,z5.2⟩,z6,z7,z8⟩,k F2 H2 ks (E1.trans E2) z7 fun k=>?_⟩
   rw [mk k,m1 k,m2 k,QT]
   simp
 ·rw [if_neg c]at q;cases q
end
theorem zL8{X:Cx}{st:Stmt}:DS X st (fun _=>none):=fun pins s σ H W I q=>by
 obtain⟨F₀,H₀,F,ρ,o,E,S,q,k⟩:=q
 cases q
end SL
namespace DC
open PySem PyProof.Rows
theorem zNi:typeLookup (.type "list") "keys"=pure none:=by rw [typeLookup_type,builtinLookup_eq_fast];kernel_rfl
section
variable {prog:Program}{w:World}{A:Around}{E:Value->Shared->Prop}{s:Shared}
theorem zMW{a:Addr}{o:Obj}{xs:Array Value}{k:Nat}{Q:Option Value->Shared->Prop}(hx:s.heap.get? a=some o)(hc:o.cls=.type "list")(hdat:o.data=.seq xs k)(hd:o.dict=none)(hA:A.handled=none)
  (h:∀ h' tk,(∀ b ob,s.heap.get? b=some ob->h'.get? b=some ob)->Q none { s with heap:=h',toks:=tk }):wpAny (model prog w) A (getAttr? (.ref a) "keys") Q E s:=by
 obtain⟨c,dct,dat,sl⟩:=o
 simp only at hc hdat hd
 subst hc hdat hd
 obtain⟨hp,g,d,tk,os⟩:=s
 have hT:∀ tk',(⟨hp,g,d,tk',os⟩:Shared).TypeIs (.ref a) "list":=fun _=>⟨_,hx,rfl⟩
 have f1:=sub_AttributeError
 have f3:=F.slot_list_getattribute.lookup
 have f4:=F.slot_list_getattribute.bind (.ref a)
 have f5:=am_list_getattr_none
 unfold getAttr? getAttrBy? getAttrBy
 repeat (any_goals (first | assumption | exact hT _ | ((with_reducible show wpAny _ _ (call (Value.builtin "list.__getattribute__") _ _) _ _ _);refine call_meets F.slot_list_getattribute (hT _) am_entry_list_getattribute (F.args_list_getattribute_2 _ _) (meets_getattribute_miss_list a xs k sl "keys" _ zNi (by decide +kernel)) ⟨hx,hA,fun h' tk' e hx'=>?_⟩) | wp_step))
 obtain⟨t',u',he⟩:=hx'.there
 show wpAny _ _ (getattributeRaised _ _ _ _ _ _ _) _ _ _
 unfold getattributeRaised
 repeat (any_goals (first | assumption | wp_step))
 exact h _ _ hx'.keeps
end
theorem zIs:entryFor table "dict.update.loop"=some Builtin.«dict.update.loop»:=entryFor_of_tree (by kernel_rfl)
theorem zFC:plainId "dict.update.loop"=true:=by decide +kernel
section
variable {κ:Type}[DecidableEq κ]
def zBs(key:Nat->κ)(kad:Nat->Addr)(val:Nat->Value):Nat->List (κ × Addr × Value)
 | 0=>[]
 | i+1=>storedH (zBs key kad val i) (key i) (kad i) (val i)
variable {key:Nat->κ}{kad:Nat->Addr}{val:Nat->Value}
theorem zF3:∀ i,(zBs key kad val i).length<=i
 | 0=>Qi _
 | i+1=>by
  have:=zF3 i
  unfold zBs storedH
  split
  ·rw [Ql];lia
  ·rw [Qv,Yg];lia
theorem zF4:∀ i,∀ x∈zBs key kad val i,∃ j,j<i/\x.1=key j/\x.2.1=kad j
 | 0,x,h=>nomatch h
 | i+1,x,h=>by
  unfold zBs storedH at h
  split at h
  ·obtain⟨y,hy,rfl⟩:=QK.mp h
   obtain⟨j,hj,e1,e2⟩:=zF4 i y hy
   refine⟨j,by lia,?_⟩
   unfold putAt
   split
   ·exact⟨e1,e2⟩
   ·exact⟨e1,e2⟩
  ·rcases QD.mp h with h | h
   ·obtain⟨j,hj,e⟩:=zF4 i x h
    exact⟨j,by lia,e⟩
   ·rw [QC]at h
    subst h
    exact⟨i,by lia,rfl,rfl⟩
end
section
variable {prog:Program}{w:World}{κ:Type}[DecidableEq κ]{knd:HeapKind prog w κ}{A:Around}{R:Result->Shared->Prop}{I:Addr}{fp wr:List Addr}{G:Array GenState->Array GenState->Prop}{n:Nat}{Pv:Nat->Value->Prop}{St:Nat->Shared->Prop}
theorem zL1(W:WalksS prog w A.in1 I fp wr G n Pv St)(S:Addr)(hSf:S∉fp)(hu:knd.room A.in1)(key:Nat->κ)(kad:Nat->Addr)(val:Nat->Value)(s0:Heap)(res:Value)
  (hmono:∀(h h':Heap) k b,knd.is h k b->(∀ b o,h.get? b=some o->h'.get? b=some o)->knd.is h' k b)
  (hold:∀ b o,s0.get? b=some o->b≠S/\b∉wr) (hval:∀ i v,i<n->Pv i v->∃ b,v=.ref b/\s0.IsTuple b #[.ref (kad i),val i]) (hkey:∀ i,i<n->knd.is s0 (key i) (kad i)) (hb:n<=1000):
  ∀(k i:Nat) (s:Shared) (c:Int) (t:Tok),n-i=k->i<=n->St i s->(∀ b o,s0.get? b=some o->s.heap.get? b=some o)->
   s.heap.DictOfH knd S (zBs key kad val i)->
   (∀ s',Moved (S::wr) G s s'->(∀ b o,s0.get? b=some o->s'.heap.get? b=some o)->s'.heap.DictOfH knd S (zBs key kad val n)->R (.ok (.ret res)) s')->
   codeAny (model prog w) A (.builtin "dict.update.loop" ⟨[.ref S,.ref I,.int c t,res],[]⟩) R s:=by
 have hSw:S∉wr:=fun h=>hSf (W.sub _ h)
 have hsub:∀ b∈wr,b∈S::wr:=fun b hb=>Qe _ hb
 have hmv:∀(s s':Shared) i,i<=n->Moved wr G s s'->(∀ b o,s0.get? b=some o->s'.heap.get? b=some o)->s.heap.DictOfH knd S (zBs key kad val i)->s'.heap.DictOfH knd S (zBs key kad val i):=fun s s' i hi hm h0 hS=>by
  obtain⟨o,es,ep,ho,hex,hd,he,his,hnd⟩:=hS
  refine⟨o,es,ep,hm.heap S _ hSw ho,hex,hd,he,fun x hx=>?_,hnd⟩
  obtain⟨j,hj,e1,e2⟩:=zF4 i x hx
  rw [e1,e2]
  exact hmono _ _ _ _ (hkey j (by lia)) h0
 intro k
 induction k with
 | zero=>
  intro i s c t hk hi hst h0 hS hR
  have hin:i=n:=by lia
  subst hin
  refine YV zIs ?_
  rw [YY zFC _]
  show wpAny _ A.in1 (pyNext (.ref I) >>= _) _ _ s
  refine Qa (W.done s _ _ hst fun s' hm=>?_)
  show wpAny _ A.in1 (Builtin.Dict.addKeywords S [] >>= fun _=>ret res) _ _ s'
  have h0':∀ b o,s0.get? b=some o->s'.heap.get? b=some o:=fun b o e=>hm.heap b o (hold b o e).2 (h0 b o e)
  exact Qa (Qb (Qb (hR s' (hm.mono hsub) h0' (hmv s s' i (Qi _) hm h0' hS))))
 | succ k ih=>
  intro i s c t hk hi hst h0 hS hR
  have hlt:i<n:=by lia
  refine YV zIs ?_
  rw [YY zFC _]
  show wpAny _ A.in1 (pyNext (.ref I) >>= _) _ _ s
  refine Qa (W.item i s _ _ hlt hst fun v s' hP hst' hm=>?_)
  obtain⟨b,rfl,ot,hot,hct,nt,hdt⟩:=hval i v hlt hP
  have h0':∀ b o,s0.get? b=some o->s'.heap.get? b=some o:=fun b o e=>hm.heap b o (hold b o e).2 (h0 b o e)
  have hS':=hmv s s' i (by lia) hm h0' hS
  have hk1:knd.is s'.heap (key i) (kad i):=hmono _ _ _ _ (hkey i hlt) h0'
  refine Qa (Q2 (Qa (wpAny_tryCatch ?_)))
  unfold Builtin.Dict.pairItems
  refine Qa (YI (T:="tuple") ⟨ot,h0' _ _ hot,hct⟩ ?_)
  rw [if_pos (by decide)]
  refine Qa (wpAny_seqItems (h0' _ _ hot) hdt (Qb ?_))
  show wpAny _ A.in1 (holding [Value.ref (kad i),val i] (dictSet S (.ref (kad i)) (val i))) _ _ s'
  refine Q2 (wpAny_dictSet_heap hu hk1 hS' (fun h' hd' hsb=>?_) (QI (zF3 i) (by rw [sizeLine];lia)))
  have hmoved:Moved (S::wr) G s { s' with heap:=h',toks:=s'.toks+knd.draws (key i) }:=
   (hm.mono hsub).then_heap (Yf _ _) fun b o hb e=>by rw [hsb.2 b (fun h:b=S=>hb (by rw [h];exact Qj))];exact e
  refine Qb ⟨plainId_quiet zFC _,ih (i+1) _ (c+1) 0 (by lia) hlt (W.frame _ s' _ _ hst' (Yf _ _) fun b hb o e=>?_) (fun b o e=>?_) hd' fun s'' hm'' h0'' hS''=>?_⟩
  ·rw [hsb.2 b (fun h:b=S=>hSf (by rw [<- h];exact hb))];exact e
  ·show h'.get? b=some o
   rw [hsb.2 b (hold b o e).1];exact h0' b o e
  ·exact hR s'' (Moved.trans W.gtrans hmoved hm'') h0'' hS''
end
end DC
namespace DC
open PySem PyProof.Rows
section
variable {prog:Program}{w:World}{κ:Type}[DecidableEq κ]{knd:HeapKind prog w κ}{A:Around}{E:Value->Shared->Prop}{s:Shared}
theorem zLn{l:Addr}{items:Array Value}{nl:Nat}{sl:Array (Option Value)}{Q:Value->Shared->Prop}(key:Nat->κ)(kad:Nat->Addr)(val:Nat->Value)
  (hmono:∀(h h':Heap) k b,knd.is h k b->(∀ b o,h.get? b=some o->h'.get? b=some o)->knd.is h' k b)
  (hh:A.handled=none) (hu:∀ B:Around,B.units<=A.units+8->knd.room B) (hl:s.heap.get? l=some { cls:=.type "list",dict:=none,data:=.seq items nl,slots:=sl })
  (hi:∀ i v,items[i]?=some v->∃ b,v=.ref b/\s.heap.IsTuple b #[.ref (kad i),val i]) (hk:∀ i,i<items.size->knd.is s.heap (key i) (kad i)) (hb:items.size<=1000)
  (h:∀(h':Heap) (tk:Nat),h'.DictOfH knd s.heap.objs.size (zBs key kad val items.size)->(∀ b o,s.heap.get? b=some o->h'.get? b=some o)->Q (.ref s.heap.objs.size) { s with heap:=h',toks:=tk }):
  wpAny (model prog w) A (call (.type "dict") [.ref l]) Q E s:=by
 refine callType_codes (Q₁:=fun obj s₁=>obj=.ref s.heap.objs.size/\s₁={ s with heap:=s.heap.push { cls:=.type "dict",data:=.dict #[] } }) F.kt_called_dict (F.kt_typeCall_dict_1 _) F.entry_dict_init (kt_code_dict_new _ ⟨rfl,rfl⟩) ?_
 rintro obj s₁ ⟨rfl,rfl⟩
 have hnew:(s.heap.push { cls:=.type "dict",data:=.dict #[] }).DictOfH knd s.heap.objs.size []:=Heap.DictOfH.new s.heap
 have hl':(s.heap.push { cls:=.type "dict",data:=.dict #[] }).get? l=some { cls:=.type "list",dict:=none,data:=.seq items nl,slots:=sl }:=Qd _ hl
 refine⟨hnew.typeIs,F.args_dict_init_2 _ _,?_⟩
 unfold Builtin.«dict.__init__»
 refine Qa ?_
 unfold Builtin.Dict.selfAndRest
 refine Qa (wpAny_notOrdered_dict hnew.typeIs ?_)
 show wpAny _ _ (pure (s.heap.objs.size,[Value.ref l])) _ _ _
 refine Qb ?_
 show wpAny _ _ (Builtin.Dict.updateFrom "dict.__init__" s.heap.objs.size (.ref l) [] .none) _ _ _
 unfold Builtin.Dict.updateFrom
 refine Qa (YI (T:="list") ⟨_,hl',rfl⟩ ?_)
 rw [if_pos (by decide)]
 refine Qa (zMW hl' rfl rfl rfl (by first | exact hh | simp [hh]) fun h₂ tk₂ keep₂=>?_)
 rw [if_pos (by decide)]
 have hl2:h₂.IsList l items:=⟨_,keep₂ _ _ hl',rfl,nl,rfl⟩
 refine Qa (wpAny_rule (Qa (wpAny_pyIter_list (s:={ s with heap:=h₂,toks:=tk₂ }) hl2 ?_)))
 refine Qb ⟨plainId_quiet zFC _,?_⟩
 have hS2:h₂.get? s.heap.objs.size=some { cls:=.type "dict",data:=.dict #[] }:=keep₂ _ _ (Qu _ rfl)
 have hSlt:s.heap.objs.size<h₂.objs.size:=Qo hS2
 have hlS:l<s.heap.objs.size:=Qo hl
 have hneI:l≠h₂.objs.size:=Qt (Nat.lt_trans hlS hSlt)
 have hh2:A.in1.in1.handled=none:=by simp [hh]
 have hkeep:∀ b o,s.heap.get? b=some o->(h₂.push { cls:=Value.type "list_iterator",data:=Data.fields #[Value.ref l,Value.int 0 0] }).get? b=some o:=fun b o e=>
  Qd _ (keep₂ b o (Qd _ e))
 refine zL1 (knd:=knd) ((Walks.list hh2 h₂.objs.size l hneI items).toS) s.heap.objs.size ?hSf (hu _ (by show A.units+1+1<=_;lia)) key kad val s.heap .none hmono ?hold (fun i v _ hv=>hi i v hv) (fun i hi'=>hk i hi') hb (items.size-0) 0 _ 0 0 (by lia) (QN _)
  ⟨⟨_,Qu _ rfl,rfl,rfl⟩,hl2.push _⟩ hkeep ?hS0 ?hR
 case hSf=>
  simp only [Qh,QC,List.not_mem_nil,or_false,not_or]
  exact⟨Qt hSlt,YH hlS⟩
 case hold=>
  intro b o e
  have hlt:b<s.heap.objs.size:=Qo e
  refine⟨Qt hlt,fun hm=>?_⟩
  have hb':b=h₂.objs.size:=QC.mp hm
  rw [hb']at hlt
  exact absurd (Nat.lt_trans hlt hSlt) (Jc _)
 case hS0=>exact⟨_,#[],0,Qd _ hS2,⟨rfl,rfl,rfl⟩,rfl,rfl,fun _ hx=>by simp [zBs]at hx,Y3⟩
 case hR=>
  intro s' hm h0 hS'
  obtain⟨h',g',d',tk',os'⟩:=s'
  have eg:g'=s.gens:=hm.gens
  have ed:d'=s.drawn:=hm.drawn
  have eo:os'=s.os:=hm.os
  subst eg;subst ed;subst eo
  exact⟨rfl,h h' tk' hS' h0⟩
end
end DC
namespace DC
open PySem PySem.Spec PyProof.Rows L2 DL ST SL
def decT:D->Option (List Int)
 | .tuple ds=>zAK ds
 | _=>none
theorem zI9:∀ ks:List Int,zAK (ks.map PyData.int)=some ks
 | []=>rfl
 | k::ks=>by show(zAK (ks.map PyData.int)).bind _=_;rw [zI9 ks];rfl
theorem zLR(ks:List Int):decT (encT ks)=some ks:=zI9 ks
theorem zGe{K:PySem.W.Frag}{H:Hp}{k:DKey}{b:Addr}{ks:List Int}(h:zDa K H k b):decT (encK k)=some ks ↔ k=.inl ks:=by
 cases k with
 | inl js=>
  show decT (encT js)=some ks ↔ _
  rw [zLR]
  constructor
  ·intro e;cases e;rfl
  ·intro e;cases e;rfl
 | inr kss=>
  obtain⟨n,_⟩:=h
  cases kss with
  | nil=>exact absurd rfl n
  | cons x xs=>
   constructor
   ·intro e;cases e
   ·intro e;cases e
theorem zHp{K:PySem.W.Frag}{F:Addr->Prop}{H:Hp}{d:D}{v:V}{ks:List Int}(r:Rep K F H d v)(h:decT d=some ks):∃ b,v=.ref b/\SqT K H b (ks.map V.int):=by
 cases r with
 | @tup a vs ds h1 r1=>
  rw [zE4 r1 (show zAK ds=some ks from h)]at h1
  exact⟨a,rfl,h1⟩
 | _=>cases h
def hasD(kvs:List (D × D))(k:List Int):Bool:=kvs.any fun p=>decT p.1 == some k
def putD(kvs:List (D × D))(k:List Int)(v:D):List (D × D):=if hasD kvs k=true then kvs.map fun p=>if(decT p.1 == some k)=true then(p.1,v)else p else kvs++[(encT k,v)]
abbrev Ent:=DKey × Addr × V
def hasE(es:List Ent)(k:List Int):Bool:=es.any fun e=>decide (e.1=.inl k)
def putE(es:List Ent)(k:List Int)(b:Addr)(v:V):List Ent:=if hasE es k=true then es.map fun e=>if e.1=.inl k then(e.1,e.2.1,v)else e else es++[(.inl k,b,v)]
theorem zHt{K:PySem.W.Frag}{H:Hp}{k:DKey}{b:Addr}{ks:List Int}(h:zDa K H k b):(decT (encK k) == some ks)=decide (k=.inl ks):=by
 by_cases c:k=.inl ks
 ·rw [decide_eq_true c,(zGe h).mpr c,beq_self_eq_true]
 ·rw [decide_eq_false c]
  exact beq_eq_false_iff_ne.mpr fun e=>c ((zGe h).mp e)
section
variable {K:PySem.W.Frag}{F:Addr->Prop}{H:Hp}
theorem DReps.has:∀{kvs:List (D × D)}{es:List Ent} (k:List Int),DReps K F H kvs es->hasD kvs k=hasE es k
 | _,_,_,.nil=>rfl
 | _,_,k,.cons h r t=>by
  have:=DReps.has k t
  unfold hasD hasE at this ⊢
  rw [Ji,Ji,this,zHt h]
theorem DReps.append:∀{kvs kvs':List (D × D)}{es es':List Ent},DReps K F H kvs es->DReps K F H kvs' es'->DReps K F H (kvs++kvs') (es++es')
 | _,_,_,_,.nil,s=>s
 | _,_,_,_,.cons h r t,s=>.cons h r (DReps.append t s)
theorem DReps.repl{k:List Int}{d:D}{v:V}(hv:Rep K F H d v):∀{kvs:List (D × D)}{es:List Ent},DReps K F H kvs es->
  DReps K F H (kvs.map fun p=>if(decT p.1 == some k)=true then(p.1,d)else p) (es.map fun e=>if e.1=.inl k then(e.1,e.2.1,v)else e)
 | _,_,.nil=>.nil
 | _,_,@DReps.cons _ _ _ k' b d' v' _ _ h r t=>by
  rw [Qq,Qq]
  by_cases c:k'=.inl k
  ·rw [if_pos (by rw [zHt h,decide_eq_true c]),if_pos c]
   exact .cons h hv (DReps.repl hv t)
  ·rw [if_neg (by rw [zHt h,decide_eq_false c];decide),if_neg c]
   exact .cons h r (DReps.repl hv t)
theorem DReps.put{k:List Int}{b:Addr}{d:D}{v:V}{kvs:List (D × D)}{es:List Ent}(t:DReps K F H kvs es)(hk:SqT K H b (k.map V.int))(hv:Rep K F H d v):DReps K F H (putD kvs k d) (putE es k b v):=by
 unfold putD putE
 rw [DReps.has k t]
 by_cases c:hasE es k=true
 ·rw [if_pos c,if_pos c];exact DReps.repl hv t
 ·rw [if_neg c,if_neg c];exact DReps.append t (.cons (k:=.inl k) hk hv .nil)
def zB5(kvs:List (D × D)):Bool:=kvs.all fun p=>(decT p.1).isSome
theorem DReps.flat:∀{kvs:List (D × D)}{es:List Ent},DReps K F H kvs es->zB5 kvs=true->∀ e∈es,∃ ks,e.1=.inl ks/\SqT K H e.2.1 (ks.map V.int)
 | _,_,.nil,_,e,he=>nomatch he
 | _,_,.cons h r t,f,e,he=>by
  unfold zB5 at f
  rw [List.all_cons,QQ]at f
  rcases Qh.mp he with rfl | he
  ·obtain⟨ks,q⟩:=Option.isSome_iff_exists.mp f.1
   have:=(zGe h).mp q
   refine⟨ks,this,?_⟩
   dsimp only at this ⊢
   subst this
   exact h
  ·exact DReps.flat t f.2 e he
end
abbrev Raw:=List Int × Addr × Value
abbrev ER:Ent->Raw->Prop:=fun e x=>e.1=.inl x.1/\e.2.1=x.2.1/\RelV e.2.2 x.2.2
theorem zE1(k:List Int):∀{es:List Ent}{xs:List Raw},Paired ER es xs->hasE es k=(atKey xs k).isSome
 | _,_,.nil=>rfl
 | _,_,@Paired.cons _ _ _ e x es xs h t=>by
  have ih:=zE1 k t
  unfold hasE at ih ⊢
  rw [Ji,ih]
  by_cases c:x.1=k
  ·have a:atKey (x::xs) k=some x.2:=by simp [atKey,List.find?_cons,c]
   rw [a,decide_eq_true (by rw [h.1,c])];rfl
  ·have a:atKey (x::xs) k=atKey xs k:=by simp [atKey,List.find?_cons,c]
   rw [a,decide_eq_false (by rw [h.1];intro z;cases z;exact c rfl)];rfl
theorem zIw{k:List Int}{v:V}{u:Value}(hv:RelV v u):∀{es:List Ent}{xs:List Raw},Paired ER es xs->Paired ER (es.map fun e=>if e.1=.inl k then(e.1,e.2.1,v)else e) (xs.map (putAt k u))
 | _,_,.nil=>.nil
 | _,_,@Paired.cons _ _ _ e x es xs h t=>by
  rw [Qq,Qq]
  refine .cons ?_ (zIw hv t)
  unfold putAt
  by_cases c:x.1=k
  ·rw [if_pos c,if_pos (by rw [h.1,c])];exact⟨h.1,h.2.1,hv⟩
  ·rw [if_neg c,if_neg (by rw [h.1];intro z;cases z;exact c rfl)];exact h
theorem zMe{k:List Int}{b:Addr}{v:V}{u:Value}(hv:RelV v u){es:List Ent}{xs:List Raw}(t:Paired ER es xs):Paired ER (putE es k b v) (storedH xs k b u):=by
 unfold putE storedH
 rw [zE1 k t]
 by_cases c:(atKey xs k).isSome=true
 ·rw [if_pos c,if_pos c];exact zIw hv t
 ·rw [if_neg c,if_neg c];exact Paired.snoc t ⟨rfl,rfl,hv⟩
theorem zGp:∀{es:List Ent}{xs:List Raw},Paired ER es xs->es.map (·.1)=(xs.map (·.1)).map Sum.inl
 | _,_,.nil=>rfl
 | _,_,.cons h t=>by rw [Qq,Qq,Qq,zGp t,h.1]
theorem zND{l:List (List Int)}(h:l.Nodup):(l.map (Sum.inl:List Int->DKey)).Nodup:=by
 rw [List.Nodup,QW]
 exact List.Pairwise.imp (fun n e=>n (Sum.inl.inj e)) h
theorem zNE{l:List (List Int)}(h:(l.map (Sum.inl:List Int->DKey)).Nodup):l.Nodup:=by
 rw [List.Nodup,QW]at h
 exact List.Pairwise.imp (fun n e=>n (by rw [e])) h
abbrev TKd(P:Program)(w:World):HeapKind P w (List Int):=tupleKind (intKind P w)
theorem zIg{X:Cx}{pins:List (Addr × Obj)}{σ:L2.St}{H:Hp}{s:Shared}{a:Addr}{es:List Ent}{ep:Nat}(I:Inv X pins σ H s)(h:H a=some (DctO a es ep))(hf:∀ e∈es,∃ ks,e.1=.inl ks/\SqT X.K H e.2.1 (ks.map V.int))(hn:(es.map (·.1)).Nodup):
  (a == sysModules)=false/\∃ xs:List Raw,s.heap.DictOfH (TKd X.prog X.w) a xs/\Paired ER es xs:=by
 obtain⟨⟨lo,o,raw,h1,h2,h3,h4⟩,_⟩:=(show zA1 X.prog X.w H s.heap a (DctO a es ep)from I.hok a _ h)
 have mk:∀{l:List Ent}{r:List DictEntry},Paired (fun(e:DKey × Addr × V) (r:DictEntry)=>r.hash=zI1 e.1/\r.key=.ref e.2.1/\RelV e.2.2 r.val) l r->(∀ e∈l,∃ ks,e.1=.inl ks/\SqT X.K H e.2.1 (ks.map V.int))->
   ∃ xs:List Raw,r=xs.map (entryOfKey (TKd X.prog X.w))/\Paired ER l xs/\∀ x∈xs,(TKd X.prog X.w).is s.heap x.1 x.2.1:=by
  intro l r q
  induction q with
  | nil=>exact fun _=>⟨[],rfl,.nil,fun x hx=>nomatch hx⟩
  | @cons e r l rs h t ih=>
   intro hf
   obtain⟨xs,q1,q2,q3⟩:=ih fun e he=>hf e (Qe _ he)
   obtain⟨ks,e1,e2⟩:=hf e Qj
   refine⟨(ks,e.2.1,r.val)::xs,?_,.cons ⟨e1,rfl,h.2.2⟩ q2,fun x hx=>?_⟩
   ·rw [Qq,<- q1]
    congr 1
    obtain⟨rh,rk,rv⟩:=r
    obtain⟨z1,z2,z3⟩:=h
    dsimp only at z1 z2 ⊢
    subst z1 z2
    rw [e1]
    rfl
   ·rcases Qh.mp hx with rfl | hx
    ·exact zCq I e2
    ·exact q3 x hx
 obtain⟨xs,q1,q2,q3⟩:=mk h4 hf
 refine⟨lo,xs,⟨o,raw,ep,h1,h2,h3,q1,q3,?_⟩,q2⟩
 rw [zGp q2]at hn
 exact zNE hn
theorem zLN{P:Program}{w:World}{H:Hp}{h:Heap}{a:Addr}{es:List Ent}{xs:List Raw}(lo:(a == sysModules)=false)(d:h.DictOfH (TKd P w) a xs)(r:Paired ER es xs):∃ ep,zA1 P w H h a (DctO a es ep):=by
 obtain⟨o,raw,ep,h1,h2,h3,h4,h5,h6⟩:=d
 clear h5 h6
 refine⟨ep,⟨lo,o,raw,h1,h2,h3,?_⟩,⟨o,h1⟩,fun h1' h2' ⟨lo,o,raw,g1,g2⟩ k=>⟨lo,o,raw,k _ g1,g2⟩⟩
 rw [h4]
 clear h1 h2 h3 h4
 induction r with
 | nil=>exact .nil
 | @cons e x es xs h t ih=>
  rw [Qq]
  refine .cons ⟨?_,?_,h.2.2⟩ ih
  ·rw [h.1];rfl
  ·rw [h.2.1];rfl
end DC
namespace DC
open PySem PySem.Spec PyProof.Rows L2 DL ST SL
section
variable {X:Cx}
def dIn2(neg:Bool)(d e:D):Option D:=match e with
 | .dict kvs=>(decT d).bind fun k=>if zB5 kvs=true then some (.bool (if neg then !hasD kvs k else hasD kvs k))else none
 | e=>dIn neg d e
theorem zET{neg:Bool}{d r:D}{kvs:List (D × D)}(h:dIn2 neg d (.dict kvs)=some r):∃ k,decT d=some k/\zB5 kvs=true/\r=.bool (if neg then !hasD kvs k else hasD kvs k):=by
 obtain⟨k,e1,q⟩:=bnd (show((decT d).bind fun k=>if zB5 kvs=true then some (PyData.bool (if neg then !hasD kvs k else hasD kvs k))else none)=some r from h)
 by_cases c:zB5 kvs=true
 ·rw [if_pos c]at q;cases q;exact⟨k,e1,c,rfl⟩
 ·rw [if_neg c]at q;cases q
theorem zG7(hu:X.A.units+65<cLine):OpR X (compareOp .In) (rD2 X.K (dIn2 false)):=fun pins s σ H x y v u Q I rx ry zz=>by
 obtain⟨F,d,e,q,z,R1,R2,hq,k⟩:=zz
 cases R2 with
 | @dct a es kvs ep f h n l t=>
  obtain⟨ks,e1,fl,rfl⟩:=zET hq
  obtain⟨b,rfl,hb⟩:=zHp R1 e1
  cases rx
  cases ry
  obtain⟨lo,xs,dd,er⟩:=zIg I h (DReps.flat t fl) n
  refine wpAny_in_heap (knd:=TKd X.prog X.w) (k:=ks) (show X.A.in1.units<cLine from by show X.A.units+1<cLine;lia) (zCq I hb) lo dd ?_
  rw [<- zE1 ks er,<- DReps.has ks t]
  exact⟨.bl _,H,I.tok _,rfl,k F H _ (Ext.refl F H) (.bl _)⟩
 | exn f h n=>
  obtain⟨ks,e1,fl,_⟩:=zET hq
  cases fl
 | tup h r=>exact zG6 hu pins s σ H _ _ v u Q I rx ry ⟨F,d,_,q,z,R1,.tup h r,hq,k⟩
 | lst h r=>exact zG6 hu pins s σ H _ _ v u Q I rx ry ⟨F,d,_,q,z,R1,.lst h r,hq,k⟩
 | non=>cases hq
 | bl _=>cases hq
 | int _=>cases hq
 | str _=>cases hq
theorem zN4(hu:X.A.units+65<cLine):OpR X (compareOp .NotIn) (rD2 X.K (dIn2 true)):=fun pins s σ H x y v u Q I rx ry zz=>by
 obtain⟨F,d,e,q,z,R1,R2,hq,k⟩:=zz
 cases R2 with
 | @dct a es kvs ep f h n l t=>
  obtain⟨ks,e1,fl,rfl⟩:=zET hq
  obtain⟨b,rfl,hb⟩:=zHp R1 e1
  cases rx
  cases ry
  obtain⟨lo,xs,dd,er⟩:=zIg I h (DReps.flat t fl) n
  refine wpAny_notIn_heap (knd:=TKd X.prog X.w) (k:=ks) (show X.A.in1.units<cLine from by show X.A.units+1<cLine;lia) (zCq I hb) lo dd ?_
  rw [<- zE1 ks er,<- DReps.has ks t]
  exact⟨.bl _,H,I.tok _,rfl,k F H _ (Ext.refl F H) (.bl _)⟩
 | exn f h n=>
  obtain⟨ks,e1,fl,_⟩:=zET hq
  cases fl
 | tup h r=>exact zG8 hu pins s σ H _ _ v u Q I rx ry ⟨F,d,_,q,z,R1,.tup h r,hq,k⟩
 | lst h r=>exact zG8 hu pins s σ H _ _ v u Q I rx ry ⟨F,d,_,q,z,R1,.lst h r,hq,k⟩
 | non=>cases hq
 | bl _=>cases hq
 | int _=>cases hq
 | str _=>cases hq
end
end DC
namespace DC
open PySem PySem.Spec PyProof.Rows L2 DL ST SL
def zFz:D->Option (List Int × D)
 | .tuple [k,v]=>(decT k).bind fun ks=>some (ks,v)
 | _=>none
def zDt:List D->Option (List (List Int × D))
 | []=>some []
 | d::r=>(zFz d).bind fun p=>(zDt r).bind fun ps=>some (p::ps)
def zD3(ps:List (List Int × D)):List (D × D):=ps.foldl (fun kvs p=>putD kvs p.1 p.2) []
def zF9:List D->Option D
 | [.list ds]=>if ds.length<=1000 then(zDt ds).bind fun ps=>some (.dict (zD3 ps))else none
 | _=>none
structure Tr where
 k:List Int
 b:Addr
 v:V
 d:D
def TrOk(K:PySem.W.Frag)(F:Addr->Prop)(H:Hp)(x:V)(t:Tr):Prop:=∃ b,x=.ref b/\SqT K H b [.ref t.b,t.v]/\SqT K H t.b (t.k.map V.int)/\Rep K F H t.d t.v
theorem zN9{K:PySem.W.Frag}{F:Addr->Prop}{H:Hp}{d:D}{x:V}{p:List Int × D}(r:Rep K F H d x)(h:zFz d=some p):∃ t,p=(t.k,t.d)/\TrOk K F H x t:=by
 cases r with
 | @tup a vs ds h1 r1=>
  unfold zFz at h
  split at h
  ·rename_i k v e
   cases e
   obtain⟨ks,e1,h⟩:=bnd h
   cases h
   cases r1 with
   | cons rk r2=>
    cases r2 with
    | cons rv r3=>
     cases r3
     obtain⟨b,rfl,hb⟩:=zHp rk e1
     exact⟨⟨ks,b,_,v⟩,rfl,a,rfl,h1,hb,rv⟩
  ·cases h
 | _=>cases h
theorem zJS{K:PySem.W.Frag}{F:Addr->Prop}{H:Hp}:∀{ds:List D}{vs:List V}{ps:List (List Int × D)},Reps K F H ds vs->zDt ds=some ps->∃ ts:List Tr,ps=ts.map (fun t=>(t.k,t.d))/\Paired (TrOk K F H) vs ts
 | _,_,_,.nil,h=>by cases h;exact⟨[],rfl,.nil⟩
 | _,_,_,.cons r rs,h=>by
  obtain⟨p,e1,h⟩:=bnd h
  obtain⟨ps,e2,h⟩:=bnd h
  cases h
  obtain⟨t,rfl,q⟩:=zN9 r e1
  obtain⟨ts,rfl,q2⟩:=zJS rs e2
  exact⟨t::ts,rfl,.cons q q2⟩
theorem Paired.atR{α β:Type}{R:α->β->Prop}:∀{l:List α}{m:List β}{i:Nat}{b:β},Paired R l m->m[i]?=some b->∃ a,l[i]?=some a/\R a b
 | _,_,_,_,.nil,e=>by simp at e
 | _,_,0,_,.cons h _,e=>by simp at e;subst e;exact⟨_,rfl,h⟩
 | _,_,i+1,_,.cons _ t,e=>by
  obtain⟨b,h1,h2⟩:=Paired.atR t (by simpa using e)
  exact⟨b,by simpa using h1,h2⟩
theorem pick{P:Nat->Value->Prop}(n:Nat)(h:∀ i,i<n->∃ u,P i u):∃ f:Nat->Value,∀ i,i<n->P i (f i):=by
 classical
 refine⟨fun i=>if c:i<n then Classical.choose (h i c)else .none,fun i hi=>?_⟩
 show P i (if c:i<n then Classical.choose (h i c)else .none)
 rw [dif_pos hi]
 exact Classical.choose_spec (h i hi)
def Tr0:Tr:=⟨[],0,.non,.none⟩
theorem zIF{K:PySem.W.Frag}{F:Addr->Prop}{H:Hp}(ts:List Tr)(val:Nat->Value)(hk:∀ t∈ts,SqT K H t.b (t.k.map V.int)/\Rep K F H t.d t.v)(hv:∀(i:Nat) t,ts[i]?=some t->RelV t.v (val i)):
  ∀ i,i<=ts.length->∃ es,DReps K F H (zD3 ((ts.map fun t=>(t.k,t.d)).take i)) es/\Paired ER es (zBs (fun i=>(ts.getD i Tr0).k) (fun i=>(ts.getD i Tr0).b) val i)
 | 0,_=>⟨[],.nil,.nil⟩
 | i+1,hi=>by
  obtain⟨es,h1,h2⟩:=zIF ts val hk hv i (by lia)
  have hlt:i<ts.length:=hi
  have hg:ts[i]?=some ts[i]:=by simp [hlt]
  have hD:ts.getD i Tr0=ts[i]:=by simp [List.getD,hlt]
  have hm:=hk ts[i] (YL hlt)
  refine⟨putE es ts[i].k ts[i].b ts[i].v,?_,?_⟩
  ·have e:(ts.map fun t=>(t.k,t.d)).take (i+1)=(ts.map fun t=>(t.k,t.d)).take i++[(ts[i].k,ts[i].d)]:=by
    rw [List.take_succ,QB,hg];rfl
   rw [e]
   unfold zD3
   rw [List.foldl_append]
   exact DReps.put h1 hm.1 hm.2
  ·show Paired ER _ (storedH _ (ts.getD i Tr0).k (ts.getD i Tr0).b (val i))
   rw [hD]
   exact zMe (hv i _ hg) h2
section
variable {X:Cx}
theorem boot_dict:bootBuiltins "dict"=some (.type "dict"):=by decide +kernel
theorem zPC{P:Program}{w:World}(h h':Heap)(k:List Int)(b:Addr)(x:(TKd P w).is h k b)(e:∀ b o,h.get? b=some o->h'.get? b=some o):(TKd P w).is h' k b:=TK.at x fun o ho=>e b o ho
theorem zLi{pins:List (Addr × Obj)}{σ:L2.St}{H:Hp}{s:Shared}(I:Inv X pins σ H s):sysModules<s.heap.objs.size:=by
 have h:mainGlobals<s.heap.objs.size:=(I.mod.glob.keeps I.bk).lt
 exact Nat.lt_trans (by decide) h
def rDict(K:PySem.W.Frag):List V->Hp->VK->Prop:=fun xs H Q=>∃(F:Addr->Prop) (ds:List D) (ps:List (List Int × D)),(∀ a,F a->H a≠none)/\Reps K F H [.list ds] xs/\ds.length<=1000/\zDt ds=some ps /\
 ∀ p es ep,H p=none->DReps K F H (zD3 ps) es->(es.map (·.1)).Nodup->es.length<=1000->Q (.ref p) (upd H p (DctO p es ep))
theorem zLD(hc:X.calm=true)(hu:X.A.units+66<cLine):zA0 X (.type "dict") (rDict X.K):=fun pins s σ H xs us Q I rv zz=>by
 obtain⟨F,ds,ps,z,R,hl,e1,k⟩:=zz
 cases R with
 | cons R1 R2=>
  cases R2
  cases R1 with
  | @lst a vs _ h1 r1=>
   obtain⟨u,rfl,ru⟩:=zCf rv
   cases ru
   obtain⟨its,rvs,⟨o,nl,g1,g2,g3,g4⟩,_⟩:=I.list h1.sq
   obtain⟨ts,rfl,pr⟩:=zJS r1 e1
   have hlen:its.length=ts.length:=by rw [<- rvs.length];exact Paired.length pr
   have hts:ts.length<=1000:=by rw [<- Paired.length pr,<- r1.length];exact hl
   obtain⟨val,hval⟩:=pick (P:=fun i u=>∀ t,ts[i]?=some t->RelV t.v u/\∀ v,its[i]?=some v->∃ b,v=.ref b/\s.heap.IsTuple b #[.ref t.b,u]) ts.length fun i hi=>by
    have hg:ts[i]?=some ts[i]:=by simp [hi]
    obtain⟨x,hx,b,rfl,t1,t2,t3⟩:=Paired.atR pr hg
    obtain⟨jts,rj,itp,_⟩:=I.tuple t1
    cases rj with
    | @cons _ u1 _ us1 ra rb=>
     cases rb with
     | @cons _ u2 _ us2 rc rd=>
      cases rd
      cases ra
      refine⟨u2,fun t ht=>?_⟩
      rw [hg]at ht;cases ht
      refine⟨rc,fun v hv=>?_⟩
      obtain⟨w',ew,rw'⟩:=rvs.get hx
      rw [hv]at ew;cases ew
      cases rw'
      exact⟨b,rfl,itp⟩
   obtain⟨oc,od,odt,osl⟩:=o
   have hob:s.heap.get? a=some { cls:=.type "list",dict:=none,data:=.seq its.toArray nl,slots:=osl }:=by
    rw [g1];simp only at g2 g3 g4;rw [g2,g3,g4]
   refine zLn (knd:=TKd X.prog X.w) (fun i=>(ts.getD i Tr0).k) (fun i=>(ts.getD i Tr0).b) val zPC (I.ok.hd hc) (fun B hB=>show B.units<cLine by lia) hob (fun i v hv=>?_) (fun i hi=>?_) (by rw [Qx,hlen];exact hts) fun h' tk dd keep=>?_
   ·have hv':its[i]?=some v:=by simpa using hv
    have hi:i<ts.length:=by rw [<- hlen];exact(Qc.mp hv').1
    have hg:ts[i]?=some ts[i]:=by simp [hi]
    have hD:ts.getD i Tr0=ts[i]:=by simp [List.getD,hi]
    obtain⟨b,e,it⟩:=(hval i hi _ hg).2 v hv'
    exact⟨b,e,by rw [hD];exact it⟩
   ·have hi':i<ts.length:=by rw [<- hlen];simpa using hi
    have hg:ts[i]?=some ts[i]:=by simp [hi']
    have hD:ts.getD i Tr0=ts[i]:=by simp [List.getD,hi']
    obtain⟨x,hx,b,_,t1,t2,t3⟩:=Paired.atR pr hg
    show TK X.prog X.w s.heap (ts.getD i Tr0).k (ts.getD i Tr0).b
    rw [hD]
    exact zCq I t2
   ·obtain⟨es,f1,f2⟩:=zIF (K:=X.K) (F:=F) (H:=H) ts val (fun t ht=>by
     obtain⟨i,hi⟩:=List.mem_iff_getElem?.mp ht
     obtain⟨x,hx,b,_,t1,t2,t3⟩:=Paired.atR pr hi
     exact⟨t2,t3⟩) (fun i t ht=>(hval i (Qc.mp ht).1 t ht).1) ts.length (Qi _)
    rw [Jb (by simp)]at f1
    have hsz:its.toArray.size=ts.length:=by rw [Qx,hlen]
    rw [hsz]at dd
    have lo:(s.heap.objs.size == sysModules)=false:=beq_eq_false_iff_ne.mpr (Ne.symm (Qt (zLi I)))
    have hp:H s.heap.objs.size=none:=I.hok.fresh (Qi _)
    obtain⟨ep,oo⟩:=zLN (H:=H) lo dd f2
    refine⟨.ref s.heap.objs.size,upd H s.heap.objs.size (DctO s.heap.objs.size es ep),I.laid keep (Qi _) oo,rfl,k _ es ep hp f1 ?_ ?_⟩
    ·obtain⟨_,_,_,_,_,_,_,_,hn⟩:=dd
     rw [zGp f2];exact zND hn
    ·rw [Paired.length f2];exact QI (zF3 _) hts
theorem zLv(hc:X.calm=true)(hu:X.A.units+66<cLine):zA0 X (.type "dict") (rDA X.K zF9):=zEQ (zLD hc hu) fun xs H Q zz=>by
 obtain⟨F,ds,q,z,R,hq,k⟩:=zz
 unfold zF9 at hq
 split at hq
 ·rename_i ds'
  by_cases hl:ds'.length<=1000
  ·rw [if_pos hl]at hq
   obtain⟨ps,e1,hq⟩:=bnd hq
   cases hq
   exact⟨F,ds',ps,z,R,hl,e1,fun p es ep hp r n l=>k _ _ _ (Ext.frozen hp) (.dct (.inr rfl) zAs n l (r.stay (Ext.frozen hp).stay))⟩
  ·rw [if_neg hl]at hq;cases hq
 ·cases hq
end
end DC
namespace DC
open PySem PySem.Spec PyProof.Rows L2 DL ST SL EL
def iSeq(ga:Rho->Option D):Rho->Option (List D):=fun ρ=>(ga ρ).bind seqD
def iRng1(gr:Rho->Option (List D)):Rho->Option (List D):=fun ρ=>(gr ρ).bind rng1
def iRng2(gr:Rho->Option (List D)):Rho->Option (List D):=fun ρ=>(gr ρ).bind rng2
def iZip(gr:Rho->Option (List D)):Rho->Option (List D):=fun ρ=>(gr ρ).bind zipD
def zEc(gr:Rho->Option (List D)):Rho->Option (List D):=fun ρ=>(gr ρ).bind zGo
section
variable {X:Cx}{tg e a b:Expr}{es:List Expr}{ga:Rho->Option D}{gr:Rho->Option (List D)}{p pos:Pos}
theorem zBD(ha:DE X e ga):DI X tg e (iSeq ga):=zLZ ha
theorem zB2(hg:Gl X "range")(hm:X.mg "range"=none)(ha:DA X [a] gr)(hs:starEach [a] X.env=[(false,eval a X.env)]:=by rfl):DI X tg (.Call (.Name "range" p) [a] [] pos) (iRng1 gr):=zLX hg hm ha hs
theorem zLU(hg:Gl X "range")(hm:X.mg "range"=none)(ha:DA X [a,b] gr)(hs:starEach [a,b] X.env=[(false,eval a X.env),(false,eval b X.env)]:=by rfl)(hs2:starEach [b] X.env=[(false,eval b X.env)]:=by rfl):DI X tg (.Call (.Name "range" p) [a,b] [] pos) (iRng2 gr):=zLY hg hm ha hs hs2
theorem zLW{elts:List Expr}{x1}{tpos:Pos}(hg:Gl X "zip")(hm:X.mg "zip"=none)(ha:DA X [a,b] gr)(hs:starEach [a,b] X.env=[(false,eval a X.env),(false,eval b X.env)]:=by rfl)(hs2:starEach [b] X.env=[(false,eval b X.env)]:=by rfl):
  DI X (.Tuple elts x1 tpos) (.Call (.Name "zip" p) [a,b] [] pos) (iZip gr):=zL0 hg hm ha hs hs2
theorem zLT{elts:List Expr}{x1}{tpos:Pos}(hg:Gl X "enumerate")(hm:X.mg "enumerate"=none)(ha:DA X [a] gr)(hs:starEach [a] X.env=[(false,eval a X.env)]:=by rfl):
  DI X (.Tuple elts x1 tpos) (.Call (.Name "enumerate" p) [a] [] pos) (zEc gr):=zLS hg hm ha hs
end
end DC
namespace DL
open PySem PySem.Spec PyProof.Rows L2
end DL
namespace DC
open PySem PySem.Spec PyProof.Rows L2 DL ST SL EL
section
variable {X:Cx}{e k v:Expr}{es:List Expr}{gr:Rho->Option (List D)}{gk gv:Rho->Option D}{p pos:Pos}
end
end DC
namespace DC
open PySem PySem.Spec PyProof.Rows L2 DL ST SL EL
section
variable {P:Program}{w:World}{A:Around}{E:Value->Shared->Prop}{s:Shared}{d it:Addr}{raw:Array DictEntry}{ep i:Nat}
end
end DC
namespace DC
open PySem PySem.Spec PyProof.Rows L2 DL ST SL EL
end DC
namespace DL
open PySem PySem.Spec PyProof.Rows L2
section
variable {X:Cx}{a b:Expr}{ga:Rho->Option (List D)}{pos:Pos}
end
end DL
namespace TX
open PySem PySem.Spec PyProof.Rows L2 DL
open Builtin Builtin.Str
section
variable {X:Cx}
end
end TX
namespace TX
open PySem PySem.Spec PyProof.Rows L2 DL
open Builtin Builtin.Str
section
variable {X:Cx}{o e:Expr}{go ge:Rho->Option D}{apos cpos:Pos}
end
end TX
namespace TX
open PySem PySem.Spec PyProof.Rows L2 DL ZL EL
open Builtin Builtin.Str
end TX
namespace TB
open PySem PySem.Spec PyProof.Rows L2 DL TX
section
variable {X:Cx}{e:Expr}{ga gb:Rho->Option D}{p pos:Pos}
end
mutual
def noL:D->Bool
 | .none=>true
 | .bool _=>true
 | .int _=>true
 | .str _=>true
 | .tuple ds=>noLs ds
 | _=>false
def noLs:List D->Bool
 | []=>true
 | d::ds=>noL d && noLs ds
end
mutual
theorem zNC{K:PySem.W.Frag}{F F2:Addr->Prop}{H:Hp}{d:D}{v:V}(h:Rep K F H d v)(q:noL d=true):Rep K F2 H d v:=by
 cases h with
 | non=>exact .non
 | bl b=>exact .bl b
 | int i=>exact .int i
 | str x=>exact .str x
 | tup h r=>exact .tup h (noLs_rep r q)
 | lst h r=>cases q
 | dct f h n l r=>cases q
 | exn f h n=>cases q
theorem noLs_rep{K:PySem.W.Frag}{F F2:Addr->Prop}{H:Hp}{ds:List D}{vs:List V}(h:Reps K F H ds vs)(q:noLs ds=true):Reps K F2 H ds vs:=by
 cases h with
 | nil=>exact .nil
 | cons h r=>
  have q:=QF.mp q
  exact .cons (zNC h q.1) (noLs_rep r q.2)
end
section
variable {X:Cx}{e:Expr}{ga:Rho->Option D}{p pos:Pos}
end
end TB
namespace TX
open PySem PySem.Spec PyProof.Rows L2 DL
open Builtin Builtin.Str
section
variable {X:Cx}
end
end TX
namespace CL
open PySem PySem.Spec PyProof.Rows L2
section
variable {X:Cx}{N':List Str}{scope:Scope}{inner:List (Option Nat)}{x0:Str}{cl:List (Str × Addr)}{C:Addr}{fp:List Addr}{s s4:Shared}{H:Hp}{σ:L2.St}{pins:List (Addr × Obj)}
end
section
variable {X:Cx}{elt tg iter:Expr}{ifs:List Expr}{scope:Scope}{pos:Pos}{N':List Str}{inner:List (Option Nat)}{x0:Str}{wi:TI}{g:TG}{ti:TT}{te:TE}
end
end CL
namespace DL
open PySem PySem.Spec PySem.SeqAt PyProof.Rows L2 CL
section
variable {X:Cx}{elt tg iter:Expr}{ifs:List Expr}{scope:Scope}{pos:Pos}{N':List Str}{inner:List (Option Nat)}{x0:Str}{gi:Rho->Option (List D)}{s:D->Rho->Option Rho}{t:Rho->Option Bool}{ge:Rho->Option D}
end
end DL
namespace CL
open PySem PySem.Spec PyProof.Rows L2
section
variable {X:Cx}{elt tg iter:Expr}{ifs:List Expr}{scope:Scope}{pos:Pos}{N':List Str}{inner:List (Option Nat)}{x0:Str}{wi:TI}{g:TG}{ti:TT}{te:TE}
end
end CL
namespace DL
open PySem PySem.Spec PySem.SeqAt PyProof.Rows L2 CL
section
variable {X:Cx}{elt tg iter:Expr}{ifs:List Expr}{scope:Scope}{pos:Pos}{N':List Str}{inner:List (Option Nat)}{x0:Str}{gi:Rho->Option (List D)}{s:D->Rho->Option Rho}{t:Rho->Option Bool}{ge:Rho->Option D}
end
end DL
namespace OB
open PySem PySem.Spec PyProof.Rows L2 DL
structure Keep(K:PySem.W.Frag)(φ F F':Addr->Prop)(H H':Hp):Prop where
 st:Stay K F F' H H'
 out:∀ a o,H a=some o->¬ φ a->H' a=some o
 new:∀ a,F' a->F a ∨ H a=none
 fz:∀ a,F' a->H' a≠none
 lv:∀ a,H' a=none->H a=none
theorem Keep.refl{K:PySem.W.Frag}{φ F:Addr->Prop}{H:Hp}(z:∀ a,F a->H a≠none):Keep K φ F F H H:=⟨Stay.refl K F H,fun _ _ h _=>h,fun _ h=>.inl h,z,fun _ h=>h⟩
theorem Keep.ext{K:PySem.W.Frag}{φ F F':Addr->Prop}{H H':Hp}(z:∀ a,F a->H a≠none)(e:Ext F F' H H'):Keep K φ F F' H H':=
 ⟨e.stay,fun a o h _=>e.same a o h,fun a f=>(e.new a f).imp_right fun h=>h.1,e.fz z,fun _ h=>e.same.free h⟩
theorem Keep.trans{K:PySem.W.Frag}{φ φ1 F F1 F2:Addr->Prop}{H H1 H2:Hp}(a:Keep K φ F F1 H H1)(b:Keep K φ1 F1 F2 H1 H2)(s:∀ x,φ1 x->φ x ∨ H x=none):Keep K φ F F2 H H2:=
 ⟨a.st.trans b.st,fun x o h n=>b.out x o (a.out x o h n) (fun f=>(s x f).elim n fun z=>by rw [h]at z;cases z),
  fun x f=>(b.new x f).elim (a.new x) fun f=>.inr (a.lv x f),b.fz,fun x h=>a.lv x (b.lv x h)⟩
structure Kind(K:PySem.W.Frag)(B:Type) where
 C:Addr
 fn:List Str
 At:(Addr->Prop)->Hp->Addr->B->(Addr->Prop)->Prop
 own:∀{F:Addr->Prop}{H:Hp}{p:Addr}{b:B}{φ:Addr->Prop},At F H p b φ->φ p/\∀ a,φ a->H a≠none/\¬ F a
 ins:∀{F:Addr->Prop}{H:Hp}{p:Addr}{b:B}{φ:Addr->Prop},At F H p b φ->∃ dx fs,H p=some (.ins C dx fs)/\fs.map (·.1)=fn
 keep:∀{F F':Addr->Prop}{H H':Hp}{p:Addr}{b:B}{φ:Addr->Prop},At F H p b φ->Stay K F F' H H'->(∀ a o,φ a->H a=some o->H' a=some o)->(∀ a,φ a->¬ F' a)->At F' H' p b φ
abbrev Oa:=Addr × (Addr->Prop)
def foot(os:List Oa)(a:Addr):Prop:=∃ o,o∈os/\o.2 a
structure zAv(K:PySem.W.Frag)(os os':List Oa)(F F':Addr->Prop)(H H':Hp):Prop where
 k:Keep K (foot os) F F' H H'
 ft:∀ a,foot os' a->foot os a ∨ H a=none
 ad:∀(j:Nat) (o:Oa),os[j]?=some o->∃ φ,os'[j]?=some (o.1,φ)
theorem zAv.refl{K:PySem.W.Frag}{os:List Oa}{F:Addr->Prop}{H:Hp}(z:∀ a,F a->H a≠none):zAv K os os F F H H:=⟨Keep.refl z,fun _ h=>.inl h,fun _ o h=>⟨o.2,h⟩⟩
theorem zAv.trans{K:PySem.W.Frag}{os os1 os2:List Oa}{F F1 F2:Addr->Prop}{H H1 H2:Hp}(a:zAv K os os1 F F1 H H1)(b:zAv K os1 os2 F1 F2 H1 H2):zAv K os os2 F F2 H H2:=
 ⟨a.k.trans b.k a.ft,fun x f=>(b.ft x f).elim (a.ft x) fun f=>.inr (a.k.lv x f),fun j o h=>
  let⟨_,h1⟩:=a.ad j o h
  let⟨φ2,h2⟩:=b.ad j _ h1
  ⟨φ2,h2⟩⟩
theorem zAv.ext{K:PySem.W.Frag}{os:List Oa}{F F':Addr->Prop}{H H':Hp}(z:∀ a,F a->H a≠none)(e:Ext F F' H H'):zAv K os os F F' H H':=⟨Keep.ext z e,fun _ h=>.inl h,fun _ o h=>⟨o.2,h⟩⟩
section
variable {K:PySem.W.Frag}{B:Type}(k:Kind K B)
structure Os(F:Addr->Prop)(H:Hp)(Ω:List B)(os:List Oa):Prop where
 at_:Paired (fun b (o:Oa)=>k.At F H o.1 b o.2) Ω os
 dj:∀(i j:Nat) (o u:Oa),i≠j->os[i]?=some o->os[j]?=some u->∀ a,o.2 a->¬ u.2 a
structure SO(τ:List (Nat × Nat))(F:Addr->Prop)(H H₀:Hp)(σ:L2.St)(ρ:Rho)(Ω:List B)(os:List Oa):Prop where
 S:StOk K F H H₀ σ ρ
 o:Os k F H Ω os
 sep:∀ a,Own σ ρ a->¬ foot os a
 nm:∀(i:Nat) (kvs:List (List Int × List D)),ρ[i]?≠some (.ownM kvs)
 hd:∀ i j,(i,j)∈τ->∀ o,os[j]?=some o->σ[i]?=some (some (.ref o.1))
 lo:∀ a,H a=none->H₀ a=none
variable {k}
theorem zEo{α β:Type}{R:α->β->Prop}:∀{l:List α}{m:List β}{i:Nat}{b:β},Paired R l m->m[i]?=some b->∃ a,l[i]?=some a/\R a b
 | _,_,_,_,.nil,e=>by simp at e
 | _,_,0,_,.cons r _,e=>by simp at e;subst e;exact⟨_,rfl,r⟩
 | _,_,i+1,b,.cons _ t,e=>by
  obtain⟨a,h1,h2⟩:=zEo (i:=i) (b:=b) t (by simpa using e)
  exact⟨a,by simpa using h1,h2⟩
theorem zCV{α β:Type}{R:α->β->Prop}:∀{l:List α}{m:List β}{i:Nat}{a:α},Paired R l m->l[i]?=some a->∃ b,m[i]?=some b/\R a b
 | _,_,_,_,.nil,e=>by simp at e
 | _,_,0,_,.cons r _,e=>by simp at e;subst e;exact⟨_,rfl,r⟩
 | _,_,i+1,b,.cons _ t,e=>by
  obtain⟨a,h1,h2⟩:=zCV (i:=i) (a:=b) t (by simpa using e)
  exact⟨a,by simpa using h1,h2⟩
theorem zHa{α β:Type}{R R':α->β->Prop}:∀{l:List α}{m:List β},Paired R l m->(∀(i:Nat) a b,m[i]?=some b->R a b->R' a b)->Paired R' l m
 | _,_,.nil,_=>.nil
 | _,_,.cons r t,f=>.cons (f 0 _ _ rfl r) (zHa t fun i a b h q=>f (i+1) a b (by simpa using h) q)
theorem zJP{α β:Type}{R R':α->β->Prop}{a':α}{b':β}:∀{l:List α}{m:List β} (j:Nat),Paired R l m->(∀(i:Nat) a b,i≠j->m[i]?=some b->R a b->R' a b)->R' a' b'->Paired R' (l.set j a') (m.set j b')
 | _,_,_,.nil,_,_=>.nil
 | _,_,0,.cons r t,f,q=>.cons q (zHa t fun i a b h z=>f (i+1) a b (by lia) (by simpa using h) z)
 | _,_,j+1,.cons r t,f,q=>.cons (f 0 _ _ (by lia) rfl r) (zJP j t (fun i a b n h z=>f (i+1) a b (by lia) (by simpa using h) z) q)
theorem zBF{os:List Oa}{j:Nat}{o:Oa}{a:Addr}(h:os[j]?=some o)(ha:o.2 a):foot os a:=⟨o,QH h,ha⟩
theorem zIG{os:List Oa}{a:Addr}(h:foot os a):∃(j:Nat) (o:Oa),os[j]?=some o/\o.2 a:=by
 obtain⟨o,m,ha⟩:=h
 obtain⟨j,hj⟩:=QR m
 exact⟨j,o,hj,ha⟩
theorem Os.live{F:Addr->Prop}{H:Hp}{Ω:List B}{os:List Oa}(h:Os k F H Ω os){a:Addr}(f:foot os a):H a≠none/\¬ F a:=by
 obtain⟨j,o,hj,ha⟩:=zIG f
 obtain⟨b,_,q⟩:=zEo h.at_ hj
 exact(k.own q).2 a ha
theorem Os.keep{F F':Addr->Prop}{H H':Hp}{Ω:List B}{os:List Oa}(h:Os k F H Ω os)(T:Stay K F F' H H')(s:∀ a o,foot os a->H a=some o->H' a=some o)(n:∀ a,foot os a->¬ F' a):Os k F' H' Ω os:=
 ⟨zHa h.at_ fun j b o hj q=>k.keep q T (fun a u f e=>s a u (zBF hj f) e) fun a f=>n a (zBF hj f),h.dj⟩
theorem SO.ext{τ:List (Nat × Nat)}{F F':Addr->Prop}{H H' H₀:Hp}{σ:L2.St}{ρ:Rho}{Ω:List B}{os:List Oa}(S:SO k τ F H H₀ σ ρ Ω os)(e:Ext F F' H H'):SO k τ F' H' H₀ σ ρ Ω os:=
 ⟨S.S.ext e,S.o.keep e.stay (fun a o _ h=>e.same a o h) (fun a f z=>by
  rcases e.new a z with z | ⟨z,_⟩
  ·exact(S.o.live f).2 z
  ·exact(S.o.live f).1 z),S.sep,S.nm,S.hd,fun a h=>S.lo a (e.same.free h)⟩
theorem StOk.keep{φ F F':Addr->Prop}{H H' H₀:Hp}{σ:L2.St}{ρ:Rho}(S:StOk K F H H₀ σ ρ)(n:∀ a,Own σ ρ a->¬ φ a)(nm:∀(i:Nat) (kvs:List (List Int × List D)),ρ[i]?≠some (.ownM kvs))(q:Keep K φ F F' H H'):StOk K F' H' H₀ σ ρ:=by
 refine⟨S.len,fun i s hs=>?_,S.sep,q.fz⟩
 obtain⟨o,ho,w⟩:=S.sl i s hs
 refine⟨o,ho,?_⟩
 have nf:∀ a u,H a=some u->¬ F a->¬ F' a:=fun a u h f f'=>by
  rcases q.new a f' with z | z
  ·exact f z
  ·rw [h]at z;cases z
 cases s with
 | no=>trivial
 | dat d=>obtain⟨v,e,r⟩:=w;exact⟨v,e,r.stay q.st⟩
 | own ds=>
  obtain⟨a,vs,e,ha,f,h0,r⟩:=w
  exact⟨a,vs,e,q.out a _ ha (n a (.inl ⟨i,ds,hs,by rw [ho,e]⟩)),nf a _ ha f,h0,r.stay q.st⟩
 | ownD kvs=>
  obtain⟨a,es,ep,e,ha,f,h0,nd,l,r⟩:=w
  exact⟨a,es,ep,e,q.out a _ ha (n a (.inr ⟨i,kvs,hs,by rw [ho,e]⟩)),nf a _ ha f,h0,nd,l,r.stay q.st⟩
 | ownM kvs=>exact absurd hs (nm i kvs)
theorem zG9{F:Addr->Prop}{H H₀:Hp}{σ:L2.St}{ρ:Rho}(S:StOk K F H H₀ σ ρ){a:Addr}(h:Own σ ρ a):H a≠none/\H₀ a=none/\¬ F a:=by
 rcases h with⟨i,ds,q1,q2⟩ | ⟨i,kvs,q1,q2⟩
 ·obtain⟨b,vs,g1,g2,g3,g4,_⟩:=S.own q1
  rw [g1]at q2;cases q2
  exact⟨by rw [g2];simp,g4,g3⟩
 ·obtain⟨b,vs,ep,g1,g2,g3,g4,_⟩:=S.ownD q1
  rw [g1]at q2;cases q2
  exact⟨by rw [g2];simp,g4,g3⟩
theorem SO.turn{τ:List (Nat × Nat)}{F F':Addr->Prop}{H H' H₀:Hp}{σ:L2.St}{ρ:Rho}{Ω:List B}{os:List Oa}(S:SO k τ F H H₀ σ ρ Ω os){j:Nat}{o:Oa}{b':B}{φ':Addr->Prop}(hj:os[j]?=some o)(q:Keep K o.2 F F' H H')(s:∀ a,φ' a->o.2 a ∨ H a=none)
  (q':k.At F' H' o.1 b' φ'):SO k τ F' H' H₀ σ ρ (Ω.set j b') (os.set j (o.1,φ'))/\zAv K os (os.set j (o.1,φ')) F F' H H':=by
 have jl:j<os.length:=(Qc.mp hj).1
 have nf:∀(i:Nat) (u:Oa),i≠j->os[i]?=some u->∀ a,u.2 a->¬ o.2 a:=fun i u n hi a ha z=>S.o.dj i j u o n hi hj a ha z
 have ft:∀ a,foot (os.set j (o.1,φ')) a->foot os a ∨ H a=none:=fun a f=>by
  obtain⟨i,u,hi,ha⟩:=zIG f
  by_cases z:j=i
  ·subst z
   rw [Qs jl]at hi
   cases hi
   exact(s a ha).imp_left fun h=>zBF hj h
  ·rw [Qk z]at hi
   exact .inl (zBF hi ha)
 refine⟨⟨StOk.keep S.S (fun a h f=>S.sep a h (zBF hj f)) S.nm q,⟨?_,?_⟩,fun a h f=>?_,S.nm,fun i i' m u hu=>?_,fun a h=>S.lo a (q.lv a h)⟩,⟨q.st,fun a u h n=>q.out a u h fun f=>n (zBF hj f),q.new,q.fz,q.lv⟩,ft,fun i u hi=>?_⟩
 ·refine zJP j S.o.at_ (fun i b u n hi w=>k.keep w q.st (fun a x f e=>q.out a x e (nf i u n hi a f)) fun a f f'=>?_) q'
  have lv:=(k.own w).2 a f
  rcases q.new a f' with z | z
  ·exact lv.2 z
  ·exact lv.1 z
 ·intro i i' u v n hi hi' a ha hv
  by_cases z:j=i
  ·subst z
   rw [Qs jl]at hi
   cases hi
   rw [Qk n]at hi'
   rcases s a ha with f | f
   ·exact S.o.dj j i' o v n hj hi' a f hv
   ·exact(S.o.live (zBF hi' hv)).1 f
  ·rw [Qk z]at hi
   by_cases z':j=i'
   ·subst z'
    rw [Qs jl]at hi'
    cases hi'
    rcases s a hv with f | f
    ·exact S.o.dj i j u o n hi hj a ha f
    ·exact(S.o.live (zBF hi ha)).1 f
   ·rw [Qk z']at hi'
    exact S.o.dj i i' u v n hi hi' a ha hv
 ·rcases ft a f with f | f
  ·exact S.sep a h f
  ·exact(zG9 S.S h).1 f
 ·by_cases z:j=i'
  ·subst z
   rw [Qs jl]at hu
   cases hu
   exact S.hd i j m o hj
  ·rw [Qk z]at hu
   exact S.hd i i' m u hu
 ·by_cases z:j=i
  ·subst z
   rw [hj]at hi
   cases hi
   exact⟨φ',Qs jl⟩
  ·exact⟨u.2,by rw [Qk z];exact hi⟩
end
end OB
namespace OB
open PySem PySem.Spec PyProof.Rows L2 DL
abbrev GX(B α:Type):=Rho->List B->Option (α × List B)
section
variable {K:PySem.W.Frag}{B:Type}(k:Kind K B)(τ:List (Nat × Nat))
inductive TXE(g:GX B D)(σ:L2.St)(H:Hp)(Q:VK):Prop
 | mk (F:Addr->Prop) (H₀:Hp) (ρ:Rho) (Ω:List B) (os:List Oa) (d:D) (Ω':List B) (S:SO k τ F H H₀ σ ρ Ω os) (q:g ρ Ω=some (d,Ω')) (c:∀ F' H' v os',zAv K os os' F F' H H'->SO k τ F' H' H₀ σ ρ Ω' os'->Rep K F' H' d v->Q v H'):TXE g σ H Q
inductive TXT(g:GX B Bool)(σ:L2.St)(H:Hp)(Q:Bool->Hp->Prop):Prop
 | mk (F:Addr->Prop) (H₀:Hp) (ρ:Rho) (Ω:List B) (os:List Oa) (d:Bool) (Ω':List B) (S:SO k τ F H H₀ σ ρ Ω os) (q:g ρ Ω=some (d,Ω')) (c:∀ F' H' os',zAv K os os' F F' H H'->SO k τ F' H' H₀ σ ρ Ω' os'->Q d H'):TXT g σ H Q
inductive TXA(g:GX B (List D))(σ:L2.St)(H:Hp)(Q:List V->Hp->Prop):Prop
 | mk (F:Addr->Prop) (H₀:Hp) (ρ:Rho) (Ω:List B) (os:List Oa) (ds:List D) (Ω':List B) (S:SO k τ F H H₀ σ ρ Ω os) (q:g ρ Ω=some (ds,Ω')) (c:∀ F' H' vs os',zAv K os os' F F' H H'->SO k τ F' H' H₀ σ ρ Ω' os'->Reps K F' H' ds vs->Q vs H'):TXA g σ H Q
def AOk(F:Addr->Prop)(H:Hp)(p:Addr):Option D->V->Prop
 | some d,v=>Rep K F H d v
 | none,v=>v=.ref p
inductive TXO(j:Nat)(g:Rho->Option (List (Option D)))(σ:L2.St)(H:Hp)(Q:List V->Hp->Prop):Prop
 | mk (F:Addr->Prop) (H₀:Hp) (ρ:Rho) (Ω:List B) (os:List Oa) (ds:List (Option D)) (o:Oa) (hj:os[j]?=some o) (S:SO k τ F H H₀ σ ρ Ω os) (q:g ρ=some ds) (c:∀ F' H' vs,Ext F F' H H'->Paired (AOk (K:=K) F' H' o.1) ds vs->Q vs H'):TXO j g σ H Q
end
section
variable {X:Cx}{B:Type}(k:Kind X.K B)(τ:List (Nat × Nat))
def XE(e:Expr)(g:GX B D):Prop:=PE X e (TXE k τ g)
def XT(e:Expr)(g:GX B Bool):Prop:=PT X e (TXT k τ g)
def XW(e:Expr)(g:GX B Bool):Prop:=PW X e (TXT k τ g)
def XA(es:List Expr)(g:GX B (List D)):Prop:=PA X es (TXA k τ g)
def XO(j:Nat)(es:List Expr)(g:Rho->Option (List (Option D))):Prop:=PA X es (TXO k τ j g)
end
section
variable {B α:Type}
def xP(g:Rho->Option α):GX B α:=fun ρ Ω=>(g ρ).bind fun d=>some (d,Ω)
def xOp(h:D->D->Option D)(ga gb:GX B D):GX B D:=fun ρ Ω=>(ga ρ Ω).bind fun x=>(gb ρ x.2).bind fun y=>(h x.1 y.1).bind fun r=>some (r,y.2)
def xB(ga:GX B D):GX B Bool:=fun ρ Ω=>(ga ρ Ω).bind fun x=>(asB x.1).bind fun b=>some (b,x.2)
def xOr(t u:GX B Bool):GX B Bool:=fun ρ Ω=>(t ρ Ω).bind fun x=>if x.1=true then some x else u ρ x.2
def xNot(t:GX B Bool):GX B Bool:=fun ρ Ω=>(t ρ Ω).bind fun x=>some (!x.1,x.2)
def zEF(ga gb:GX B D):GX B D:=fun ρ Ω=>(ga ρ Ω).bind fun x=>(asB x.1).bind fun c=>if c=true then gb ρ x.2 else some (.bool false,x.2)
def xNil:GX B (List D):=fun _ Ω=>some ([],Ω)
def zBl(ga:GX B D)(gr:GX B (List D)):GX B (List D):=fun ρ Ω=>(ga ρ Ω).bind fun x=>(gr ρ x.2).bind fun y=>some (x.1::y.1,y.2)
def xTup(gr:GX B (List D)):GX B D:=fun ρ Ω=>(gr ρ Ω).bind fun x=>if x.1.length<=1000 then some (.tuple x.1,x.2)else none
abbrev GM(B:Type):=List (Option D)->B->Option (D × B)
def zAp(j:Nat)(G:GM B)(gr:Rho->Option (List D)):GX B D:=fun ρ Ω=>(gr ρ).bind fun ds=>(Ω[j]?).bind fun b=>(G (none::ds.map some) b).bind fun r=>some (r.1,Ω.set j r.2)
def xFn(j:Nat)(G:GM B)(gr:Rho->Option (List (Option D))):GX B D:=fun ρ Ω=>(gr ρ).bind fun ds=>(Ω[j]?).bind fun b=>(G ds b).bind fun r=>some (r.1,Ω.set j r.2)
def oNil:Rho->Option (List (Option D)):=fun _=>some []
def oDat(ga:Rho->Option D)(gr:Rho->Option (List (Option D))):Rho->Option (List (Option D)):=fun ρ=>(ga ρ).bind fun x=>(gr ρ).bind fun xs=>some (some x::xs)
def oObj(gr:Rho->Option (List (Option D))):Rho->Option (List (Option D)):=fun ρ=>(gr ρ).bind fun xs=>some (none::xs)
end
def spO{K:PySem.W.Frag}{B:Type}(k:Kind K B)(n:Nat)(G:GM B):Sp:=fun vs H Q _=>∃(F:Addr->Prop) (p:Addr) (b:B) (φ:Addr->Prop) (ds:List (Option D)) (r:D) (b':B),ds.length=n/\(∀ a,F a->H a≠none)/\k.At F H p b φ/\Paired (AOk (K:=K) F H p) ds vs/\G ds b=some (r,b') /\
 ∀ F' H' v φ',Keep K φ F F' H H'->(∀ a,φ' a->φ a ∨ H a=none)->k.At F' H' p b' φ'->Rep K F' H' r v->Q v H'
theorem zEh{β:Type}{m:Str}:∀{fs:List (Str × β)},(fs.map (·.1)).contains m=false->fs.lookup m=none
 | [],_=>rfl
 | (x,v)::fs,h=>by
  rw [Qq,List.contains_cons,Bool.or_eq_false_iff]at h
  rw [QJ,h.1]
  exact zEh h.2
theorem zH1{K:PySem.W.Frag}{F:Addr->Prop}{H:Hp}{p:Addr}:∀{ds:List D}{vs:List V},Reps K F H ds vs->Paired (AOk (K:=K) F H p) (ds.map some) vs
 | _,_,.nil=>.nil
 | _,_,.cons h r=>.cons h (zH1 r)
section
variable {X:Cx}{B:Type}{k:Kind X.K B}{τ:List (Nat × Nat)}{a b c e:Expr}{es rest:List Expr}{pos p:Pos}
theorem zAF{g:Rho->Option D}(h:DE X e g):XE k τ e (xP g):=zAE h fun σ H Q zz=>by
 obtain⟨F,H₀,ρ,Ω,os,d,Ω',S,q,c⟩:=zz
 obtain⟨d',e1,q⟩:=bnd q
 cases q
 exact⟨F,H₀,ρ,d,S.S,e1,fun F' H' v E R=>c F' H' v os (zAv.ext S.S.fz E) (S.ext E) R⟩
theorem zEJ{g:Rho->Option Bool}(h:DT X e g):XT k τ e (xP g):=zCY h fun σ H Q zz=>by
 obtain⟨F,H₀,ρ,Ω,os,d,Ω',S,q,c⟩:=zz
 obtain⟨d',e1,q⟩:=bnd q
 cases q
 exact⟨F,H₀,ρ,d,S.S,e1,fun F' H' E=>c F' H' os (zAv.ext S.S.fz E) (S.ext E)⟩
variable {ga gb:GX B D}{t u:GX B Bool}{gr:GX B (List D)}
theorem zJp{h:D->D->Option D}{σ:L2.St}{H:Hp}{Q:VK}(q:TXE k τ (xOp h ga gb) σ H Q):tOp (rD2 X.K h) (TXE k τ ga) (TXE k τ gb) σ H Q:=by
 obtain⟨F,H₀,ρ,Ω,os,d,Ω',S,q,c⟩:=q
 obtain⟨x,e1,q⟩:=bnd q
 obtain⟨y,e2,q⟩:=bnd q
 obtain⟨r,e3,q⟩:=bnd q
 cases q
 exact⟨F,H₀,ρ,Ω,os,x.1,x.2,S,e1,fun F1 H1 v os1 K1 S1 R1=>⟨F1,H₀,ρ,x.2,os1,y.1,y.2,S1,e2,fun F2 H2 w os2 K2 S2 R2=>⟨F2,x.1,y.1,d,S2.S.fz,R1.stay K2.k.st,R2,e3,fun F3 H3 z E3 R3=>c F3 H3 z os2 ((K1.trans K2).trans (zAv.ext S2.S.fz E3)) (S2.ext E3) R3⟩⟩⟩
theorem zHI{op:CmpOp}{h:D->D->Option D}(ho:OpR X (compareOp op) (rD2 X.K h))(ha:XE k τ a ga)(hb:XE k τ b gb)(hm:behindInMarks op b=false):XE k τ (.Compare a [op] [b] pos) (xOp h ga gb):=zAE (zJV ho ha hb hm) fun _ _ _ q=>zJp q
theorem zM5{te:TE}{g:GX B D}(m:∀ σ H Q,TXE k τ g σ H Q->te σ H Q){σ:L2.St}{H:Hp}{Q:Bool->Hp->Prop}(q:TXT k τ (xB g) σ H Q):zHH te σ H Q:=by
 obtain⟨F,H₀,ρ,Ω,os,d,Ω',S,q,c⟩:=q
 obtain⟨x,e1,q⟩:=bnd q
 obtain⟨y,e2,q⟩:=bnd q
 cases q
 exact m σ H _ ⟨F,H₀,ρ,Ω,os,x.1,x.2,S,e1,fun F1 H1 v os1 K1 S1 R1=>⟨d,zBx R1 e2,c F1 H1 os1 K1 S1⟩⟩
theorem zBM{op:CmpOp}{h:D->D->Option D}(ho:OpR X (compareOp op) (rD2 X.K h))(ha:XE k τ a ga)(hb:XE k τ b gb)(hm:behindInMarks op b=false):XT k τ (.Compare a [op] [b] pos) (xB (xOp h ga gb)):=zCY (zHh ho ha hb hm) fun _ _ _ q=>zM5 (fun _ _ _=>zJp) q
theorem zPU(ha:XE k τ a ga)(he:∀ whole,isTrue a X.env whole=(do let v <- whole;standAt a.pos;holding [v] (truthy v)):=by intro _;rfl):XT k τ a (xB ga):=zCY (zFD ha he) fun σ H Q zz=>by
 obtain⟨F,H₀,ρ,Ω,os,d,Ω',S,q,c⟩:=zz
 obtain⟨x,e1,q⟩:=bnd q
 obtain⟨y,e2,q⟩:=bnd q
 cases q
 exact⟨F,H₀,ρ,Ω,os,x.1,x.2,S,e1,fun F1 H1 v os1 K1 S1 R1=>⟨d,zBx R1 e2,c F1 H1 os1 K1 S1⟩⟩
theorem zDI(ha:XT k τ a t):XW k τ (.BoolOp .Or [a] pos) t:=zJ8 ha
theorem zDH(ha:XT k τ a t)(hb:XW k τ (.BoolOp .Or (b::rest) pos) u):XW k τ (.BoolOp .Or (a::b::rest) pos) (xOr t u):=zHk (zJ7 ha hb) fun σ H Q zz=>by
 obtain⟨F,H₀,ρ,Ω,os,d,Ω',S,q,c⟩:=zz
 obtain⟨x,e1,q⟩:=bnd q
 refine⟨F,H₀,ρ,Ω,os,x.1,x.2,S,e1,fun F1 H1 os1 K1 S1=>?_⟩
 obtain⟨r,Ω1⟩:=x
 cases r with
 | false=>simp only [Qm,if_false]at q ⊢;exact⟨F1,H₀,ρ,Ω1,os1,d,Ω',S1,q,fun F2 H2 os2 K2 S2=>c F2 H2 os2 (K1.trans K2) S2⟩
 | true=>simp only [if_true]at q ⊢;cases q;exact c F1 H1 os1 K1 S1
theorem xw_t(h:XW k τ a t):XT k τ a t:=PW.pt h
theorem zPT(ha:XT k τ a t):XT k τ (.UnaryOp .Not a pos) (xNot t):=zCY (zJ6 ha) fun σ H Q zz=>by
 obtain⟨F,H₀,ρ,Ω,os,d,Ω',S,q,c⟩:=zz
 obtain⟨x,e1,q⟩:=bnd q
 cases q
 exact⟨F,H₀,ρ,Ω,os,x.1,x.2,S,e1,fun F1 H1 os1 K1 S1=>c F1 H1 os1 K1 S1⟩
theorem zPR{op:BoolOp}(ha:XE k τ a ga):XE k τ (.BoolOp op [a] pos) ga:=zJY ha
theorem zK1(ha:XE k τ a ga)(hb:XE k τ (.BoolOp .And (b::rest) pos) gb):XE k τ (.BoolOp .And (a::b::rest) pos) (zEF ga gb):=zAE (zJU ha hb) fun σ H Q zz=>by
 obtain⟨F,H₀,ρ,Ω,os,d,Ω',S,q,c⟩:=zz
 obtain⟨x,e1,q⟩:=bnd q
 obtain⟨r,e2,q⟩:=bnd q
 refine⟨F,H₀,ρ,Ω,os,x.1,x.2,S,e1,fun F1 H1 v os1 K1 S1 R1=>⟨r,zBx R1 e2,?_⟩⟩
 cases r with
 | true=>simp only [if_true]at q ⊢;exact⟨F1,H₀,ρ,x.2,os1,d,Ω',S1,q,fun F2 H2 w os2 K2 S2 R2=>c F2 H2 w os2 (K1.trans K2) S2 R2⟩
 | false=>simp only [Qm,if_false]at q ⊢;cases q;exact c F1 H1 _ os1 K1 S1 (.bl false)
theorem zDG:XA k τ [] (xNil (B:=B)):=zCU zAw fun σ H Q zz=>by
 obtain⟨F,H₀,ρ,Ω,os,d,Ω',S,q,c⟩:=zz
 cases q
 exact c F H [] os (zAv.refl S.S.fz) S .nil
theorem zCh(ha:XE k τ e ga)(hr:XA k τ es gr)(hs:starEach (e::es) X.env=(false,eval e X.env)::starEach es X.env:=by rfl):XA k τ (e::es) (zBl ga gr):=zCU (zAl ha hr hs) fun σ H Q zz=>by
 obtain⟨F,H₀,ρ,Ω,os,d,Ω',S,q,c⟩:=zz
 obtain⟨x,e1,q⟩:=bnd q
 obtain⟨y,e2,q⟩:=bnd q
 cases q
 exact⟨F,H₀,ρ,Ω,os,x.1,x.2,S,e1,fun F1 H1 v os1 K1 S1 R1=>⟨F1,H₀,ρ,x.2,os1,y.1,y.2,S1,e2,fun F2 H2 vs os2 K2 S2 R2=>c F2 H2 _ os2 (K1.trans K2) S2 (.cons (R1.stay K2.k.st) R2)⟩⟩
theorem zFY{x1}(h:XA k τ es gr):XE k τ (.Tuple es x1 pos) (xTup gr):=zAE (zEs h) fun σ H Q zz=>by
 obtain⟨F,H₀,ρ,Ω,os,d,Ω',S,q,c⟩:=zz
 obtain⟨x,e1,q⟩:=bnd q
 refine⟨F,H₀,ρ,Ω,os,x.1,x.2,S,e1,fun F1 H1 vs os1 K1 S1 R1=>?_⟩
 by_cases hl:x.1.length<=1000
 ·rw [if_pos hl]at q
  cases q
  exact⟨zAR (by rw [<- R1.length];exact hl),fun p hp=>c F1 _ _ os1 (K1.trans (zAv.ext S1.S.fz (Ext.fresh hp))) (S1.ext (Ext.fresh hp)) (Rep.newTup hp R1)⟩
 ·rw [if_neg hl]at q;cases q
theorem zEH{j:Nat}:XO k τ j [] oNil:=zCU zAw fun σ H Q zz=>by
 obtain⟨F,H₀,ρ,Ω,os,ds,o,hj,S,q,c⟩:=zz
 cases q
 exact c F H [] (Ext.refl F H) .nil
theorem zLb{K:PySem.W.Frag}{F F':Addr->Prop}{H H':Hp}{p:Addr}(T:Stay K F F' H H'){od:Option D}{v:V}(h:AOk (K:=K) F H p od v):AOk (K:=K) F' H' p od v:=by
 cases od with
 | none=>exact h
 | some d=>exact Rep.stay T h
theorem zC1{j:Nat}{g:Rho->Option D}{gs:Rho->Option (List (Option D))}(ha:DE X e g)(hr:XO k τ j es gs)(hs:starEach (e::es) X.env=(false,eval e X.env)::starEach es X.env:=by rfl):XO k τ j (e::es) (oDat g gs):=zCU (zAl ha hr hs) fun σ H Q zz=>by
 obtain⟨F,H₀,ρ,Ω,os,ds,o,hj,S,q,c⟩:=zz
 obtain⟨x,e1,q⟩:=bnd q
 obtain⟨xs,e2,q⟩:=bnd q
 cases q
 exact⟨F,H₀,ρ,x,S.S,e1,fun F1 H1 v E1 R1=>⟨F1,H₀,ρ,Ω,os,xs,o,hj,S.ext E1,e2,fun F2 H2 vs E2 R2=>c F2 H2 _ (E1.trans E2) (.cons (zLb (od:=some x) E2.stay R1) R2)⟩⟩
theorem zEI{i j:Nat}{x:Str}{gs:Rho->Option (List (Option D))}(m:(i,j)∈τ)(hr:XO k τ j es gs)(hN:X.N[i]?=some x:=by rfl)(hv:Vis X.env.scope x:=by first | exact Or.inl rfl | exact Or.inr (Or.inl rfl) | exact Or.inr (Or.inr rfl))(hd:(x == ("__debug__":Str))=false:=by decide)
  (hcd:(x == ("__classdict__":Str))=false:=by decide) (hs:starEach (.Name x p::es) X.env=(false,eval (.Name x p) X.env)::starEach es X.env:=by rfl):XO k τ j (.Name x p::es) (oObj gs):=zCU (zAl (zCd hN hv hd hcd) hr hs) fun σ H Q zz=>by
 obtain⟨F,H₀,ρ,Ω,os,ds,o,hj,S,q,c⟩:=zz
 obtain⟨xs,e2,q⟩:=bnd q
 cases q
 exact⟨_,S.hd i j m o hj,F,H₀,ρ,Ω,os,xs,o,hj,S,e2,fun F2 H2 vs E2 R2=>c F2 H2 _ E2 (.cons rfl R2)⟩
theorem zEG{n j kk:Nat}{f:Addr}{fd:FuncData}{ps:List Str}{x:Str}{G:GM B}{gs:Rho->Option (List (Option D))}(F:FnOk X.prog X.w X.K X.mg X.base CX0 kk f fd ps (spO k n G))(hr:Room kk X.A)(hg:Gl X x)(hm:X.mg x=some (.ref f))(hk:PySem.W.keepIn X.K (.ref f)=true)(hb:Binds X.K fd ps [])
  (ha:XO k τ j (e::es) gs) (hln:∀ ρ ds,gs ρ=some ds->ds.length=n) (hdb:(x == ("__debug__":Str))=false:=by decide) (he:starEach (e::es) X.env=(false,eval e X.env)::starEach es X.env:=by rfl) (hpl:(backTo pos (starEach es X.env)).any (·.1)=false:=by rfl):
  XE k τ (.Call (.Name x p) (e::es) [] pos) (xFn j G gs):=zAE (zBU (E:=E0) F hr hg hm hk hb .nil zAV ha hdb he hpl) fun σ H Q zz=>by
 obtain⟨F,H₀,ρ,Ω,os,d,Ω',S,q,c⟩:=zz
 obtain⟨xs,e1,q⟩:=bnd q
 obtain⟨b,e2,q⟩:=bnd q
 obtain⟨r,e3,q⟩:=bnd q
 cases q
 obtain⟨o,hj,_⟩:=zCV S.o.at_ e2
 refine⟨F,H₀,ρ,Ω,os,xs,o,hj,S,e1,fun F1 H1 vs E1 R1=>?_⟩
 show spO k n G (vs++[]) H1 Q E0
 rw [Q8]
 have S1:=S.ext E1
 obtain⟨b1,e4,at1⟩:=zEo S1.o.at_ hj
 rw [e2]at e4;cases e4
 refine⟨F1,o.1,b,o.2,xs,r.1,r.2,hln ρ xs e1,S1.S.fz,at1,R1,e3,fun F' H' v φ' kp sb at' R'=>?_⟩
 obtain⟨S2,K2⟩:=S1.turn hj kp sb at'
 exact c F' H' v _ ((zAv.ext S.S.fz E1).trans K2) S2 R'
theorem zK2{i j n kk:Nat}{f:Addr}{fd:FuncData}{ps:List Str}{x m:Str}{apos:Pos}{pl:Sem Bool}{G:GM B}{gs:Rho->Option (List D)}(mm:(i,j)∈τ)(c:Cls X.K k.C)(hm:Meth X.K k.C m f)(hf:k.fn.contains m=false)(F:FnOk X.prog X.w X.K X.mg X.base CX0 kk f fd ps (spO k (n+1) G))(hr:Room kk X.A)(hb:Binds X.K fd ps [])
  (ha:DA X (e::es) gs) (hln:∀ ρ ds,gs ρ=some ds->ds.length=n) (hN:X.N[i]?=some x:=by rfl) (hv:Vis X.env.scope x:=by first | exact Or.inl rfl | exact Or.inr (Or.inl rfl) | exact Or.inr (Or.inr rfl)) (hd:(x == ("__debug__":Str))=false:=by decide)
  (hcd:(x == ("__classdict__":Str))=false:=by decide) (hst:starEach (e::es) X.env=(false,eval e X.env)::starEach es X.env:=by rfl) (hpl:(backTo pos (starEach es X.env)).any (·.1)=false:=by rfl)
  (ht:eval (.Call (.Attribute (.Name x p) m apos) (e::es) [] pos) X.env=(do
   let ov <- eval (.Name x p) X.env
   standAt apos.atName
   let(f,first) <- holding [ov] (getMethod ov m pl)
   callWith pos f first (backTo pos (starEach (e::es) X.env)) (backToKw pos (keywordEach [] X.env))):=by rfl):
  XE k τ (.Call (.Attribute (.Name x p) m apos) (e::es) [] pos) (zAp j G gs):=zAE (zCX (E:=E0) (zCd hN hv hd hcd) c hm F hr hb .nil zAV ha hst hpl ht) fun σ H Q zz=>by
 obtain⟨F,H₀,ρ,Ω,os,d,Ω',S,q,c⟩:=zz
 obtain⟨xs,e1,q⟩:=bnd q
 obtain⟨b,e2,q⟩:=bnd q
 obtain⟨r,e3,q⟩:=bnd q
 cases q
 obtain⟨o,hj,at0⟩:=zCV S.o.at_ e2
 obtain⟨dx,fs,hp,hfs⟩:=k.ins at0
 refine⟨_,S.hd i j mm o hj,o.1,dx,fs,rfl,hp,zEh (by rw [hfs];exact hf),F,H₀,ρ,xs,S.S,e1,fun F1 H1 vs E1 R1=>?_⟩
 show spO k (n+1) G (.ref o.1::(vs++[])) H1 Q E0
 rw [Q8]
 have S1:=S.ext E1
 obtain⟨b1,e4,at1⟩:=zEo S1.o.at_ hj
 rw [e2]at e4;cases e4
 refine⟨F1,o.1,b,o.2,none::xs.map some,r.1,r.2,by rw [Qw,Ql,hln ρ xs e1],S1.S.fz,at1,.cons rfl (zH1 R1),e3,fun F' H' v φ' kp sb at' R'=>?_⟩
 obtain⟨S2,K2⟩:=S1.turn hj kp sb at'
 exact c F' H' v _ ((zAv.ext S.S.fz E1).trans K2) S2 R'
theorem zAA{i j kk:Nat}{f:Addr}{fd:FuncData}{ps:List Str}{x m:Str}{apos:Pos}{pl:Sem Bool}{G:GM B}(mm:(i,j)∈τ)(c:Cls X.K k.C)(hm:Meth X.K k.C m f)(hf:k.fn.contains m=false)(F:FnOk X.prog X.w X.K X.mg X.base CX0 kk f fd ps (spO k 1 G))(hr:Room kk X.A)(hb:Binds X.K fd ps [])
  (hN:X.N[i]?=some x:=by rfl) (hv:Vis X.env.scope x:=by first | exact Or.inl rfl | exact Or.inr (Or.inl rfl) | exact Or.inr (Or.inr rfl)) (hd:(x == ("__debug__":Str))=false:=by decide)
  (hcd:(x == ("__classdict__":Str))=false:=by decide)
  (ht:eval (.Call (.Attribute (.Name x p) m apos) [] [] pos) X.env=(do
   let ov <- eval (.Name x p) X.env
   standAt apos.atName
   let(f,first) <- holding [ov] (getMethod ov m pl)
   callWith pos f first (backTo pos (starEach [] X.env)) (backToKw pos (keywordEach [] X.env))):=by rfl):
  XE k τ (.Call (.Attribute (.Name x p) m apos) [] [] pos) (zAp j G eNil):=zAE (zJX (E:=E0) (zCd hN hv hd hcd) c hm F hr hb .nil zAV ht) fun σ H Q zz=>by
 obtain⟨F,H₀,ρ,Ω,os,d,Ω',S,q,c⟩:=zz
 obtain⟨xs,e1,q⟩:=bnd q
 cases e1
 obtain⟨b,e2,q⟩:=bnd q
 obtain⟨r,e3,q⟩:=bnd q
 cases q
 obtain⟨o,hj,at0⟩:=zCV S.o.at_ e2
 obtain⟨dx,fs,hp,hfs⟩:=k.ins at0
 refine⟨_,S.hd i j mm o hj,o.1,dx,fs,rfl,hp,zEh (by rw [hfs];exact hf),?_⟩
 show spO k 1 G [.ref o.1] H Q E0
 refine⟨F,o.1,b,o.2,[none],r.1,r.2,rfl,S.S.fz,at0,.cons rfl .nil,e3,fun F' H' v φ' kp sb at' R'=>?_⟩
 obtain⟨S2,K2⟩:=S.turn hj kp sb at'
 exact c F' H' v _ K2 S2 R'
end
end OB
namespace OB
open PySem PySem.Spec PyProof.Rows L2 DL
inductive OutX(B:Type) where
 | nx (ρ:Rho) (Ω:List B)
 | rt (d:D) (Ω:List B)
abbrev GS(B:Type):=Rho->List B->Option (OutX B)
section
variable {X:Cx}{B:Type}(k:Kind X.K B)(τ:List (Nat × Nat))
def OxOk(os₀:List Oa)(F₀:Addr->Prop)(H₀:Hp)(F:Addr->Prop)(H:Hp)(W:Ends):OutX B->Prop
 | .nx ρ Ω=>∀ F' H' σ os',zAv X.K os₀ os' F₀ F' H₀ H'->Stay X.K F F' H H'->SO k τ F' H' H₀ σ ρ Ω os'->W.nx σ H'
 | .rt d Ω=>∀ F' H' v os',zAv X.K os₀ os' F₀ F' H₀ H'->Os k F' H' Ω os'->Rep X.K F' H' d v->W.rt v H'
inductive TSX(g:GS B)(W:Ends)(σ:L2.St)(H:Hp):Prop
 | mk (os₀:List Oa) (F₀:Addr->Prop) (H₀:Hp) (F:Addr->Prop) (ρ:Rho) (Ω:List B) (os:List Oa) (o:OutX B) (K0:zAv X.K os₀ os F₀ F H₀ H) (S:SO k τ F H H₀ σ ρ Ω os) (q:g ρ Ω=some o) (c:OxOk k τ os₀ F₀ H₀ F H W o):TSX g W σ H
def XS(st:Stmt)(g:GS B):Prop:=PS X st (TSX k τ g)
def XSs(sts:List Stmt)(g:GS B):Prop:=PSs X sts (TSX k τ g)
variable {k τ}
theorem OxOk.from{os₀:List Oa}{F₀ F F':Addr->Prop}{H₀ H H':Hp}{W:Ends}{o:OutX B}(T:Stay X.K F F' H H')(c:OxOk k τ os₀ F₀ H₀ F H W o):OxOk k τ os₀ F₀ H₀ F' H' W o:=by
 cases o with
 | nx ρ Ω=>exact fun F2 H2 σ os2 K2 T2 S2=>c F2 H2 σ os2 K2 (T.trans T2) S2
 | rt d Ω=>exact c
end
section
variable {B:Type}
def zBW:GS B:=fun ρ Ω=>some (.nx ρ Ω)
def ySeq(g1 g2:GS B):GS B:=fun ρ Ω=>(g1 ρ Ω).bind fun o=>match o with
 | .nx ρ' Ω'=>g2 ρ' Ω'
 | o=>some o
def ySet(i:Nat)(g:GX B D):GS B:=fun ρ Ω=>(g ρ Ω).bind fun x=>some (.nx (ρ.set i (.dat x.1)) x.2)
def yOwn(i:Nat)(g:GX B (List D)):GS B:=fun ρ Ω=>(g ρ Ω).bind fun x=>if x.1.length<=1000 then some (.nx (ρ.set i (.own x.1)) x.2)else none
def yApp(i:Nat)(g:GX B D):GS B:=fun ρ Ω=>match ρ[i]? with
 | some (.own ds)=>(g ρ Ω).bind fun x=>if ds.length<1000 then some (.nx (ρ.set i (.own (ds++[x.1]))) x.2)else none
 | _=>none
def zBe(g:GX B D):GS B:=fun ρ Ω=>(g ρ Ω).bind fun x=>some (.nx ρ x.2)
def yRet(g:GX B D):GS B:=fun ρ Ω=>(g ρ Ω).bind fun x=>some (.rt x.1 x.2)
def yIf(t:GX B Bool)(g1 g2:GS B):GS B:=fun ρ Ω=>(t ρ Ω).bind fun x=>if x.1=true then g1 ρ x.2 else g2 ρ x.2
def yFrz(i:Nat)(g:GS B):GS B:=fun ρ Ω=>g (zIK i ρ) Ω
def zDJ(i:Nat)(g:GS B):List D->GS B
 | [],ρ,Ω=>some (.nx ρ Ω)
 | d::ds,ρ,Ω=>(g (ρ.set i (.dat d)) Ω).bind fun o=>match o with
  | .nx ρ' Ω'=>zDJ i g ds ρ' Ω'
  | o=>some o
def yFor(gi:Rho->Option (List D))(i:Nat)(g:GS B):GS B:=fun ρ Ω=>(gi ρ).bind fun xs=>zDJ i g xs ρ Ω
end
theorem frzO{K:PySem.W.Frag}{F:Addr->Prop}{H H₀:Hp}{σ:L2.St}{ρ:List Sl}(S:StOk K F H H₀ σ ρ){i:Nat}{ds:List D}(hi:ρ[i]?=some (.own ds)):
  ∃ a,σ[i]?=some (some (.ref a))/\H₀ a=none/\StOk K (fun b=>F b ∨ b=a) H H₀ σ (ρ.set i (.dat (.list ds))):=by
 obtain⟨a,vs,q1,q2,nf,h0,r⟩:=S.own hi
 have T:Stay K F (fun b=>F b ∨ b=a) H H:=⟨fun _ h=>.inl h,fun _ _ h=>h,fun _ _ _ h=>h,fun _ _ _ h=>h⟩
 have hl:i<ρ.length:=(Qc.mp hi).1
 refine⟨a,q1,h0,by simp [S.len],fun j s h=>?_,fun j k b ds' es hjk h1 h2 h3=>?_,fun b f=>f.elim (S.fz b) fun z=>by subst z;rw [q2];simp⟩
 ·by_cases hij:i=j
  ·subst hij
   rw [Qs hl]at h
   cases h
   exact⟨_,q1,.ref a,rfl,.lst (.inl ⟨.inr rfl,.inl q2⟩) (r.stay T)⟩
  ·rw [Qk hij]at h
   obtain⟨o,q,w⟩:=S.sl j s h
   refine⟨o,q,?_⟩
   cases s with
   | no=>trivial
   | ownM kvs=>
    obtain⟨b,es',ep,q',m⟩:=w
    refine⟨b,es',ep,q',m.to T fun c φ hb nf'=>⟨hb,fun f=>?_⟩⟩
    rcases f with f | f
    ·exact nf' f
    ·subst f;rw [hb]at q2;cases q2
   | ownD kvs=>
    obtain⟨b,es',ep,q',ha,nf',h0',n,l,r'⟩:=w
    refine⟨b,es',ep,q',ha,fun f=>?_,h0',n,l,r'.stay T⟩
    rcases f with f | f
    ·exact nf' f
    ·subst f;rw [ha]at q2;cases q2
   | dat d=>obtain⟨v,q',r'⟩:=w;exact⟨v,q',r'.stay T⟩
   | own ds'=>
    obtain⟨b,ws,q',ha,nf',h0',r'⟩:=w
    refine⟨b,ws,q',ha,fun f=>?_,h0',r'.stay T⟩
    rcases f with f | f
    ·exact nf' f
    ·subst f
     exact S.sep i j b ds ds' hij hi h q1 (by rw [q,q'])
 ·have nj:i≠j:=by intro e;subst e;rw [Qs hl]at h1;cases h1
  have nk:i≠k:=by intro e;subst e;rw [Qs hl]at h2;cases h2
  rw [Qk nj]at h1
  rw [Qk nk]at h2
  exact S.sep j k b ds' es hjk h1 h2 h3
theorem zJO{σ:L2.St}{ρ:Rho}{i:Nat}{o:Option V}{s:Sl}(hs:∀ ds,s≠.own ds)(hs':∀ ds,s≠.ownD ds){a:Addr}(h:Own (σ.set i o) (ρ.set i s) a):Own σ ρ a:=by
 rcases h with⟨j,ds,q1,q2⟩ | ⟨j,ds,q1,q2⟩
 ·by_cases z:i=j
  ·subst z
   rw [Yq]at q1
   rw [if_pos rfl]at q1
   split at q1
   ·exact absurd (Qy q1) (hs ds)
   ·cases q1
  ·rw [Qk z]at q1 q2
   exact .inl ⟨j,ds,q1,q2⟩
 ·by_cases z:i=j
  ·subst z
   rw [Yq]at q1
   rw [if_pos rfl]at q1
   split at q1
   ·exact absurd (Qy q1) (hs' ds)
   ·cases q1
  ·rw [Qk z]at q1 q2
   exact .inr ⟨j,ds,q1,q2⟩
theorem zEk{ρ:Rho}{i:Nat}{s:Sl}(hs:∀ kvs,s≠.ownM kvs)(h:∀(i:Nat) (kvs:List (List Int × List D)),ρ[i]?≠some (.ownM kvs)):∀(j:Nat) (kvs:List (List Int × List D)),(ρ.set i s)[j]?≠some (.ownM kvs):=fun j kvs q=>by
 rw [Yq]at q
 split at q
 ·split at q
  ·exact hs kvs (Qy q)
  ·cases q
 ·exact h j kvs q
section
variable {K:PySem.W.Frag}{B:Type}{k:Kind K B}{τ:List (Nat × Nat)}{F:Addr->Prop}{H H₀:Hp}{σ:L2.St}{ρ:Rho}{Ω:List B}{os:List Oa}
theorem SO.put(S:SO k τ F H H₀ σ ρ Ω os){i:Nat}{d:D}{v:V}(hi:∀ ij,ij∈τ->ij.1≠i)(R:Rep K F H d v):SO k τ F H H₀ (σ.set i (some v)) (ρ.set i (.dat d)) Ω os:=
 ⟨S.S.put R,S.o,fun a h=>S.sep a (zJO (by intro _ z;cases z) (by intro _ z;cases z) h),zEk (by intro _ z;cases z) S.nm,fun i' j m o ho=>by
  rw [Qk (Ne.symm (hi _ m))]
  exact S.hd i' j m o ho,S.lo⟩
theorem SO.putOwn(S:SO k τ F H H₀ σ ρ Ω os){i:Nat}{ds:List D}{vs:List V}{p:Addr}(hi:∀ ij,ij∈τ->ij.1≠i)(hp:H p=none)(r:Reps K F H ds vs):SO k τ F (upd H p (.lst vs)) H₀ (σ.set i (some (.ref p))) (ρ.set i (.own ds)) Ω os:=by
 have S1:=S.ext (Ext.fresh (o:=.lst vs) hp)
 refine⟨S.S.putOwn hp (S.lo p hp) r,S1.o,fun a h f=>?_,zEk (by intro _ z;cases z) S.nm,fun i' j m o ho=>?_,S1.lo⟩
 ·rcases h with⟨j,es,q1,q2⟩ | ⟨j,es,q1,q2⟩
  ·by_cases z:i=j
   ·subst z
    have il:i<ρ.length:=by
     have:=(Qc.mp q1).1
     rwa [List.length_set]at this
    rw [Qs (by rw [S.S.len];exact il)]at q2
    cases q2
    exact(S.o.live f).1 hp
   ·rw [Qk z]at q1 q2
    exact S.sep a (.inl ⟨j,es,q1,q2⟩) f
  ·by_cases z:i=j
   ·subst z
    rw [Yq,if_pos rfl]at q1
    split at q1 <;> cases q1
   ·rw [Qk z]at q1 q2
    exact S.sep a (.inr ⟨j,es,q1,q2⟩) f
 ·rw [Qk (Ne.symm (hi _ m))]
  exact S.hd i' j m o ho
theorem SO.app(S:SO k τ F H H₀ σ ρ Ω os){i:Nat}{ds es:List D}{vs us:List V}{p:Addr}(hi:ρ[i]?=some (.own ds))(hs:σ[i]?=some (some (.ref p)))(hp:H p=some (.lst vs))(r:Reps K F H es us):
  SO k τ F (upd H p (.lst us)) H₀ σ (ρ.set i (.own es)) Ω os/\Stay K F F H (upd H p (.lst us)):=by
 have ow:Own σ ρ p:=.inl ⟨i,ds,hi,hs⟩
 have lv:=zG9 S.S ow
 obtain⟨S2,T⟩:=S.S.turn hi hs hp lv.2.2 r
 have np:∀ a,foot os a->a≠p:=fun a f z=>S.sep p ow (z ▸ f)
 refine⟨⟨S2,S.o.keep T (fun a u f h=>by rw [zAf (np a f)];exact h) (fun a f=>(S.o.live f).2),fun a h=>?_,zEk (by intro _ z;cases z) S.nm,S.hd,fun a h=>S.lo a ?_⟩,T⟩
 ·rcases h with⟨j,es',q1,q2⟩ | ⟨j,es',q1,q2⟩
  ·by_cases z:i=j
   ·subst z
    rw [hs]at q2
    cases q2
    exact S.sep p ow
   ·rw [Qk z]at q1
    exact S.sep a (.inl ⟨j,es',q1,q2⟩)
  ·by_cases z:i=j
   ·subst z
    rw [Yq,if_pos rfl]at q1
    split at q1 <;> cases q1
   ·rw [Qk z]at q1
    exact S.sep a (.inr ⟨j,es',q1,q2⟩)
 ·by_cases z:a=p
  ·subst z;rw [zAs]at h;cases h
  ·rwa [zAf z]at h
end
section
variable {X:Cx}{B:Type}{k:Kind X.K B}{τ:List (Nat × Nat)}{a b c e iter:Expr}{es:List Expr}{st:Stmt}{rest body orelse:List Stmt}{g g1 g2:GS B}{ga:GX B D}{t:GX B Bool}{gr:GX B (List D)}{pos p:Pos}
theorem zCy:XSs k τ [] (zBW (B:=B)):=zEw zHg fun W σ H zz=>by
 obtain⟨os₀,F₀,H₀,F,ρ,Ω,os,o,K0,S,q,c⟩:=zz
 cases q
 exact c F H σ os K0 (Stay.refl _ F H) S
theorem zAC(h1:XS k τ st g1)(h2:XSs k τ rest g2):XSs k τ (st::rest) (ySeq g1 g2):=zEw (zA4 h1 h2) fun W σ H zz=>by
 obtain⟨os₀,F₀,H₀,F,ρ,Ω,os,o,K0,S,q,c⟩:=zz
 obtain⟨o1,e1,q⟩:=bnd q
 refine⟨os₀,F₀,H₀,F,ρ,Ω,os,o1,K0,S,e1,?_⟩
 cases o1 with
 | nx ρ' Ω'=>exact fun F' H' σ' os' K' T' S'=>⟨os₀,F₀,H₀,F',ρ',Ω',os',o,K',S',q,c.from T'⟩
 | rt d Ω'=>cases q;exact c
theorem zAI(h1:XS k τ st g):XSs k τ [st] g:=zBc h1
theorem zCx{i:Nat}{x:Str}{pos':Pos}(hN:X.N.Nodup)(ht:∀ ij,ij∈τ->ij.1≠i)(ha:XE k τ e ga)(hi:X.N[i]?=some x:=by rfl)(hx:Loc X.env.scope x:=by first | exact Or.inl rfl | exact Or.inr rfl)(hs:swapsWith e (some (.Name x pos')) pos.line X.env=pure false:=by rfl)(hf:X.fn x=true ∨ X.env.scope.names.lookup x=some .local:=by first | exact .inl rfl | exact .inr rfl | assumption):
  XS k τ (.Assign [.Name x pos'] e pos) (ySet i ga):=ps_mono (zBw hN hi hx ha hs hf) fun W σ H zz=>by
 obtain⟨os₀,F₀,H₀,F,ρ,Ω,os,o,K0,S,q,c⟩:=zz
 obtain⟨d,e1,q⟩:=bnd q
 cases q
 exact⟨F,H₀,ρ,Ω,os,d.1,d.2,S,e1,fun F' H' v os' K' S' R'=>c F' H' _ os' (K0.trans K') K'.k.st (S'.put ht R')⟩
theorem zK4{i:Nat}{x:Str}{pos' pos'':Pos}(hN:X.N.Nodup)(ht:∀ ij,ij∈τ->ij.1≠i)(ha:XA k τ es gr)(hi:X.N[i]?=some x:=by rfl)(hx:Loc X.env.scope x:=by first | exact Or.inl rfl | exact Or.inr rfl)(hs:swapsWith (.List es pos'') (some (.Name x pos')) pos.line X.env=pure false:=by rfl)(hf:X.fn x=true ∨ X.env.scope.names.lookup x=some .local:=by first | exact .inl rfl | exact .inr rfl | assumption):
  XS k τ (.Assign [.Name x pos'] (.List es pos'') pos) (yOwn i gr):=ps_mono (zBw hN hi hx (zCW ha) hs hf) fun W σ H zz=>by
 obtain⟨os₀,F₀,H₀,F,ρ,Ω,os,o,K0,S,q,c⟩:=zz
 obtain⟨ds,e1,q⟩:=bnd q
 by_cases hl:ds.1.length<=1000
 ·rw [if_pos hl]at q
  cases q
  refine⟨F,H₀,ρ,Ω,os,ds.1,ds.2,S,e1,fun F' H' vs os' K' S' R'=>⟨zAR (by rw [<- R'.length];exact hl),fun pp hp=>?_⟩⟩
  have K2:zAv X.K os' os' F' F' H' _:=zAv.ext (os:=os') S'.S.fz (Ext.fresh (o:=.lst vs) hp)
  exact c F' _ _ os' (K0.trans (K'.trans K2)) (K'.k.st.trans K2.k.st) (S'.putOwn ht hp R')
 ·rw [if_neg hl]at q;cases q
theorem zCw(ha:XE k τ e ga)(hs:swapsWith e none pos.line X.env=pure false:=by rfl):XS k τ (.Expr e pos) (zBe ga):=ps_mono (zBI ha hs) fun W σ H zz=>by
 obtain⟨os₀,F₀,H₀,F,ρ,Ω,os,o,K0,S,q,c⟩:=zz
 obtain⟨d,e1,q⟩:=bnd q
 cases q
 exact⟨F,H₀,ρ,Ω,os,d.1,d.2,S,e1,fun F' H' v os' K' S' R'=>c F' H' σ os' (K0.trans K') K'.k.st S'⟩
theorem zBL(ha:XE k τ e ga):XS k τ (.Return (some e) pos) (yRet ga):=ps_mono (zBV ha) fun W σ H zz=>by
 obtain⟨os₀,F₀,H₀,F,ρ,Ω,os,o,K0,S,q,c⟩:=zz
 obtain⟨d,e1,q⟩:=bnd q
 cases q
 exact⟨F,H₀,ρ,Ω,os,d.1,d.2,S,e1,fun F' H' v os' K' S' R'=>c F' H' v os' (K0.trans K') S'.o R'⟩
theorem zBK(hc:XT k τ c t)(h1:XSs k τ body g1)(h2:XSs k τ orelse g2):XS k τ (.If c body orelse pos) (yIf t g1 g2):=ps_mono (zHf hc h1 h2) fun W σ H zz=>by
 obtain⟨os₀,F₀,H₀,F,ρ,Ω,os,o,K0,S,q,c⟩:=zz
 obtain⟨r,e1,q⟩:=bnd q
 obtain⟨r,Ω1⟩:=r
 refine⟨F,H₀,ρ,Ω,os,r,Ω1,S,e1,fun F' H' os' K' S'=>?_⟩
 cases r with
 | true=>simp only [if_true]at q ⊢;exact⟨os₀,F₀,H₀,F',ρ,Ω1,os',o,K0.trans K',S',q,c.from K'.k.st⟩
 | false=>simp only [Qm,if_false]at q ⊢;exact⟨os₀,F₀,H₀,F',ρ,Ω1,os',o,K0.trans K',S',q,c.from K'.k.st⟩
theorem zK3{i:Nat}{x:Str}{apos pos':Pos}(ha:XE k τ e ga)(hN:X.N[i]?=some x:=by rfl)(hv:Vis X.env.scope x:=by first | exact Or.inl rfl | exact Or.inr (Or.inl rfl) | exact Or.inr (Or.inr rfl))(hd:(x == ("__debug__":Str))=false:=by decide)
  (hcd:(x == ("__classdict__":Str))=false:=by decide) (hse:starEach [e] X.env=(false,eval e X.env)::starEach [] X.env:=by rfl)
  (hbase:attributeBase (.Name x p) "append" X.env (eval (.Name x p) X.env)=eval (.Name x p) X.env:=by rfl)
  (hfew:((backTo pos' (starEach [e] X.env)).all (fun x => !x.1) && (backToKw pos' (keywordEach [] X.env)).all (fun x=>x.1.isSome)
   && decide ([e].length+([]:List Keyword).length+(if([]:List Keyword).isEmpty then 0 else 1)<30))=true:=by rfl)
  (hline:(apos.endLine == pos'.line)=true:=by rfl) (hplain:(backTo pos' (starEach [] X.env)).any (·.1)=false:=by rfl) (hsw:swapsWith (.Call (.Attribute (.Name x p) "append" apos) [e] [] pos') none pos.line X.env=pure false:=by rfl):
  XS k τ (.Expr (.Call (.Attribute (.Name x p) "append" apos) [e] [] pos') pos) (yApp i ga):=
 ps_mono (zBI (zEq PySem.F.plainAttrs_list PySem.F.slot_list_append PySem.F.type_list_append zEj (zCd hN hv hd hcd) (zAl ha zAw hse) hbase hfew hline hse hplain) hsw) fun W σ H zz=>by
 obtain⟨os₀,F₀,H₀,F,ρ,Ω,os,o,K0,S,q,c⟩:=zz
 unfold yApp at q
 split at q
 ·rename_i ds e0
  obtain⟨d,e1,q⟩:=bnd q
  by_cases hl:ds.length<1000
  ·rw [if_pos hl]at q
   cases q
   obtain⟨l,vs,q1,q2,q3,q4,q5⟩:=S.S.own e0
   refine⟨_,q1,.inl ⟨rfl,_,SqL.of q2⟩,F,H₀,ρ,Ω,os,d.1,d.2,S,e1,fun F' H' v os' K' S' R'=>?_⟩
   obtain⟨l',vs',g1,g2,g3,g4,g5⟩:=S'.S.own e0
   rw [q1]at g1;cases g1
   refine⟨l,vs',v,rfl,rfl,g2,zDB (by rw [<- g5.length];lia),?_⟩
   obtain⟨S2,T⟩:=S'.app e0 q1 g2 (g5.append (.cons R' .nil))
   have K1:=K0.trans K'
   have nz:∀ a,a≠l->upd H' l (.lst (vs'++[v])) a=H' a:=fun a h=>zAf h
   refine c F' _ σ os' ⟨⟨K1.k.st.trans T,fun a u h n=>?_,K1.k.new,S2.S.fz,fun a h=>?_⟩,K1.ft,K1.ad⟩ (K'.k.st.trans T) S2
   ·have:a≠l:=fun z=>by rw [z,q4]at h;cases h
    rw [zAf this]
    exact K1.k.out a u h n
   ·by_cases z:a=l
    ·subst z;rw [zAs]at h;cases h
    ·rw [zAf z]at h;exact K1.k.lv a h
  ·rw [if_neg hl]at q;cases q
 ·cases q
theorem zK6(i:Nat)(h:XSs k τ rest g):XSs k τ rest (yFrz i g):=zEw h fun W σ H zz=>by
 obtain⟨os₀,F₀,H₀,F,ρ,Ω,os,o,K0,S,q,c⟩:=zz
 unfold yFrz zIK at q
 split at q
 ·rename_i ds e1
  obtain⟨a,q1,h0,S'⟩:=frzO S.S e1
  have ea:∀ x,(F x ∨ x=a)->H x≠none:=S'.fz
  have na:¬ foot os a:=S.sep a (.inl ⟨i,ds,e1,q1⟩)
  have T:Stay X.K F (fun b=>F b ∨ b=a) H H:=⟨fun _ f=>.inl f,fun _ _ f=>f,fun _ _ _ f=>f,fun _ _ _ f=>f⟩
  refine⟨os₀,F₀,H₀,_,_,Ω,os,o,⟨⟨K0.k.st.trans T,K0.k.out,fun x f=>f.elim (K0.k.new x) fun z=>.inr (z ▸ h0),ea,K0.k.lv⟩,K0.ft,K0.ad⟩,⟨S',S.o.keep T (fun _ _ _ h=>h) (fun x f z=>z.elim (S.o.live f).2 fun z=>na (z ▸ f)),fun x hx=>S.sep x ?_,zEk (by intro _ z;cases z) S.nm,S.hd,S.lo⟩,q,c.from T⟩
  rcases hx with⟨j,es',q1',q2'⟩ | ⟨j,es',q1',q2'⟩
  ·by_cases z:i=j
   ·subst z
    rw [Yq,if_pos rfl]at q1'
    split at q1' <;> cases q1'
   ·rw [Qk z]at q1'
    exact .inl ⟨j,es',q1',q2'⟩
  ·by_cases z:i=j
   ·subst z
    rw [Yq,if_pos rfl]at q1'
    split at q1' <;> cases q1'
   ·rw [Qk z]at q1'
    exact .inr ⟨j,es',q1',q2'⟩
 ·exact⟨os₀,F₀,H₀,F,ρ,Ω,os,o,K0,S,q,c⟩
end
end OB
namespace OB
open PySem PySem.Spec PyProof.Rows L2 DL
structure FX{K:PySem.W.Frag}{B:Type}(k:Kind K B)(τ:List (Nat × Nat))(i:Nat)(g:GS B)(xs:List D)(o:OutX B)(os₀:List Oa)(F₀ F F1:Addr->Prop)(H₀ H H1:Hp)(n:Nat)(σ2:L2.St)(H2:Hp)(F2:Addr->Prop)(ρ2:Rho)(Ω2:List B)(os2:List Oa):Prop where
 K0:zAv K os₀ os2 F₀ F2 H₀ H2
 T0:Stay K F F2 H H2
 T1:Stay K F1 F2 H1 H2
 S:SO k τ F2 H2 H₀ σ2 ρ2 Ω2 os2
 q:zDJ i g (xs.drop n) ρ2 Ω2=some o
section
variable {X:Cx}{B:Type}{k:Kind X.K B}{τ:List (Nat × Nat)}{iter e:Expr}{es:List Expr}{body:List Stmt}{g:GS B}{pos p tp pos':Pos}
theorem zC2{gi:Rho->Option (List D)}{i:Nat}{x:Str}(hp:PassesOwn (model X.prog X.w) X.A X.env X.xe)(hc:X.calm=true)(hN:X.N.Nodup)(ht:∀ ij,ij∈τ->ij.1≠i)(hi:DI X (.Name x tp) iter gi)(hb:XSs k τ body g)
  (hix:X.N[i]?=some x:=by rfl) (hx:Loc X.env.scope x:=by first | exact Or.inl rfl | exact Or.inr rfl) (hf:X.fn x=true ∨ X.env.scope.names.lookup x=some .local:=by first | exact .inl rfl | exact .inr rfl | assumption)
  (hs:∀ x,foldedSetIterable iter X.env x=pure x:=by intro _;rfl):XS k τ (.For (.Name x tp) iter body [] pos) (yFor gi i g):=
 ps_mono (zJ5 hp hc hi (zJ0 hN hix hx hf) hb hs) fun W σ H zz=>by
  obtain⟨os₀,F₀,H₀,F,ρ,Ω,os,o,K0,S,q,c⟩:=zz
  obtain⟨xs,e1,q⟩:=bnd q
  refine⟨F,H₀,ρ,xs,S.S,e1,fun F1 H1 J E1 I1=>?_⟩
  refine⟨fun n m σ2 H2=>m=xs.length-n/\n<=xs.length/\∃ F2 ρ2 Ω2 os2,FX k τ i g xs o os₀ F₀ F F1 H₀ H H1 n σ2 H2 F2 ρ2 Ω2 os2,
   ⟨xs.length,rfl,QN _,F1,ρ,Ω,os,K0.trans (zAv.ext S.S.fz E1),E1.stay,Stay.refl _ _ _,S.ext E1,q⟩,?_⟩
  rintro n m σ2 H2 ⟨rfl,hi2,F2,ρ2,Ω2,os2,K2,T0,T1,S2,q2⟩
  obtain⟨it1,it2⟩:=I1 F2 H2 T1 S2.S.fz n
  by_cases hlt:n<xs.length
  ·right
   have hget:xs[n]?=some xs[n]:=by simp [hlt]
   obtain⟨go,yld⟩:=it1 _ hget
   rw [Yb hlt]at q2
   obtain⟨o3,e4,q2⟩:=bnd q2
   refine⟨go,fun σ4 H4=>∃ F4 ρ4 Ω4 os4,FX k τ i g xs o os₀ F₀ F F1 H₀ H H1 (n+1) σ4 H4 F4 ρ4 Ω4 os4,fun σ4 H4 h=>⟨xs.length-(n+1),by lia,rfl,hlt,h⟩,fun x H3 y=>?_⟩
   obtain⟨F3,E3,R3⟩:=yld x H3 y
   have TT0:=T0.trans E3.stay
   have TT1:=T1.trans E3.stay
   refine⟨os₀,F₀,H₀,F3,ρ2.set i (.dat xs[n]),Ω2,os2,o3,K2.trans (zAv.ext S2.S.fz E3),(S2.ext E3).put ht R3,e4,?_⟩
   cases o3 with
   | nx ρ6 Ω6=>exact fun F6 H6 σ6 os6 K6 T6 S6=>⟨F6,ρ6,Ω6,os6,K6,TT0.trans T6,TT1.trans T6,S6,q2⟩
   | rt d Ω6=>cases q2;exact c
  ·left
   have hge:xs.length<=n:=Yz hlt
   refine⟨it2 hge,?_⟩
   rw [Y8 hge]at q2
   cases q2
   exact c F2 H2 σ2 os2 K2 T0 S2
end
theorem putNo{K:PySem.W.Frag}{F:Addr->Prop}{H H₀:Hp}{σ:L2.St}{ρ:List Sl}(S:StOk K F H H₀ σ ρ){i:Nat}{o:Option V}:StOk K F H H₀ (σ.set i o) (ρ.set i .no):=by
 refine⟨by simp [S.len],fun j s h=>?_,fun j k a ds es hjk h1 h2 h3=>?_,S.fz⟩
 ·by_cases hij:i=j
  ·subst hij
   have hl:i<ρ.length:=by
    have:=Qc.mp h
    simpa using this.1
   rw [Qs hl]at h
   cases h
   exact⟨o,by rw [Qs (by rw [S.len];exact hl)],trivial⟩
  ·rw [Qk hij]at h
   obtain⟨o',q,w⟩:=S.sl j s h
   exact⟨o',by rw [Qk hij];exact q,w⟩
 ·have nj:i≠j:=by
   intro e;subst e
   rw [Yq,if_pos rfl]at h1
   split at h1 <;> cases h1
  have nk:i≠k:=by
   intro e;subst e
   rw [Yq,if_pos rfl]at h2
   split at h2 <;> cases h2
  rw [Qk nj]at h1 h3
  rw [Qk nk]at h2 ⊢
  exact S.sep j k a ds es hjk h1 h2 h3
theorem zEp{α β:Type}{R:α->β->Prop}:∀{l:List α}{m:List β},Paired R l m->l.length=m.length
 | _,_,.nil=>rfl
 | _,_,.cons _ t=>by rw [Qw,Qw,zEp t]
section
variable {K:PySem.W.Frag}{B:Type}{k:Kind K B}{τ:List (Nat × Nat)}{F F':Addr->Prop}{H H' H₀:Hp}{σ:L2.St}{ρ:Rho}{Ω:List B}{os:List Oa}
theorem SO.more(S:SO k τ F H H₀ σ ρ Ω os){i:Nat}{x:Addr}{b:B}{φ:Addr->Prop}(hi:∀ ij,ij∈τ->(ij.1=i ↔ ij.2=Ω.length))(il:i<ρ.length)(q:Keep K (fun _=>False) F F' H H')(at':k.At F' H' x b φ)(fr:∀ a,φ a->H a=none):
  SO k τ F' H' H₀ (σ.set i (some (.ref x))) (ρ.set i .no) (Ω++[b]) (os++[(x,φ)])/\zAv K os (os++[(x,φ)]) F F' H H':=by
 have ln:=zEp S.o.at_
 have ft:∀ a,foot (os++[(x,φ)]) a->foot os a ∨ H a=none:=fun a zz=>by
  obtain⟨o,m,h⟩:=zz
  rcases QD.mp m with m | m
  ·exact .inl ⟨o,m,h⟩
  ·rw [QC.mp m]at h
   exact .inr (fr a h)
 have S1:StOk K F' H' H₀ σ ρ:=StOk.keep S.S (fun a _ f=>f) S.nm q
 have o1:Os k F' H' Ω os:=S.o.keep q.st (fun a u _ h=>q.out a u h id) (fun a f f'=>by
  rcases q.new a f' with z | z
  ·exact(S.o.live f).2 z
  ·exact(S.o.live f).1 z)
 have ix:∀(j:Nat) (u:Oa),(os++[(x,φ)])[j]?=some u->os[j]?=some u ∨ j=os.length/\u=(x,φ):=fun j u h=>by
  by_cases z:j<os.length
  ·rw [QS z]at h
   exact .inl h
  ·rw [QX (Yz z)]at h
   have:j-os.length=0:=by
    cases w:j-os.length with
    | zero=>rfl
    | succ n=>rw [w]at h;simp at h
   rw [this]at h
   exact .inr ⟨by lia,(Qy h).symm⟩
 refine⟨⟨putNo S1,⟨o1.at_.snoc at',fun i' j u v n hu hv a ha hb=>?_⟩,fun a h f=>?_,zEk (by intro _ z;cases z) S.nm,fun i' j m u hu=>?_,fun a h=>S.lo a (q.lv a h)⟩,⟨q.st,fun a u h n=>q.out a u h id,q.new,q.fz,q.lv⟩,ft,fun j u h=>⟨u.2,by rw [QS (Qc.mp h).1];exact h⟩⟩
 ·rcases ix i' u hu with hu | ⟨hu,rfl⟩
  ·rcases ix j v hv with hv | ⟨hv,rfl⟩
   ·exact S.o.dj i' j u v n hu hv a ha hb
   ·exact(S.o.live (zBF hu ha)).1 (fr a hb)
  ·rcases ix j v hv with hv | ⟨hv,rfl⟩
   ·exact(S.o.live (zBF hv hb)).1 (fr a ha)
   ·lia
 ·have h:=zJO (by intro _ z;cases z) (by intro _ z;cases z) h
  rcases ft a f with f | f
  ·exact S.sep a h f
  ·exact(zG9 S.S h).1 f
 ·rcases ix j u hu with hu | ⟨hj,rfl⟩
  ·have:i≠i':=fun z=>by
    have:=((hi _ m).mp z.symm)
    have:=(Qc.mp hu).1
    lia
   rw [Qk this]
   exact S.hd i' j m u hu
  ·have z:i'=i:=(hi _ m).mpr (by rw [ln];exact hj)
   rw [z,Qs (by rw [S.S.len];exact il)]
end
section
variable {B:Type}
def yNew(i n:Nat)(G:List D->Option B)(gr:Rho->Option (List D)):GS B:=fun ρ Ω=>(gr ρ).bind fun ds=>(G ds).bind fun b=>if Ω.length=n/\i<ρ.length then some (.nx (ρ.set i .no) (Ω++[b]))else none
def zHJ(i j n:Nat)(G:B->Option B):GS B:=fun ρ Ω=>(Ω[j]?).bind fun b=>(G b).bind fun b2=>if Ω.length=n/\i<ρ.length then some (.nx (ρ.set i .no) (Ω++[b2]))else none
end
def spI{K:PySem.W.Frag}{B:Type}(k:Kind K B)(n:Nat)(G:List D->Option B):Sp:=fun vs H Q _=>∃(F:Addr->Prop) (x dx:Addr) (us:List V) (ds:List D) (b:B),vs=.ref x::us/\ds.length=n/\(∀ a,F a->H a≠none)/\H x=some (.ins k.C dx [])/\¬ F x/\Reps K F H ds us/\G ds=some b /\
 ∀ F' H' φ',Keep K (fun a=>a=x) F F' H H'->(∀ a,φ' a->a=x ∨ H a=none)->k.At F' H' x b φ'->Q .non H'
def spT{K:PySem.W.Frag}{B:Type}(k:Kind K B)(G:B->Option B):Sp:=fun vs H Q _=>∃(F:Addr->Prop) (p:Addr) (b:B) (φ:Addr->Prop) (b2:B),vs=[.ref p]/\(∀ a,F a->H a≠none)/\k.At F H p b φ/\G b=some b2 /\
 ∀ F' H' q φ2,Keep K (fun _=>False) F F' H H'->(∀ a,φ2 a->H a=none)->k.At F' H' q b2 φ2->Q (.ref q) H'
section
variable {X:Cx}{B:Type}{k:Kind X.K B}{τ:List (Nat × Nat)}{e:Expr}{es:List Expr}{pos p tp pos':Pos}
theorem zPS{i n m kk:Nat}{f:Addr}{fd:FuncData}{ps:List Str}{x y:Str}{G:List D->Option B}{gr:Rho->Option (List D)}(hN:X.N.Nodup)(ht:∀ ij,ij∈τ->(ij.1=i ↔ ij.2=n))(M:Mk X.K k.C f)(F:FnOk X.prog X.w X.K X.mg X.base CX0 kk f fd ps (spI k m G))(hr:Room (kk+1) X.A)(hg:Gl X y)(hm:X.mg y=some (.ref k.C))(hb:Binds X.K fd ps [])
  (ha:DA X (e::es) gr) (hln:∀ ρ ds,gr ρ=some ds->ds.length=m) (hdb:(y == ("__debug__":Str))=false:=by decide) (he:starEach (e::es) X.env=(false,eval e X.env)::starEach es X.env:=by rfl) (hpl:(backTo pos' (starEach es X.env)).any (·.1)=false:=by rfl)
  (hi:X.N[i]?=some x:=by rfl) (hx:Loc X.env.scope x:=by first | exact Or.inl rfl | exact Or.inr rfl) (hs:swapsWith (.Call (.Name y p) (e::es) [] pos') (some (.Name x tp)) pos.line X.env=pure false:=by rfl) (hf:X.fn x=true ∨ X.env.scope.names.lookup x=some .local:=by first | exact .inl rfl | exact .inr rfl | assumption):
  XS k τ (.Assign [.Name x tp] (.Call (.Name y p) (e::es) [] pos') pos) (yNew i n G gr):=
 ps_mono (zBw hN hi hx (zJW (E:=E0) M F hr hg hm hb .nil zAV ha hdb he hpl) hs hf) fun W σ H zz=>by
  obtain⟨os₀,F₀,H₀,F,ρ,Ω,os,o,K0,S,q,c⟩:=zz
  obtain⟨ds,e1,q⟩:=bnd q
  obtain⟨b,e2,q⟩:=bnd q
  by_cases hl:Ω.length=n/\i<ρ.length
  ·rw [if_pos hl]at q
   cases q
   refine⟨F,H₀,ρ,ds,S.S,e1,fun F1 H1 us E1 R1=>fun z dz hz hdz ne=>?_⟩
   show spI k m G (.ref z::(us++[])) _ _ E0
   rw [Q8]
   have S1:=S.ext E1
   have Ea:Ext F1 F1 H1 (upd H1 dz (.own z)):=Ext.fresh hdz
   have hz2:upd H1 dz (.own z) z=none:=by rw [zAf ne.symm];exact hz
   have Eb:Ext F1 F1 (upd H1 dz (.own z)) (upd (upd H1 dz (.own z)) z (.ins k.C dz [])):=Ext.fresh hz2
   have Ec:=Ea.trans Eb
   refine⟨F1,z,dz,us,ds,b,rfl,hln ρ ds e1,Ec.fz S1.S.fz,zAs,fun f=>S1.S.fz z f hz,R1.stay Ec.stay,e2,fun F' H' φ' kp fr at'=>⟨rfl,?_⟩⟩
   have q1:Keep X.K (fun _=>False) F1 F' H1 H':=⟨Ec.stay.trans kp.st,fun a u h _=>kp.out a u (Ec.same a u h) (fun w=>by rw [w,hz]at h;cases h),fun a f=>(kp.new a f).imp_right fun w=>Ec.same.free w,kp.fz,fun a h=>Ec.same.free (kp.lv a h)⟩
   obtain⟨S2,K2⟩:=S1.more (i:=i) (by rw [hl.1];exact ht) hl.2 q1 at' fun a h=>by
    rcases fr a h with w | w
    ·rw [w];exact hz
    ·exact Ec.same.free w
   exact c F' H' _ _ (K0.trans ((zAv.ext S.S.fz E1).trans K2)) (E1.stay.trans K2.k.st) S2
  ·rw [if_neg hl]at q;cases q
theorem zK5{i i' j n kk:Nat}{f:Addr}{fd:FuncData}{ps:List Str}{x y m:Str}{apos:Pos}{pl:Sem Bool}{G:B->Option B}(hN:X.N.Nodup)(ht:∀ ij,ij∈τ->(ij.1=i ↔ ij.2=n))(mm:(i',j)∈τ)(cl:Cls X.K k.C)(hm:Meth X.K k.C m f)(hfn:k.fn.contains m=false)(F:FnOk X.prog X.w X.K X.mg X.base CX0 kk f fd ps (spT k G))(hr:Room kk X.A)(hb:Binds X.K fd ps [])
  (hy:X.N[i']?=some y:=by rfl) (hv:Vis X.env.scope y:=by first | exact Or.inl rfl | exact Or.inr (Or.inl rfl) | exact Or.inr (Or.inr rfl)) (hd:(y == ("__debug__":Str))=false:=by decide)
  (hcd:(y == ("__classdict__":Str))=false:=by decide)
  (hta:eval (.Call (.Attribute (.Name y p) m apos) [] [] pos') X.env=(do
   let ov <- eval (.Name y p) X.env
   standAt apos.atName
   let(f,first) <- holding [ov] (getMethod ov m pl)
   callWith pos' f first (backTo pos' (starEach [] X.env)) (backToKw pos' (keywordEach [] X.env))):=by rfl)
  (hi:X.N[i]?=some x:=by rfl) (hx:Loc X.env.scope x:=by first | exact Or.inl rfl | exact Or.inr rfl) (hs:swapsWith (.Call (.Attribute (.Name y p) m apos) [] [] pos') (some (.Name x tp)) pos.line X.env=pure false:=by rfl) (hf:X.fn x=true ∨ X.env.scope.names.lookup x=some .local:=by first | exact .inl rfl | exact .inr rfl | assumption):
  XS k τ (.Assign [.Name x tp] (.Call (.Attribute (.Name y p) m apos) [] [] pos') pos) (zHJ i j n G):=
 ps_mono (zBw hN hi hx (zJX (E:=E0) (zCd hy hv hd hcd) cl hm F hr hb .nil zAV hta) hs hf) fun W σ H zz=>by
  obtain⟨os₀,F₀,H₀,F,ρ,Ω,os,o,K0,S,q,c⟩:=zz
  obtain⟨b,e2,q⟩:=bnd q
  obtain⟨b2,e3,q⟩:=bnd q
  by_cases hl:Ω.length=n/\i<ρ.length
  ·rw [if_pos hl]at q
   cases q
   obtain⟨o,hj,at0⟩:=zCV S.o.at_ e2
   obtain⟨dx,fs,hp,hfs⟩:=k.ins at0
   refine⟨_,S.hd i' j mm o hj,o.1,dx,fs,rfl,hp,zEh (by rw [hfs];exact hfn),?_⟩
   show spT k G [.ref o.1] H (fun x H1=>zEb i x σ H1 W.nx) E0
   refine⟨F,o.1,b,o.2,b2,rfl,S.S.fz,at0,e3,fun F' H' q φ2 kp fr at'=>?_⟩
   obtain⟨S2,K2⟩:=S.more (i:=i) (by rw [hl.1];exact ht) hl.2 kp at' fr
   exact c F' H' _ _ (K0.trans K2) K2.k.st S2
  ·rw [if_neg hl]at q;cases q
end
def sOf:Option D->Sl
 | some d=>.dat d
 | none=>.no
def zBJ(n:Nat)(ds:List (Option D)):Rho:=ds.map sOf++List.replicate (n-ds.length) .no
def fnO{B:Type}(j n:Nat)(g:GS B):GM B:=fun ds b=>match ds[j]? with
 | some none=>match g (zBJ n ds) [b]with
  | some (.rt d (b'::_))=>some (d,b')
  | some (.nx _ (b'::_))=>some (.none,b')
  | _=>none
 | _=>none
def fnL{B:Type}(n:Nat)(g:GS B):List D->Option D:=fun ds=>match g (zAH n ds) []with
 | some (.rt d _)=>some d
 | some (.nx _ _)=>some .none
 | _=>none
theorem zHD{n:Nat}{ds:List (Option D)}{i:Nat}{s:Sl}(h:(zBJ n ds)[i]?=some s):(∃ d,s=.dat d) ∨ s=.no:=by
 unfold zBJ at h
 have m:=QH h
 rcases QD.mp m with m | m
 ·obtain⟨od,_,rfl⟩:=QK.mp m
  cases od with
  | none=>exact .inr rfl
  | some d=>exact .inl ⟨d,rfl⟩
 ·exact .inr (List.eq_of_mem_replicate m)
theorem zPq{K:PySem.W.Frag}{F:Addr->Prop}{H:Hp}{p:Addr}{N:List Str}{ds:List (Option D)}{vs:List V}(z:∀ a,F a->H a≠none)(r:Paired (AOk (K:=K) F H p) ds vs):StOk K F H H (L2.start N vs) (zBJ N.length ds):=by
 have hl:=zEp r
 refine⟨by simp [L2.start,zBJ,hl],fun i s h=>?_,fun i j a es es' hij h1=>?_,z⟩
 ·unfold zBJ at h
  by_cases hi:i<ds.length
  ·rw [QS (by simpa using hi),QB]at h
   cases e:ds[i]? with
   | none=>rw [e]at h;cases h
   | some od=>
    rw [e]at h;cases h
    obtain⟨v,e2,rv⟩:=zCV r e
    refine⟨some v,?_,?_⟩
    ·unfold L2.start
     rw [QS (by simpa using(by lia:i<vs.length)),QB,e2]
     rfl
    ·cases od with
     | none=>trivial
     | some d=>exact⟨v,rfl,rv⟩
  ·rw [QX (by simpa using hi),Yv]at h
   split at h
   ·rename_i hlt
    cases h
    refine⟨none,?_,trivial⟩
    unfold L2.start
    rw [QX (by simpa using(by lia:vs.length<=i)),Yv,if_pos (by simp at hlt ⊢;lia)]
   ·cases h
 ·rcases zHD h1 with⟨d,q⟩ | q <;> cases q
section
variable {P:Program}{w:World}{K:PySem.W.Frag}{mg:Str->Option Value}{base:Heap}{x qual:Str}{st:Stmt}{f:Addr}{fd:FuncData}{N ps:List Str}{kk:Nat}{B:Type}{k:Kind K B}{g:GS B}
theorem fn_O{j n m:Nat}{G:GM B}(hG:G=fnO j m g)(hn:ps.length=n)(hm:N.length=m)(F:Fun K x qual st f fd)(S:zAm N ps (zAg st))
  (hb:∀(cdv:Value) (A:Around) (outer:List Env) (s:Shared) (H:Hp) (E:XK),Room kk (A.deeper (envOfC qual (zAg st) s.heap.objs.size f cdv))->
   XSs (X:=(cxOf CX0 P w K mg base N qual (zAg st) f cdv A outer s H E).nox) k [(j,0)] (zAD st) g):FnOk P w K mg base CX0 (kk+1) f fd ps (spO k n G):=by
 subst hG hn hm
 refine F.ok S (fun vs H Q E h=>?_) (fun cdv A outer s H vs Q E hr h=>?_)
 ·obtain⟨F,p,b,φ,ds,r,b',hl,_,_,ar,_⟩:=h
  rw [<- zEp ar,hl]
 ·obtain⟨F,p,b,φ,ds,r,b',hl,z,at0,ar,q,c⟩:=h
  refine⟨_,hb cdv A outer s H E hr,?_⟩
  unfold fnO at q
  split at q
  ·rename_i ej
   obtain⟨v,ev,rv⟩:=zCV ar ej
   have jl:j<vs.length:=(Qc.mp ev).1
   have rv:v=.ref p:=rv
   have SS:SO k [(j,0)] F H H (L2.start N vs) (zBJ N.length ds) [b] [(p,φ)]:=by
    refine⟨zPq z ar,⟨.cons at0 .nil,fun i i' o u n h1 h2=>?_⟩,fun a h=>?_,fun i kvs q1=>?_,fun i i' m o ho=>?_,fun _ h=>h⟩
    ·have a1:i<1:=(Qc.mp h1).1
     have a2:i'<1:=(Qc.mp h2).1
     lia
    ·rcases h with⟨i,ds',q1,_⟩ | ⟨i,ds',q1,_⟩ <;> rcases zHD q1 with⟨d,q⟩ | q <;> cases q
    ·rcases zHD q1 with⟨d,q⟩ | q <;> cases q
    ·rw [QC]at m
     cases m
     cases ho
     unfold L2.start
     rw [QS (by simpa using jl),QB,ev,rv]
     rfl
   have fin:∀{F':Addr->Prop}{H':Hp}{os':List Oa}{Ω':List B}{v:V},zAv K [(p,φ)] os' F F' H H'->Os k F' H' (b'::Ω') os'->Rep K F' H' r v->Q v H':=fun{F' H' os' Ω' v} K' o' R'=>by
    obtain⟨φ',h0⟩:=K'.ad 0 (p,φ) rfl
    obtain⟨b1,e1,at1⟩:=zEo o'.at_ h0
    cases e1
    refine c F' H' v φ' ⟨K'.k.st,fun a u h n=>K'.k.out a u h fun⟨o,m,h'⟩=>n ?_,K'.k.new,K'.k.fz,K'.k.lv⟩ (fun a h=>(K'.ft a (zBF h0 h)).imp_left fun⟨o,m,h'⟩=>?_) at1 R'
    ·rw [QC.mp m]at h';exact h'
    ·rw [QC.mp m]at h';exact h'
   split at q
   ·rename_i d b1 Ω1 e
    cases q
    exact⟨[(p,φ)],F,H,F,_,_,_,_,zAv.refl z,SS,e,fun F' H' v os' K' o' R'=>fin K' o' R'⟩
   ·rename_i ρ1 b1 Ω1 e
    cases q
    exact⟨[(p,φ)],F,H,F,_,_,_,_,zAv.refl z,SS,e,fun F' H' σ' os' K' T' S'=>fin K' S'.o .non⟩
   ·cases q
  ·cases q
theorem fn_L{n m:Nat}{τ:List (Nat × Nat)}{G:List D->Option D}(hG:G=fnL m g)(hn:ps.length=n)(hm:N.length=m)(F:Fun K x qual st f fd)(S:zAm N ps (zAg st))
  (hb:∀(cdv:Value) (A:Around) (outer:List Env) (s:Shared) (H:Hp) (E:XK),Room kk (A.deeper (envOfC qual (zAg st) s.heap.objs.size f cdv))->
   XSs (X:=(cxOf CX0 P w K mg base N qual (zAg st) f cdv A outer s H E).nox) k τ (zAD st) g):FnOk P w K mg base CX0 (kk+1) f fd ps (spD K n G):=by
 subst hG hn hm
 refine F.ok S (fun vs H Q E h=>?_) (fun cdv A outer s H vs Q E hr h=>?_)
 ·obtain⟨F,ds,d,hl,_,r,_⟩:=h
  rw [<- r.length,hl]
 ·obtain⟨F,ds,d,hl,z,r,q,c⟩:=h
  refine⟨_,hb cdv A outer s H E hr,?_⟩
  have no:∀(i:Nat) (s:Sl),(zAH N.length ds)[i]?=some s->(∃ d,s=.dat d) ∨ s=.no:=fun i s h=>by
   have m:=QH h
   rcases QD.mp m with m | m
   ·obtain⟨d,_,rfl⟩:=QK.mp m
    exact .inl ⟨d,rfl⟩
   ·exact .inr (List.eq_of_mem_replicate m)
  have SS:SO k τ F H H (L2.start N vs) (zAH N.length ds) [] []:=by
   refine⟨zHE z r,⟨.nil,fun i i' o u n h1 h2=>?_⟩,fun a h=>?_,fun i kvs q1=>?_,fun i i' m o ho=>?_,fun _ h=>h⟩
   ·simp at h1
   ·rcases h with⟨i,ds',q1,_⟩ | ⟨i,ds',q1,_⟩ <;> rcases no i _ q1 with⟨d,q⟩ | q <;> cases q
   ·rcases no i _ q1 with⟨d,q⟩ | q <;> cases q
   ·simp at ho
  have fin:∀{F':Addr->Prop}{H':Hp}{os':List Oa}{v:V},zAv K [] os' F F' H H'->Rep K F' H' d v->Q v H':=fun{F' H' os' v} K' R'=>
   c F' H' v ⟨fun a u h=>K'.k.out a u h (fun⟨o,m,_⟩=>by cases m),K'.k.st.up,fun a f=>(K'.k.new a f).imp_right fun h=>⟨h,K'.k.fz a f⟩⟩ R'
  unfold fnL at q
  split at q
  ·rename_i d' Ω1 e
   cases q
   exact⟨[],F,H,F,_,_,_,_,zAv.refl z,SS,e,fun F' H' v os' K' o' R'=>fin K' R'⟩
  ·rename_i ρ1 Ω1 e
   cases q
   exact⟨[],F,H,F,_,_,_,_,zAv.refl z,SS,e,fun F' H' σ' os' K' T' S'=>fin K' .non⟩
  ·cases q
end
end OB
namespace OB
open PySem PySem.Spec PyProof.Rows L2 DL
def ItR(lo:Int)(n:Nat):It:=⟨fun i _=>i<n,fun i H x H'=>H'=H/\x=.int (lo-i),fun i _=>n<=i⟩
theorem zPE{P:Program}{w:World}{K:PySem.W.Frag}{tg:Expr}(it:Addr)(lo:Int)(n:Nat):Turn P w K tg (ItR lo n) [it] it (fun i h=>IsRangeIter h it (lo+(i:Nat) * (-1)) ((n:Int)-(i:Nat)) (-1)) where
 mem:=by simp
 obj:=fun i h st b hb=>by
  have e:b=it:=by simpa using hb
  subst e
  exact⟨_,st,fun v z=>by
   have z':Data.fields _=Data.cell v:=z
   cases z'⟩
 keep:=fun i h h' st k=>k it (by simp) _ st
 item:=by
  intro X hP hw hK hc i pins s σ H E I hf st hg
  subst hP hw hK
  obtain⟨f0,f1,f2,f3,f4,f5⟩:=hf it (by simp)
  have W:=Walks.range (prog:=X.prog) (w:=X.w) (I.ok.hd hc) it lo (-1) n
  refine W.item i s _ _ hg st fun v h' tk hv st' kk=>?_
  obtain⟨t,rfl⟩:=hv
  have I1:Inv X pins σ H { s with heap:=h',toks:=tk }:=I.turned (fun b o hb e=>kk b o (by simpa using hb) e) f0 f1 f3 f4 f5
  refine⟨_,rfl,zE2 (s:={ s with heap:=h',toks:=tk }) (n:="range_iterator") st' rfl rfl (by decide) ⟨.int (lo-i),H,I1,⟨t,?_⟩,⟨rfl,rfl⟩,st',fun b hb=>(hf b hb).1⟩⟩
  rw [Int.mul_neg,Int.mul_one]
  rfl
 done:=by
  intro X hP hw hK hc i pins s σ H E I hf st hg
  subst hP hw hK
  obtain⟨f0,f1,f2,f3,f4,f5⟩:=hf it (by simp)
  exact wpAny_pyNext_range_end (I.ok.hd hc) st (by have:n<=i:=hg;lia) fun h' eb=>⟨rfl,I.turned (t':=s.toks) (fun b o hb e=>eb b o hb e) f0 f1 f3 f4 f5⟩
 self:=fun _ _ _ _ _ st h=>wpAny_pyIter_rangeiter st h
theorem zKu(a b:Int):Builtin.Range.rangeSize a b (-1)=if a > b then a-b else 0:=by
 unfold Builtin.Range.rangeSize
 rw [if_neg (by decide),show -(-1:Int)=1 from rfl,Int.ediv_one]
 split <;> lia
theorem zPf{a b:Int}(ha:-1000<=a)(ha':a<1000)(hb:-1000<=b)(hb':b<1000):Builtin.Range.small a b (-1)=true:=by
 unfold Builtin.Range.small
 rw [zKu]
 simp only [Builtin.Range.rangeFitsLong,QQ,Jl,decide_eq_true_eq,beq_iff_eq,show ¬ (-1:Int) > 0 by decide,if_false]
 split <;> lia
section
variable {X:Cx}{tg:Expr}
theorem zL4{pins:List (Addr × Obj)}{σ:L2.St}{H:Hp}{s:Shared}{R:It->Hp->Prop}{E:Value->Shared->Prop}{lo hi:Int}{t u v:Tok}{tk:Nat}(I:L2.Inv X pins σ H s)(h1:-1000<=lo)(h2:lo<1000)(h3:-1000<=hi)(h4:hi<1000)
  (q:R (ItR lo (lo-hi).toNat) H):wpAny (model X.prog X.w) X.A (pyIter (.ref s.heap.objs.size)) (PIE X pins σ tg R) E { s with heap:=s.heap.push { cls:=.type "range",data:=.fields #[.int lo t,.int hi u,.int (-1) v] },toks:=tk }:=by
 refine wpAny_pyIter_range (IsRange.new ..) (zPf h1 h2 h3 h4) ?_
 have I1:L2.Inv X pins σ H { s with heap:=s.heap.push { cls:=.type "range",data:=.fields #[.int lo t,.int hi u,.int (-1) v] },toks:=tk }:=I.kept fun b o e=>Qd _ e
 refine⟨(s.heap.push { cls:=.type "range",data:=.fields #[.int lo t,.int hi u,.int (-1) v] }).objs.size,[(s.heap.push { cls:=.type "range",data:=.fields #[.int lo t,.int hi u,.int (-1) v] }).objs.size],_,_,H,rfl,
  I1.kept (t':=tk) fun b o e=>Qd _ e,zPE _ lo (lo-hi).toNat,?_,fun b hb=>?_,q⟩
 ·have e1:lo+((0:Nat):Int) * (-1)=lo:=by simp
  have e2:(((lo-hi).toNat:Nat):Int)-((0:Nat):Int)=Builtin.Range.rangeSize lo hi (-1):=by rw [zKu];split <;> lia
  show IsRangeIter _ _ (lo+((0:Nat):Int) * (-1)) ((((lo-hi).toNat:Nat):Int)-((0:Nat):Int)) (-1)
  rw [e1,e2]
  exact Qu _ rfl
 ·have e:b=(s.heap.push { cls:=.type "range",data:=.fields #[.int lo t,.int hi u,.int (-1) v] }).objs.size:=by simpa using hb
  subst e
  exact I1.fpOk (Qi _) (I1.hok.fresh (Qi _))
def iDwn(ta:TA):TI:=fun σ H R=>ta σ H fun vs H1=>∃ i j:Int,vs=[.int i,.int j,.int (-1)]/\(-1000<=i/\i<1000/\-1000<=j/\j<1000)/\R (ItR i (i-j).toNat) H1
theorem zOk{a b c:Expr}{ta:TA}{p pos:Pos}(hg:Gl X "range")(hm:X.mg "range"=none)(ha:PA X [a,b,c] ta)(hs:starEach [a,b,c] X.env=[(false,eval a X.env),(false,eval b X.env),(false,eval c X.env)]:=by rfl)(hs2:starEach [b,c] X.env=[(false,eval b X.env),(false,eval c X.env)]:=by rfl):
  PI X tg (.Call (.Name "range" p) [a,b,c] [] pos) (iDwn ta):=by
 intro pins s σ H R I h
 refine Call_ (zBT I hg hm boot_range (Q3 (thn (ha pos pins s σ H _ I h) fun us s1 ⟨vs,H1,I1,r1,q1⟩=>?_) (by rw [hs,hs2]) (by rw [hs2];rfl)))
 obtain⟨i,j,e,⟨q1,q2,q3,q4⟩,q⟩:=q1
 subst e
 cases r1 with
 | cons r rr=>
  cases rr with
  | cons r' rr=>
   cases rr with
   | cons r'' rr=>
    cases rr
    obtain⟨t,rfl⟩:=r
    obtain⟨t',rfl⟩:=r'
    obtain⟨t'',rfl⟩:=r''
    exact call_range_3 (by decide) (zL4 I1 q1 q2 q3 q4 q)
end
def rng3:List D->Option (List D)
 | [.int i,.int j,.int k]=>if k=-1/\-1000<=i/\i<1000/\-1000<=j/\j<1000 then some ((List.range (i-j).toNat).map fun(k:Nat)=>.int (i-(k:Int)))else none
 | _=>none
def zE3(gr:Rho->Option (List D)):Rho->Option (List D):=fun ρ=>(gr ρ).bind rng3
theorem zMH{K:PySem.W.Frag}{F:Addr->Prop}{H:Hp}(lo:Int)(n:Nat):ItD K F H ((List.range n).map fun(k:Nat)=>.int (lo-(k:Int))) (ItR lo n):=fun F2 H2 T z i=>by
 refine⟨fun d hd=>?_,fun hl=>?_⟩
 ·have hi:i<n:=by
   have:=(Qc.mp hd).1
   simpa using this
  have hd':d=.int (lo-(i:Int)):=by
   rw [QB,YZ hi]at hd
   cases hd;rfl
  subst hd'
  refine⟨hi,fun x H3 y=>?_⟩
  obtain⟨y1,y2⟩:=y
  subst y1 y2
  exact⟨F2,Ext.refl _ _,.int _⟩
 ·show n<=i
  simpa using hl
theorem zLV{X:Cx}{tg a b c:Expr}{gr:Rho->Option (List D)}{p pos:Pos}(hg:Gl X "range")(hm:X.mg "range"=none)(ha:DA X [a,b,c] gr)(hs:starEach [a,b,c] X.env=[(false,eval a X.env),(false,eval b X.env),(false,eval c X.env)]:=by rfl)(hs2:starEach [b,c] X.env=[(false,eval b X.env),(false,eval c X.env)]:=by rfl):DI X tg (.Call (.Name "range" p) [a,b,c] [] pos) (zE3 gr):=
 zEt (zOk hg hm ha hs hs2) fun σ H R zz=>by
  obtain⟨F,H₀,ρ,ds,S,q,k⟩:=zz
  obtain⟨xs,e1,q⟩:=bnd q
  unfold rng3 at q
  split at q
  ·rename_i i j l
   by_cases hj:l=-1/\-1000<=i/\i<1000/\-1000<=j/\j<1000
   ·rw [if_pos hj]at q
    cases q
    obtain⟨rfl,hj⟩:=hj
    refine⟨F,H₀,ρ,_,S,e1,fun F1 H1 vs E1 R1=>?_⟩
    cases R1 with
    | cons r rs=>
     cases r
     cases rs with
     | cons r rs=>
      cases r
      cases rs with
      | cons r rs=>
       cases r
       cases rs
       exact⟨i,j,rfl,hj,k F1 H1 _ E1 (zMH i _)⟩
   ·rw [if_neg hj]at q;cases q
  ·cases q
end OB
namespace My
open PySem PySem.Spec PySem.SeqAt PyProof.Rows L2 CL DL OB SD ZL SL EL DC
def top(i:Nat):Stmt:=PySem.Challenge.pw_lampfloor_k44_whole_back_and_twins.main.body.getD i (.Pass ⟨0,0,0,0⟩)
structure Fo(K:PySem.W.Frag)(mg:Str->Option Value)(n:Str)(st:Stmt)(ps:List Str)(a:Addr)(d:FuncData):Prop where
 F:Fun K n n st a d
 m:mg n=some (.ref a)
 b:L2.Binds K d ps []
theorem fsc{N P:List Str}{sc:Scope}(h:(sc.kind,sc.isCoroutine,sc.isGenerator,N.take P.length)=(.function,false,false,P))(q:N.Nodup/\(∀ x∈P,sc.names.lookup x=some .local ∨ sc.names.lookup x=some .cell)/\∀ y∈sc.names,y.2≠.free):zAm N P sc:=by
 injection h with h1 h
 injection h with h2 h
 injection h with h3 h4
 exact⟨h1,h2,h3,q.1,h4,q.2.1,q.2.2⟩
theorem dac{X:Cx}{e:Expr}{es:List Expr}{ga:Rho->Option D}{gr:Rho->Option (List D)}(ha:DE X e ga)(hr:DA X es gr)(h:zHd e=true):DA X (e::es) (zAc ga gr):=zLM ha hr h
theorem dtp{X:Cx}{es:List Expr}{gr:Rho->Option (List D)}{x1 pos}(h:DA X es gr):DE X (.Tuple es x1 pos) (eTup gr):=zLQ h
theorem dcl{X:Cx}{e:Expr}{es:List Expr}{gr:Rho->Option (List D)}{p pos:Pos}{k m n:Nat}{f:Addr}{fd:FuncData}{ps:List Str}{st:Stmt}{x:Str}{G:List D->Option D}(F:Fo X.K X.mg x st ps f fd)(Gx:FnOk X.prog X.w X.K X.mg X.base CX0 k f fd ps (spD X.K n G))(hr:Room m X.A)(hg:Gl X x)
  (ha:DA X (e::es) gr) (hln:∀ ρ ds,gr ρ=some ds->ds.length=n) (hkm:k<=m:=by decide) (hdb:(x == ("__debug__":Str))=false:=by decide) (he:starEach (e::es) X.env=(false,eval e X.env)::starEach es X.env:=by rfl) (hpl:(backTo pos (starEach es X.env)).any (·.1)=false:=by rfl):DE X (.Call (.Name x p) (e::es) [] pos) (zAj G gr):=zLO Gx (hr.mono hkm) hg F.m F.F.kp F.b ha hln hdb he hpl
theorem ln0:∀(ρ:Rho) (ds:List D),eNil ρ=some ds->ds.length=0:=fun _ _ h=>zMc h
section
variable {a b c d e f:Rho->Option D}
theorem ln1:∀(ρ:Rho) (ds:List D),zAc a eNil ρ=some ds->ds.length=1:=zE0 ln0
theorem ln2:∀(ρ:Rho) (ds:List D),zAc a (zAc b eNil) ρ=some ds->ds.length=2:=zE0 ln1
theorem ln3:∀(ρ:Rho) (ds:List D),zAc a (zAc b (zAc c eNil)) ρ=some ds->ds.length=3:=zE0 ln2
theorem ln4:∀(ρ:Rho) (ds:List D),zAc a (zAc b (zAc c (zAc d eNil))) ρ=some ds->ds.length=4:=zE0 ln3
end
abbrev s_qk:Stmt:=top 5
abbrev s_qe:Stmt:=top 10
abbrev s_qo:Stmt:=top 12
abbrev s_qh:Stmt:=top 15
abbrev s_qn:Stmt:=top 16
abbrev s_ql:Stmt:=top 18
abbrev s_q3:Stmt:=top 19
abbrev s_qa:Stmt:=top 20
abbrev s_q6:Stmt:=top 25
abbrev s_qg:Stmt:=top 30
abbrev s_qf:Stmt:=top 35
abbrev s_q1:Stmt:=top 6
abbrev s_q8:Stmt:=top 11
abbrev s_qp:Stmt:=top 21
abbrev s_qi:Stmt:=top 23
abbrev s_q7:Stmt:=top 31
abbrev s_qm:Stmt:=top 7
abbrev s_q4:Stmt:=top 24
abbrev s_qc:Stmt:=top 32
abbrev s_qd:Stmt:=top 33
abbrev s_q0:Stmt:=top 8
abbrev s_qb:Stmt:=top 34
abbrev s_qj:Stmt:=top 9
abbrev s_q9:Stmt:=top 13
abbrev s_q5:Stmt:=top 14
abbrev s_q2:Stmt:=top 27
abbrev s_qq:Stmt:=top 36
def N_qk:List Str:=["thing"]
theorem sc_qk:zAm N_qk ["thing"] (zAg s_qk):=fsc rfl (by decide +kernel)
def zIR:Rho->Option Out:=
  (sRet (zB4 (eIs "int" (eV 0)) (zIq (eIs "bool" (eV 0)))))
def zC6:List D->Option D:=fnD 1 zIR
def N_qe:List Str:=["floor","cells","x"]
theorem zHv:zAm N_qe ["floor"] (zAg s_qe):=fsc rfl (by decide +kernel)
def zHS:List Str:=["y","x"]
theorem zNu:zHS.Nodup:=by decide +kernel
def zGz:Rho->Option Out:=
  (sSeq (sOwn 1 eNil)
  (sSeq (sFor (iRng1 (zAc (eOp dIx (eV 0) (eC (.int 0))) eNil)) (zAz 2) (sExt 1 (eLc (zA2 (iRng1 (zAc (eOp dIx (eV 0) (eC (.int 1))) eNil)) (zAz 0) eT (eTup (zAc (eV 1) (zAc (eV 0) eNil))) [none,some 2]))))
  (sRet (eV 1))))
def zDN:List D->Option D:=fnD 3 zGz
def N_qo:List Str:=["things"]
theorem sc_qo:zAm N_qo ["things"] (zAg s_qo):=fsc rfl (by decide +kernel)
def zHW:List Str:=["thing"]
theorem zNw:zHW.Nodup:=by decide +kernel
def zIU:Rho->Option Out:=
  (sRet (zAj zF9 (zAc (eLc (zA2 (iSeq (eV 0)) (zAz 0) eT (eTup (zAc (eV 0) (zAc (eC (.bool true)) eNil))) [none])) eNil)))
def zBY:List D->Option D:=fnD 1 zIU
def N_qh:List Str:=["floor","walls"]
theorem zKm:zAm N_qh ["floor"] (zAg s_qh):=fsc rfl (by decide +kernel)
def zHU:List Str:=["x","y","floor"]
theorem zJz:zHU.Nodup:=by decide +kernel
def zGG:Rho->Option Out:=
  (sSeq (sSet 1 (eLc (zA2 (iSeq (eOp dIx (eV 0) (eC (.int 2)))) (uTup 2 (zBk (zAz 0) (zBk (zAz 1) uNil))) eT (eTup (zAc (eOp dSub (eOp dSub (eOp dIx (eV 2) (eC (.int 0))) (eC (.int 1))) (eV 0)) (zAc (eV 1) eNil))) [none,none,some 0])))
  (sRet (eTup (zAc (eOp dIx (eV 0) (eC (.int 0))) (zAc (eOp dIx (eV 0) (eC (.int 1))) (zAc (zAj zCj (zAc (zAj zBC (zAc (eV 1) eNil)) eNil)) eNil))))))
def zDV:List D->Option D:=fnD 2 zGG
def N_qn:List Str:=["floor","walls"]
theorem zKn:zAm N_qn ["floor"] (zAg s_qn):=fsc rfl (by decide +kernel)
def zHV:List Str:=["x","y"]
theorem zJA:zHV.Nodup:=by decide +kernel
def zGD:Rho->Option Out:=
  (sSeq (sSet 1 (eLc (zA2 (iSeq (eOp dIx (eV 0) (eC (.int 2)))) (uTup 2 (zBk (zAz 0) (zBk (zAz 1) uNil))) eT (eTup (zAc (eV 1) (zAc (eV 0) eNil))) [none,none])))
  (sRet (eTup (zAc (eOp dIx (eV 0) (eC (.int 1))) (zAc (eOp dIx (eV 0) (eC (.int 0))) (zAc (zAj zCj (zAc (zAj zBC (zAc (eV 1) eNil)) eNil)) eNil))))))
def zDQ:List D->Option D:=fnD 2 zGD
def N_ql:List Str:=["one","other","far_x","far_y","way_x","way_y","gone_x","gone_y","cells","border_x","border_y"]
theorem zBz:zAm N_ql ["one","other"] (zAg s_ql):=fsc rfl (by decide +kernel)
def zGC:Rho->Option Out:=
  (sSeq (sSet 2 (zAj dAbs (zAc (eOp dSub (eOp dIx (eV 1) (eC (.int 0))) (eOp dIx (eV 0) (eC (.int 0)))) eNil)))
  (sSeq (sSet 3 (zAj dAbs (zAc (eOp dSub (eOp dIx (eV 1) (eC (.int 1))) (eOp dIx (eV 0) (eC (.int 1)))) eNil)))
  (sSeq (sSet 4 (eIf (eB (eOp dGt (eOp dIx (eV 1) (eC (.int 0))) (eOp dIx (eV 0) (eC (.int 0))))) (eC (.int 1)) (eUn dNeg (eC (.int 1)))))
  (sSeq (sSet 5 (eIf (eB (eOp dGt (eOp dIx (eV 1) (eC (.int 1))) (eOp dIx (eV 0) (eC (.int 1))))) (eC (.int 1)) (eUn dNeg (eC (.int 1)))))
  (sSeq (sSet 6 (eC (.int 0)))
  (sSeq (sSet 7 (eC (.int 0)))
  (sSeq (sOwn 8 (zAc (eV 0) eNil))
  (sSeq (zCv (eOr (eB (eOp dLt2 (eV 6) (eV 2))) (eB (eOp dLt2 (eV 7) (eV 3)))) (sSeq (sSet 9 (eOp zAt (eOp zAr (eOp zAt (eC (.int 2)) (eV 6)) (eC (.int 1))) (eV 3)))
  (sSeq (sSet 10 (eOp zAt (eOp zAr (eOp zAt (eC (.int 2)) (eV 7)) (eC (.int 1))) (eV 2)))
  (sSeq (sIf (eB (eOp dLe (eV 9) (eV 10))) (sSet 6 (eOp zAr (eV 6) (eC (.int 1)))) zBj)
  (sSeq (sIf (eB (eOp dLe (eV 10) (eV 9))) (sSet 7 (eOp zAr (eV 7) (eC (.int 1)))) zBj)
  (sApp 8 (eTup (zAc (eOp zAr (eOp dIx (eV 0) (eC (.int 0))) (eOp zAt (eV 4) (eV 6))) (zAc (eOp zAr (eOp dIx (eV 0) (eC (.int 1))) (eOp zAt (eV 5) (eV 7))) eNil)))))))) 900)
  (sRet (eV 8))))))))))
def zDP:List D->Option D:=fnD 11 zGC
def N_q3:List Str:=["cells","couples","here","there"]
theorem zFL:zAm N_q3 ["cells"] (zAg s_q3):=fsc rfl (by decide +kernel)
def zGB:Rho->Option Out:=
  (sSeq (sOwn 1 eNil)
  (sSeq (sFor (iZip (zAc (eV 0) (zAc (eSl2 (eV 0) (oE (eC (.int 1))) oNo) eNil))) (uTup 2 (zBk (zAz 2) (zBk (zAz 3) uNil))) (sIf (eAnd (eB (eOp dNe (eOp dIx (eV 2) (eC (.int 0))) (eOp dIx (eV 3) (eC (.int 0))))) (eB (eOp dNe (eOp dIx (eV 2) (eC (.int 1))) (eOp dIx (eV 3) (eC (.int 1)))))) (sApp 1 (zAj zCj (zAc (zAj zBC (zAc (eLst (zAc (eTup (zAc (eOp dIx (eV 2) (eC (.int 0))) (zAc (eOp dIx (eV 3) (eC (.int 1))) eNil))) (zAc (eTup (zAc (eOp dIx (eV 3) (eC (.int 0))) (zAc (eOp dIx (eV 2) (eC (.int 1))) eNil))) eNil))) eNil)) eNil))) zBj))
  (sRet (eV 1))))
def zC4:List D->Option D:=fnD 4 zGB
def N_qa:List Str:=["one_end","middle","other_end"]
theorem sc_qa:zAm N_qa ["one_end","middle","other_end"] (zAg s_qa):=fsc rfl (by decide +kernel)
def zIO:Rho->Option Out:=
  (sRet (eOrV (zDj dLe dLe (eV 0) (eV 1) (eV 2)) (zDj dLe dLe (eV 2) (eV 1) (eV 0))))
def zC5:List D->Option D:=fnD 3 zIO
def N_q6:List Str:=["cells","couples","number","one"]
theorem zFM:zAm N_q6 ["cells"] (zAg s_q6):=fsc rfl (by decide +kernel)
def zHQ:List Str:=["other","one"]
theorem zNs:zHQ.Nodup:=by decide +kernel
def zGA:Rho->Option Out:=
  (sSeq (sOwn 1 eNil)
  (sSeq (sFor (zEc (zAc (eV 0) eNil)) (uTup 2 (zBk (zAz 2) (zBk (zAz 3) uNil))) (sExt 1 (eLc (zA2 (iSeq (eSl2 (eV 0) (oE (eOp zAr (eV 2) (eC (.int 1)))) oNo)) (zAz 0) eT (eTup (zAc (eV 1) (zAc (eV 0) eNil))) [none,some 3]))))
  (sRet (eV 1))))
def zDO:List D->Option D:=fnD 4 zGA
def N_qg:List Str:=["_law_script","_law_k"]
theorem sc_qg:zAm N_qg ["_law_script","_law_k"] (zAg s_qg):=fsc rfl (by decide +kernel)
def zIL:Rho->Option Out:=
  (sSeq (sIf (eB (eOp dEq (eV 0) (eLst eNil))) (sRet (eOp zAt (eC (.int 7)) (eV 1))) zBj)
  (sRet (eOp zAr (eOp dIx (eV 0) (eOp dMod (eV 1) (zAj dLen (zAc (eV 0) eNil)))) (eOp zAt (eC (.int 6553)) (eOp zCK (eV 1) (zAj dLen (zAc (eV 0) eNil)))))))
def zDM:List D->Option D:=fnD 2 zIL
def N_q1:List Str:=["thing"]
theorem sc_q1:zAm N_q1 ["thing"] (zAg s_q1):=fsc rfl (by decide +kernel)
def zIS:Rho->Option Out:=
  (sSeq (sIf (eOr (eNot (eB (eIs "tuple" (eV 0)))) (eB (eOp dNe (zAj dLen (zAc (eV 0) eNil)) (eC (.int 2))))) (sRet (eC (.bool false))) zBj)
  (sRet (zB4 (zAj zC6 (zAc (eOp dIx (eV 0) (eC (.int 0))) eNil)) (zAj zC6 (zAc (eOp dIx (eV 0) (eC (.int 1))) eNil)))))
def zDS:List D->Option D:=fnD 1 zIS
def N_q8:List Str:=["floor"]
theorem sc_q8:zAm N_q8 ["floor"] (zAg s_q8):=fsc rfl (by decide +kernel)
def zIW:Rho->Option Out:=
  (sRet (zCN (zGn (eSet (zAc (zAj zDN (zAc (eV 0) eNil)) eNil)) (eSet (zAc (eOp dIx (eV 0) (eC (.int 2))) eNil)))))
def zDW:List D->Option D:=fnD 1 zIW
def N_qp:List Str:=["one","other","cell","way_x","way_y","aside"]
theorem zFO:zAm N_qp ["one","other","cell"] (zAg s_qp):=fsc rfl (by decide +kernel)
def zGF:Rho->Option Out:=
  (sSeq (sIf (eOr (eNot (eB (zAj zC5 (zAc (eOp dIx (eV 0) (eC (.int 0))) (zAc (eOp dIx (eV 2) (eC (.int 0))) (zAc (eOp dIx (eV 1) (eC (.int 0))) eNil)))))) (eNot (eB (zAj zC5 (zAc (eOp dIx (eV 0) (eC (.int 1))) (zAc (eOp dIx (eV 2) (eC (.int 1))) (zAc (eOp dIx (eV 1) (eC (.int 1))) eNil))))))) (sRet (eC (.bool false))) zBj)
  (sSeq (sSet 3 (eOp dSub (eOp dIx (eV 1) (eC (.int 0))) (eOp dIx (eV 0) (eC (.int 0)))))
  (sSeq (sSet 4 (eOp dSub (eOp dIx (eV 1) (eC (.int 1))) (eOp dIx (eV 0) (eC (.int 1)))))
  (sSeq (sSet 5 (zAj dAbs (zAc (eOp dSub (eOp zAt (eV 3) (eOp dSub (eOp dIx (eV 2) (eC (.int 1))) (eOp dIx (eV 0) (eC (.int 1))))) (eOp zAt (eV 4) (eOp dSub (eOp dIx (eV 2) (eC (.int 0))) (eOp dIx (eV 0) (eC (.int 0)))))) eNil)))
  (sRet (eOp dLe (eOp zAt (eC (.int 2)) (eV 5)) (eOp zAr (zAj dAbs (zAc (eV 3) eNil)) (zAj dAbs (zAc (eV 4) eNil)))))))))
def zDU:List D->Option D:=fnD 6 zGF
def N_qi:List Str:=["solids","one","other","cells","cell","first","second"]
theorem zEz:zAm N_qi ["solids","one","other"] (zAg s_qi):=fsc rfl (by decide +kernel)
def zGE:Rho->Option Out:=
  (sSeq (sSet 3 (zAj zDP (zAc (eV 1) (zAc (eV 2) eNil))))
  (sSeq (sFor (iSeq (eSl2 (eV 3) oNo (oE (eUn dNeg (eC (.int 1)))))) (zAz 4) (sIf (eB (eOp (dIn2 false) (eV 4) (eV 0))) (sRet (eC (.bool false))) zBj))
  (sSeq (sFor (iSeq (zAj zC4 (zAc (eV 3) eNil))) (uTup 2 (zBk (zAz 5) (zBk (zAz 6) uNil))) (sIf (eAnd (eB (eOp (dIn2 false) (eV 5) (eV 0))) (eB (eOp (dIn2 false) (eV 6) (eV 0)))) (sRet (eC (.bool false))) zBj))
  (sRet (eC (.bool true))))))
def zDT:List D->Option D:=fnD 7 zGE
def N_q7:List Str:=["_law_script","_law_k","_law_many","_law_cell_here"]
theorem zHu:zAm N_q7 ["_law_script","_law_k","_law_many"] (zAg s_q7):=fsc rfl (by decide +kernel)
def zIM:Rho->Option Out:=
  (sSeq (sSet 3 (eOp dMod (eOp zAr (eOp zAt (eOp dMod (zAj zDM (zAc (eV 0) (zAc (eV 1) eNil))) (eC (.int 2147483563))) (eC (.int 69069))) (eOp zAt (eC (.int 104723)) (eOp zAr (eV 1) (eC (.int 1))))) (eC (.int 2147483563))))
  (sSeq (sSet 3 (eOp dMod (eOp zAr (eOp zAt (eV 3) (eV 3)) (eOp zCK (eV 3) (eC (.int 3)))) (eC (.int 2147483399))))
  (sRet (eOp dMod (eOp zCK (eOp dMod (eOp zAr (eOp zAt (eV 3) (eV 3)) (eOp zCK (eV 3) (eC (.int 7)))) (eC (.int 2147483647))) (eC (.int 11))) (eV 2)))))
def zAX:List D->Option D:=fnD 4 zIM
def N_qm:List Str:=["floor","thing"]
theorem sc_qm:zAm N_qm ["floor","thing"] (zAg s_qm):=fsc rfl (by decide +kernel)
def zIP:Rho->Option Out:=
  (sSeq (sIf (eNot (eB (zAj zDS (zAc (eV 1) eNil)))) (sRet (eC (.bool false))) zBj)
  (sRet (zB4 (zDj dLe dLt2 (eC (.int 0)) (eOp dIx (eV 1) (eC (.int 0))) (eOp dIx (eV 0) (eC (.int 0)))) (zDj dLe dLt2 (eC (.int 0)) (eOp dIx (eV 1) (eC (.int 1))) (eOp dIx (eV 0) (eC (.int 1)))))))
def zDR:List D->Option D:=fnD 2 zIP
def N_q4:List Str:=["solids","one","other"]
theorem sc_q4:zAm N_q4 ["solids","one","other"] (zAg s_q4):=fsc rfl (by decide +kernel)
def zIY:Rho->Option Out:=
  (sRet (zB4 (eOp (dIn2 true) (eV 2) (eV 0)) (zAj zDT (zAc (eV 0) (zAc (eV 1) (zAc (eV 2) eNil))))))
def zC7:List D->Option D:=fnD 3 zIY
def N_qc:List Str:=["_law_script","_law_at","_law_most","_law_wide","_law_high","_law_rate","_law_shuts","_law_x"]
theorem zDA:zAm N_qc ["_law_script","_law_at","_law_most"] (zAg s_qc):=fsc rfl (by decide +kernel)
def zHR:List Str:=["_law_y","_law_x","_law_script","_law_rate","_law_at"]
theorem zNt:zHR.Nodup:=by decide +kernel
def zGv:Rho->Option Out:=
  (sSeq (sSet 3 (eOp zAr (eC (.int 1)) (zAj zAX (zAc (eV 0) (zAc (eV 1) (zAc (eV 2) eNil))))))
  (sSeq (sSet 4 (eOp zAr (eC (.int 1)) (zAj zAX (zAc (eV 0) (zAc (eOp zAr (eV 1) (eC (.int 1))) (zAc (eV 2) eNil))))))
  (sSeq (sSet 5 (eOp dIx (eLst (zAc (eC (.int 2)) (zAc (eC (.int 3)) (zAc (eC (.int 3)) (zAc (eC (.int 5)) (zAc (eC (.int 9)) eNil)))))) (zAj zAX (zAc (eV 0) (zAc (eOp zAr (eV 1) (eC (.int 2))) (zAc (eC (.int 5)) eNil))))))
  (sSeq (sOwn 6 eNil)
  (sSeq (sFor (iRng1 (zAc (eV 3) eNil)) (zAz 7) (sExt 6 (eLc (zA2 (iRng1 (zAc (eV 4) eNil)) (zAz 0) (eB (eOp dEq (zAj zAX (zAc (eV 2) (zAc (eOp zAr (eOp zAr (eOp zAr (eV 4) (eC (.int 3))) (eOp zAt (eC (.int 8)) (eV 1))) (eV 0)) (zAc (eV 3) eNil)))) (eC (.int 0)))) (eTup (zAc (eV 1) (zAc (eV 0) eNil))) [none,some 7,some 0,some 5,some 1]))))
  (sRet (eTup (zAc (eV 3) (zAc (eV 4) (zAc (zAj zCj (zAc (eV 6) eNil)) eNil))))))))))
def zC3:List D->Option D:=fnD 8 zGv
def N_q0:List Str:=["floor","cell"]
theorem sc_q0:zAm N_q0 ["floor","cell"] (zAg s_q0):=fsc rfl (by decide +kernel)
def zIX:Rho->Option Out:=
  (sIf (eNot (eB (zAj zDR (zAc (eV 0) (zAc (eV 1) eNil))))) (fun _=>none) zBj)
def zBZ:List D->Option D:=fnD 2 zIX
def N_qj:List Str:=["floor","cell"]
theorem sc_qj:zAm N_qj ["floor","cell"] (zAg s_qj):=fsc rfl (by decide +kernel)
def zIQ:Rho->Option Out:=
  (sSeq (zDy (zAj zBZ (zAc (eV 0) (zAc (eV 1) eNil))))
  (sRet (eOp (dIn false) (eV 1) (eOp dIx (eV 0) (eC (.int 2))))))
def zCF:List D->Option D:=fnD 2 zIQ
def N_q9:List Str:=["floor","cell"]
theorem sc_q9:zAm N_q9 ["floor","cell"] (zAg s_q9):=fsc rfl (by decide +kernel)
def zGK:Rho->Option Out:=
  (sSeq (zDy (zAj zBZ (zAc (eV 0) (zAc (eV 1) eNil))))
  (sRet (eTup (zAc (eOp dIx (eV 0) (eC (.int 0))) (zAc (eOp dIx (eV 0) (eC (.int 1))) (zAc (zAj zCj (zAc (zCN (eSet (zAc (eOp zAr (eOp dIx (eV 0) (eC (.int 2))) (eTup (zAc (eV 1) eNil))) eNil))) eNil)) eNil))))))
def zCH:List D->Option D:=fnD 2 zGK
def N_q5:List Str:=["floor","cell"]
theorem sc_q5:zAm N_q5 ["floor","cell"] (zAg s_q5):=fsc rfl (by decide +kernel)
def zHP:List Str:=["wall","cell"]
theorem zNr:zHP.Nodup:=by decide +kernel
def zGL:Rho->Option Out:=
  (sSeq (zDy (zAj zBZ (zAc (eV 0) (zAc (eV 1) eNil))))
  (sRet (eTup (zAc (eOp dIx (eV 0) (eC (.int 0))) (zAc (eOp dIx (eV 0) (eC (.int 1))) (zAc (zAj zCj (zAc (eLc (zA2 (iSeq (eOp dIx (eV 0) (eC (.int 2)))) (zAz 0) (eB (eOp dNe (eV 0) (eV 1))) (eV 0) [none,some 1])) eNil)) eNil))))))
def zCI:List D->Option D:=fnD 2 zGL
def N_q2:List Str:=["floor","cell","freed","met","before","seeing","after"]
theorem zDz:zAm N_q2 ["floor","cell"] (zAg s_q2):=fsc rfl (by decide +kernel)
def zHM:List Str:=["couple","cell"]
theorem zNo:zHM.Nodup:=by decide +kernel
def zHN:List Str:=["couple","before"]
theorem zNp:zHN.Nodup:=by decide +kernel
def zHO:List Str:=["couple","after"]
theorem zNq:zHO.Nodup:=by decide +kernel
def zGJ:Rho->Option Out:=
  (sSeq (sSet 2 (zAj zCI (zAc (eV 0) (zAc (eV 1) eNil))))
  (sSeq (sSet 3 (eLc (zA2 (iSeq (zAj zDO (zAc (zAj zDW (zAc (eV 2) eNil)) eNil))) (zAz 0) (eB (zAj zDU (zAc (eOp dIx (eV 0) (eC (.int 0))) (zAc (eOp dIx (eV 0) (eC (.int 1))) (zAc (eV 1) eNil))))) (eV 0) [none,some 1])))
  (sSeq (sSet 4 (zAj zBY (zAc (eOp dIx (eV 2) (eC (.int 2))) eNil)))
  (sSeq (sSet 5 (eLc (zA2 (iSeq (eV 3)) (zAz 0) (eB (zAj zC7 (zAc (eV 1) (zAc (eOp dIx (eV 0) (eC (.int 0))) (zAc (eOp dIx (eV 0) (eC (.int 1))) eNil))))) (eV 0) [none,some 4])))
  (sSeq (sSet 6 (zAj zBY (zAc (eOp dIx (zAj zCH (zAc (eV 0) (zAc (eV 1) eNil))) (eC (.int 2))) eNil)))
  (sRet (zAj dLen (zAc (eLc (zA2 (iSeq (eV 5)) (zAz 0) (eNot (eB (zAj zC7 (zAc (eV 1) (zAc (eOp dIx (eV 0) (eC (.int 0))) (zAc (eOp dIx (eV 0) (eC (.int 1))) eNil)))))) (eV 0) [none,some 6])) eNil))))))))
def zCG:List D->Option D:=fnD 7 zGJ
structure Txt(K:PySem.W.Frag)(mg:Str->Option Value)(a:Nat->Addr)(d:Nat->FuncData):Prop where
 F_qk:Fo K mg "is_whole" s_qk ["thing"] (a 0) (d 0)
 F_qe:Fo K mg "all_cells" s_qe ["floor"] (a 1) (d 1)
 F_qo:Fo K mg "marked" s_qo ["things"] (a 2) (d 2)
 F_qh:Fo K mg "mirrored" s_qh ["floor"] (a 3) (d 3)
 F_qn:Fo K mg "flipped" s_qn ["floor"] (a 4) (d 4)
 F_ql:Fo K mg "crossed" s_ql ["one","other"] (a 5) (d 5)
 F_q3:Fo K mg "couples_beside" s_q3 ["cells"] (a 6) (d 6)
 F_qa:Fo K mg "is_between" s_qa ["one_end","middle","other_end"] (a 7) (d 7)
 F_q6:Fo K mg "all_couples" s_q6 ["cells"] (a 8) (d 8)
 F_qg:Fo K mg "_law_cell" s_qg ["_law_script","_law_k"] (a 9) (d 9)
 F_qf:Fo K mg "_law_goes" s_qf ["_law_builder","_law_rows"] (a 10) (d 10)
 F_q1:Fo K mg "is_whole_couple" s_q1 ["thing"] (a 11) (d 11)
 F_q8:Fo K mg "open_cells" s_q8 ["floor"] (a 12) (d 12)
 F_qp:Fo K mg "meets" s_qp ["one","other","cell"] (a 13) (d 13)
 F_qi:Fo K mg "lets_see" s_qi ["solids","one","other"] (a 14) (d 14)
 F_q7:Fo K mg "_law_drawn" s_q7 ["_law_script","_law_k","_law_many"] (a 15) (d 15)
 F_qm:Fo K mg "is_cell" s_qm ["floor","thing"] (a 16) (d 16)
 F_q4:Fo K mg "see_each_other" s_q4 ["solids","one","other"] (a 17) (d 17)
 F_qc:Fo K mg "_law_floor" s_qc ["_law_script","_law_at","_law_most"] (a 18) (d 18)
 F_qd:Fo K mg "_law_step" s_qd ["_law_script","_law_at","_law_builder"] (a 19) (d 19)
 F_q0:Fo K mg "refuse_off_floor" s_q0 ["floor","cell"] (a 20) (d 20)
 F_qb:Fo K mg "_law_go_on" s_qb ["_law_script","_law_builder"] (a 21) (d 21)
 F_qj:Fo K mg "is_solid" s_qj ["floor","cell"] (a 22) (d 22)
 F_q9:Fo K mg "with_solid" s_q9 ["floor","cell"] (a 23) (d 23)
 F_q5:Fo K mg "without_solid" s_q5 ["floor","cell"] (a 24) (d 24)
 F_q2:Fo K mg "sights_through" s_q2 ["floor","cell"] (a 25) (d 25)
 F_qq:Fo K mg "law" s_qq ["_law_script"] (a 26) (d 26)
 z_isinstance:mg "isinstance"=none
 z_int:mg "int"=none
 z_bool:mg "bool"=none
 z_range:mg "range"=none
 z_dict:mg "dict"=none
 z_sorted:mg "sorted"=none
 z_tuple:mg "tuple"=none
 z_abs:mg "abs"=none
 z_zip:mg "zip"=none
 z_enumerate:mg "enumerate"=none
 z_len:mg "len"=none
 z_set:mg "set"=none
 z_list:mg "list"=none
section
variable {P:Program}{w:World}{K:PySem.W.Frag}{mg:Str->Option Value}{base:Heap}{a:Nat->Addr}{d:Nat->FuncData}(T:Txt K mg a d)
include T
theorem ok_qk  : FnOk P w K mg base CX0 1 (a 0) (d 0) ["thing"] (spD K 1 zC6):=by
 refine zAN (g:=zIR) (G:=zC6) (N:=N_qk) (k:=0) rfl rfl rfl T.F_qk.F sc_qk fun cdv A outer s H E hr=>?_
 exact(zAq (zAB (zEU (zGb (T:="int") (.inr (.inr (.inl rfl))) rfl T.z_isinstance rfl T.z_int boot_int (by decide) (zAa 0)) (zD0 (zLP (zGb (T:="bool") (.inr (.inr (.inr (.inl rfl)))) rfl T.z_isinstance rfl T.z_bool boot_bool (by decide) (zAa 0)))))))
theorem ok_qe  : FnOk P w K mg base CX0 1 (a 1) (d 1) ["floor"] (spD K 1 zDN):=by
 refine zAN (g:=zGz) (G:=zDN) (N:=N_qe) (k:=0) rfl rfl rfl T.F_qe.F zHv fun cdv A outer s H E hr=>?_
 exact(zAn (zD4 (i:=1) zHv.nd zAe)
  (zAn (zDg Q1 rfl (zB2 rfl T.z_range (dac (zAi ixd (zAa 0) zAd) zAe rfl)) (zAP (i:=2) zHv.nd) (zAq (zGj (i:=1) (zCM rfl (zBB (N':=zHS) (inner:=[none,some 2]) (zAg s_qe) N_qe rfl rfl (by decide +kernel)) (zBo 0) (zB2 rfl T.z_range (dac (zAi ixd (zAa 0) zAd) zAe rfl)) (fun _ _ _ _ _=>(zAP (i:=0) zNu)) (fun _ _ _ _ _=>zD5) (fun _ _ _ _ _=>(dtp (dac (zAa 1) (dac (zAa 0) zAe rfl) rfl)))))))
  (zAq (zAB (zAa 1)))))
theorem ok_qo  : FnOk P w K mg base CX0 1 (a 2) (d 2) ["things"] (spD K 1 zBY):=by
 refine zAN (g:=zIU) (G:=zBY) (N:=N_qo) (k:=0) rfl rfl rfl T.F_qo.F sc_qo fun cdv A outer s H E hr=>?_
 exact(zAq (zAB (zCL (zLv rfl (u66 hr)) rfl T.z_dict DC.boot_dict (dac (zCM rfl (zBB (N':=zHW) (inner:=[none]) (zAg s_qo) N_qo rfl rfl (by decide +kernel)) (zBo 0) (zBD (zAa 0)) (fun _ _ _ _ _=>(zAP (i:=0) zNw)) (fun _ _ _ _ _=>zD5) (fun _ _ _ _ _=>(dtp (dac (zAa 0) (dac zBb zAe rfl) rfl)))) zAe rfl))))
theorem ok_qh  : FnOk P w K mg base CX0 1 (a 3) (d 3) ["floor"] (spD K 1 zDV):=by
 refine zAN (g:=zGG) (G:=zDV) (N:=N_qh) (k:=0) rfl rfl rfl T.F_qh.F zKm fun cdv A outer s H E hr=>?_
 exact(zAn (zEZ (i:=1) zKm.nd rfl (zBB (N':=zHU) (inner:=[none,none,some 0]) (zAg s_qh) N_qh rfl rfl (by decide +kernel)) (zJg (zE8 (zBo 0) (zE8 (zBo 1) zJf))) (zBD (zAi ixd (zAa 0) zAd)) (fun _ _ _ _ _=>(zD1 rfl (zBO (zAP (i:=0) zJz) (zBO (zAP (i:=1) zJz) zD2)))) (fun _ _ _ _ _=>zD5) (fun _ _ _ _ _=>(dtp (dac (zAh zAY (zAh zAY (zAi ixd (zAa 2) zAd) zAd) (zAa 0)) (dac (zAa 1) zAe rfl) rfl))))
  (zAq (zAB (dtp (dac (zAi ixd (zAa 0) zAd) (dac (zAi ixd (zAa 0) zAd) (dac (zCL zDd rfl T.z_tuple boot_tuple (dac (zBf (zF6 (u66 hr)) rfl T.z_sorted boot_sorted (dac (zAa 1) zAe rfl)) zAe rfl)) zAe rfl) rfl) rfl)))))
theorem ok_qn  : FnOk P w K mg base CX0 1 (a 4) (d 4) ["floor"] (spD K 1 zDQ):=by
 refine zAN (g:=zGD) (G:=zDQ) (N:=N_qn) (k:=0) rfl rfl rfl T.F_qn.F zKn fun cdv A outer s H E hr=>?_
 exact(zAn (zEZ (i:=1) zKn.nd rfl (zBB (N':=zHV) (inner:=[none,none]) (zAg s_qn) N_qn rfl rfl (by decide +kernel)) (zJg (zE8 (zBo 0) (zE8 (zBo 1) zJf))) (zBD (zAi ixd (zAa 0) zAd)) (fun _ _ _ _ _=>(zD1 rfl (zBO (zAP (i:=0) zJA) (zBO (zAP (i:=1) zJA) zD2)))) (fun _ _ _ _ _=>zD5) (fun _ _ _ _ _=>(dtp (dac (zAa 1) (dac (zAa 0) zAe rfl) rfl))))
  (zAq (zAB (dtp (dac (zAi ixd (zAa 0) zAd) (dac (zAi ixd (zAa 0) zAd) (dac (zCL zDd rfl T.z_tuple boot_tuple (dac (zBf (zF6 (u66 hr)) rfl T.z_sorted boot_sorted (dac (zAa 1) zAe rfl)) zAe rfl)) zAe rfl) rfl) rfl)))))
theorem ok_ql  : FnOk P w K mg base CX0 1 (a 5) (d 5) ["one","other"] (spD K 2 zDP):=by
 refine zAN (g:=zGC) (G:=zDP) (N:=N_ql) (k:=0) rfl rfl rfl T.F_ql.F zBz fun cdv A outer s H E hr=>?_
 exact(zAn (zAQ (i:=2) zBz.nd (zBf zDY rfl T.z_abs boot_abs (dac (zAh zAY (zAi ixd (zAa 1) zAd) (zAi ixd (zAa 0) zAd)) zAe rfl)))
  (zAn (zAQ (i:=3) zBz.nd (zBf zDY rfl T.z_abs boot_abs (dac (zAh zAY (zAi ixd (zAa 1) zAd) (zAi ixd (zAa 0) zAd)) zAe rfl)))
  (zAn (zAQ (i:=4) zBz.nd (zIi (zAU zJN (zAi ixd (zAa 1) zAd) (zAi ixd (zAa 0) zAd) (zAx _)) zAd (zDf zDE zAd)))
  (zAn (zAQ (i:=5) zBz.nd (zIi (zAU zJN (zAi ixd (zAa 1) zAd) (zAi ixd (zAa 0) zAd) (zAx _)) zAd (zDf zDE zAd)))
  (zAn (zAQ (i:=6) zBz.nd zAd)
  (zAn (zAQ (i:=7) zBz.nd zAd)
  (zAn (zD4 (i:=8) zBz.nd (dac (zAa 0) zAe rfl))
  (zAn (zL9 900 Q1 (dw_t (zGl (zAU (zDq (u64 hr)) (zAa 6) (zAa 2) (zAx _)) (zGm (zAU (zDq (u64 hr)) (zAa 7) (zAa 3) (zAx _))))) (zAn (zAQ (i:=9) zBz.nd (zAh zAZ (zAh zAy (zAh zAZ zAd (zAa 6)) zAd) (zAa 3)))
  (zAn (zAQ (i:=10) zBz.nd (zAh zAZ (zAh zAy (zAh zAZ zAd (zAa 7)) zAd) (zAa 2)))
  (zAn (zBQ (zAU zCc (zAa 9) (zAa 10) (zAx _)) (zAq (zAQ (i:=6) zBz.nd (zAh zAy (zAa 6) zAd))) zBR)
  (zAn (zBQ (zAU zCc (zAa 10) (zAa 9) (zAx _)) (zAq (zAQ (i:=7) zBz.nd (zAh zAy (zAa 7) zAd))) zBR)
  (zAq (zIn (i:=8) (dtp (dac (zAh zAy (zAi ixd (zAa 0) zAd) (zAh zAZ (zAa 4) (zAa 6))) (dac (zAh zAy (zAi ixd (zAa 0) zAd) (zAh zAZ (zAa 5) (zAa 7))) zAe rfl) rfl)))))))))
  (zAq (zAB (zAa 8)))))))))))
theorem ok_q3  : FnOk P w K mg base CX0 1 (a 6) (d 6) ["cells"] (spD K 1 zC4):=by
 refine zAN (g:=zGB) (G:=zC4) (N:=N_q3) (k:=0) rfl rfl rfl T.F_q3.F zFL fun cdv A outer s H E hr=>?_
 exact(zAn (zD4 (i:=1) zFL.nd zAe)
  (zAn (zDg Q1 rfl (zLW rfl T.z_zip (dac (zAa 0) (dac (zGd (zAa 0) (zGh zAd) zGg) zAe rfl) rfl)) (zD1 rfl (zBO (zAP (i:=2) zFL.nd) (zBO (zAP (i:=3) zFL.nd) zD2))) (zAq (zBQ (dw_t (zIo (zAU (zA3 (u64 hr)) (zAi ixd (zAa 2) zAd) (zAi ixd (zAa 3) zAd) (zAx _)) (zIp (zAU (zA3 (u64 hr)) (zAi ixd (zAa 2) zAd) (zAi ixd (zAa 3) zAd) (zAx _))))) (zAq (zIn (i:=1) (zCL zDd rfl T.z_tuple boot_tuple (dac (zBf (zF6 (u66 hr)) rfl T.z_sorted boot_sorted (dac (@zEX _ _ _ _ (dac (dtp (dac (zAi ixd (zAa 2) zAd) (dac (zAi ixd (zAa 3) zAd) zAe rfl) rfl)) (dac (dtp (dac (zAi ixd (zAa 3) zAd) (dac (zAi ixd (zAa 2) zAd) zAe rfl) rfl)) zAe rfl) rfl)) zAe rfl)) zAe rfl)))) zBR)))
  (zAq (zAB (zAa 1)))))
theorem ok_qa  : FnOk P w K mg base CX0 1 (a 7) (d 7) ["one_end","middle","other_end"] (spD K 3 zC5):=by
 refine zAN (g:=zIO) (G:=zC5) (N:=N_qa) (k:=0) rfl rfl rfl T.F_qa.F sc_qa fun cdv A outer s H E hr=>?_
 exact(zAq (zAB (de_or (zEV zCc zCc (zAa 0) (zAa 1) (zAa 2)) (zD0 (zEV zCc zCc (zAa 2) (zAa 1) (zAa 0))))))
theorem ok_q6  : FnOk P w K mg base CX0 1 (a 8) (d 8) ["cells"] (spD K 1 zDO):=by
 refine zAN (g:=zGA) (G:=zDO) (N:=N_q6) (k:=0) rfl rfl rfl T.F_q6.F zFM fun cdv A outer s H E hr=>?_
 exact(zAn (zD4 (i:=1) zFM.nd zAe)
  (zAn (zDg Q1 rfl (zLT rfl T.z_enumerate (dac (zAa 0) zAe rfl)) (zD1 rfl (zBO (zAP (i:=2) zFM.nd) (zBO (zAP (i:=3) zFM.nd) zD2))) (zAq (zGj (i:=1) (zCM rfl (zBB (N':=zHQ) (inner:=[none,some 3]) (zAg s_q6) N_q6 rfl rfl (by decide +kernel)) (zBo 0) (zBD (zGd (zAa 0) (zGh (zAh zAy (zAa 2) zAd)) zGg)) (fun _ _ _ _ _=>(zAP (i:=0) zNs)) (fun _ _ _ _ _=>zD5) (fun _ _ _ _ _=>(dtp (dac (zAa 1) (dac (zAa 0) zAe rfl) rfl)))))))
  (zAq (zAB (zAa 1)))))
theorem ok_qg  : FnOk P w K mg base CX0 1 (a 9) (d 9) ["_law_script","_law_k"] (spD K 2 zDM):=by
 refine zAN (g:=zIL) (G:=zDM) (N:=N_qg) (k:=0) rfl rfl rfl T.F_qg.F sc_qg fun cdv A outer s H E hr=>?_
 exact(zAn (zBQ (zAU (zCn (u64 hr)) (zAa 0) (@zEX _ _ _ _ zAe) (zAx _)) (zAq (zAB (zAh zAZ zAd (zAa 1)))) zBR)
  (zAq (zAB (zAh zAy (zAi ixd (zAa 0) (zAh zDr (zAa 1) (zBf zDc rfl T.z_len PySem.boot_len (dac (zAa 0) zAe rfl)))) (zAh zAZ zAd (zAh zFx (zAa 1) (zBf zDc rfl T.z_len PySem.boot_len (dac (zAa 0) zAe rfl))))))))
theorem ok_q1(G_qk:FnOk P w K mg base CX0 1 (a 0) (d 0) ["thing"] (spD K 1 zC6)):FnOk P w K mg base CX0 2 (a 11) (d 11) ["thing"] (spD K 1 zDS):=by
 refine zAN (g:=zIS) (G:=zDS) (N:=N_q1) (k:=1) rfl rfl rfl T.F_q1.F sc_q1 fun cdv A outer s H E hr=>?_
 exact(zAn (zBQ (dw_t (zGl (zDh (zCk (zGb (T:="tuple") (.inr (.inl rfl)) rfl T.z_isinstance rfl T.z_tuple boot_tuple (by decide) (zAa 0)))) (zGm (zAU (zA3 (u64 hr)) (zBf zDc rfl T.z_len PySem.boot_len (dac (zAa 0) zAe rfl)) zAd (zAx _))))) (zAq (zAB zBb)) zBR)
  (zAq (zAB (zEU (dcl T.F_qk G_qk hr rfl (dac (zAi ixd (zAa 0) zAd) zAe rfl) ln1) (zD0 (dcl T.F_qk G_qk hr rfl (dac (zAi ixd (zAa 0) zAd) zAe rfl) ln1))))))
theorem ok_q8(G_qe:FnOk P w K mg base CX0 1 (a 1) (d 1) ["floor"] (spD K 1 zDN)):FnOk P w K mg base CX0 2 (a 12) (d 12) ["floor"] (spD K 1 zDW):=by
 refine zAN (g:=zIW) (G:=zDW) (N:=N_q8) (k:=1) rfl rfl rfl T.F_q8.F sc_q8 fun cdv A outer s H E hr=>?_
 exact(zAq (zAB (zIj rfl (u66 hr) rfl T.z_sorted boot_sorted (zMa rfl (u66 hr) (zGk rfl (u64 hr) rfl T.z_set boot_set (dac (dcl T.F_qe G_qe hr rfl (dac (zAa 0) zAe rfl) ln1) zAe rfl)) (zGk rfl (u64 hr) rfl T.z_set boot_set (dac (zAi ixd (zAa 0) zAd) zAe rfl))))))
theorem ok_qp(G_qa:FnOk P w K mg base CX0 1 (a 7) (d 7) ["one_end","middle","other_end"] (spD K 3 zC5)):FnOk P w K mg base CX0 2 (a 13) (d 13) ["one","other","cell"] (spD K 3 zDU):=by
 refine zAN (g:=zGF) (G:=zDU) (N:=N_qp) (k:=1) rfl rfl rfl T.F_qp.F zFO fun cdv A outer s H E hr=>?_
 exact(zAn (zBQ (dw_t (zGl (zDh (zCk (dcl T.F_qa G_qa hr rfl (dac (zAi ixd (zAa 0) zAd) (dac (zAi ixd (zAa 2) zAd) (dac (zAi ixd (zAa 1) zAd) zAe rfl) rfl) rfl) ln3))) (zGm (zDh (zCk (dcl T.F_qa G_qa hr rfl (dac (zAi ixd (zAa 0) zAd) (dac (zAi ixd (zAa 2) zAd) (dac (zAi ixd (zAa 1) zAd) zAe rfl) rfl) rfl) ln3)))))) (zAq (zAB zBb)) zBR)
  (zAn (zAQ (i:=3) zFO.nd (zAh zAY (zAi ixd (zAa 1) zAd) (zAi ixd (zAa 0) zAd)))
  (zAn (zAQ (i:=4) zFO.nd (zAh zAY (zAi ixd (zAa 1) zAd) (zAi ixd (zAa 0) zAd)))
  (zAn (zAQ (i:=5) zFO.nd (zBf zDY rfl T.z_abs boot_abs (dac (zAh zAY (zAh zAZ (zAa 3) (zAh zAY (zAi ixd (zAa 2) zAd) (zAi ixd (zAa 0) zAd))) (zAh zAZ (zAa 4) (zAh zAY (zAi ixd (zAa 2) zAd) (zAi ixd (zAa 0) zAd)))) zAe rfl)))
  (zAq (zAB (zEW zCc (zAh zAZ zAd (zAa 5)) (zAh zAy (zBf zDY rfl T.z_abs boot_abs (dac (zAa 3) zAe rfl)) (zBf zDY rfl T.z_abs boot_abs (dac (zAa 4) zAe rfl))) (zAx _))))))))
theorem ok_qi(G_ql:FnOk P w K mg base CX0 1 (a 5) (d 5) ["one","other"] (spD K 2 zDP))(G_q3:FnOk P w K mg base CX0 1 (a 6) (d 6) ["cells"] (spD K 1 zC4)):FnOk P w K mg base CX0 2 (a 14) (d 14) ["solids","one","other"] (spD K 3 zDT):=by
 refine zAN (g:=zGE) (G:=zDT) (N:=N_qi) (k:=1) rfl rfl rfl T.F_qi.F zEz fun cdv A outer s H E hr=>?_
 exact(zAn (zAQ (i:=3) zEz.nd (dcl T.F_ql G_ql hr rfl (dac (zAa 1) (dac (zAa 2) zAe rfl) rfl) ln2))
  (zAn (zDg Q1 rfl (zBD (zGd (zAa 3) zGg (zGh (zDf zDE zAd)))) (zAP (i:=4) zEz.nd) (zAq (zBQ (zAU (zG7 (u65 hr)) (zAa 4) (zAa 0) (by with_unfolding_all rfl)) (zAq (zAB zBb)) zBR)))
  (zAn (zDg Q1 rfl (zBD (dcl T.F_q3 G_q3 hr rfl (dac (zAa 3) zAe rfl) ln1)) (zD1 rfl (zBO (zAP (i:=5) zEz.nd) (zBO (zAP (i:=6) zEz.nd) zD2))) (zAq (zBQ (dw_t (zIo (zAU (zG7 (u65 hr)) (zAa 5) (zAa 0) (by with_unfolding_all rfl)) (zIp (zAU (zG7 (u65 hr)) (zAa 6) (zAa 0) (by with_unfolding_all rfl))))) (zAq (zAB zBb)) zBR)))
  (zAq (zAB zBb)))))
theorem ok_q7(G_qg:FnOk P w K mg base CX0 1 (a 9) (d 9) ["_law_script","_law_k"] (spD K 2 zDM)):FnOk P w K mg base CX0 2 (a 15) (d 15) ["_law_script","_law_k","_law_many"] (spD K 3 zAX):=by
 refine zAN (g:=zIM) (G:=zAX) (N:=N_q7) (k:=1) rfl rfl rfl T.F_q7.F zHu fun cdv A outer s H E hr=>?_
 exact(zAn (zAQ (i:=3) zHu.nd (zAh zDr (zAh zAy (zAh zAZ (zAh zDr (dcl T.F_qg G_qg hr rfl (dac (zAa 0) (dac (zAa 1) zAe rfl) rfl) ln2) zAd) zAd) (zAh zAZ zAd (zAh zAy (zAa 1) zAd))) zAd))
  (zAn (zAQ (i:=3) zHu.nd (zAh zDr (zAh zAy (zAh zAZ (zAa 3) (zAa 3)) (zAh zFx (zAa 3) zAd)) zAd))
  (zAq (zAB (zAh zDr (zAh zFx (zAh zDr (zAh zAy (zAh zAZ (zAa 3) (zAa 3)) (zAh zFx (zAa 3) zAd)) zAd) zAd) (zAa 2))))))
theorem ok_qm(G_q1:FnOk P w K mg base CX0 2 (a 11) (d 11) ["thing"] (spD K 1 zDS)):FnOk P w K mg base CX0 3 (a 16) (d 16) ["floor","thing"] (spD K 2 zDR):=by
 refine zAN (g:=zIP) (G:=zDR) (N:=N_qm) (k:=2) rfl rfl rfl T.F_qm.F sc_qm fun cdv A outer s H E hr=>?_
 exact(zAn (zBQ (zDh (zCk (dcl T.F_q1 G_q1 hr rfl (dac (zAa 1) zAe rfl) ln1))) (zAq (zAB zBb)) zBR)
  (zAq (zAB (zEU (zEV zCc (zDq (u64 hr)) zAd (zAi ixd (zAa 1) zAd) (zAi ixd (zAa 0) zAd)) (zD0 (zEV zCc (zDq (u64 hr)) zAd (zAi ixd (zAa 1) zAd) (zAi ixd (zAa 0) zAd)))))))
theorem ok_q4(G_qi:FnOk P w K mg base CX0 2 (a 14) (d 14) ["solids","one","other"] (spD K 3 zDT)):FnOk P w K mg base CX0 3 (a 17) (d 17) ["solids","one","other"] (spD K 3 zC7):=by
 refine zAN (g:=zIY) (G:=zC7) (N:=N_q4) (k:=2) rfl rfl rfl T.F_q4.F sc_q4 fun cdv A outer s H E hr=>?_
 exact(zAq (zAB (zEU (zEW (zN4 (u65 hr)) (zAa 2) (zAa 0) (by with_unfolding_all rfl)) (zD0 (dcl T.F_qi G_qi hr rfl (dac (zAa 0) (dac (zAa 1) (dac (zAa 2) zAe rfl) rfl) rfl) ln3)))))
theorem ok_qc(G_q7:FnOk P w K mg base CX0 2 (a 15) (d 15) ["_law_script","_law_k","_law_many"] (spD K 3 zAX)):FnOk P w K mg base CX0 3 (a 18) (d 18) ["_law_script","_law_at","_law_most"] (spD K 3 zC3):=by
 refine zAN (g:=zGv) (G:=zC3) (N:=N_qc) (k:=2) rfl rfl rfl T.F_qc.F zDA fun cdv A outer s H E hr=>?_
 exact(zAn (zAQ (i:=3) zDA.nd (zAh zAy zAd (dcl T.F_q7 G_q7 hr rfl (dac (zAa 0) (dac (zAa 1) (dac (zAa 2) zAe rfl) rfl) rfl) ln3)))
  (zAn (zAQ (i:=4) zDA.nd (zAh zAy zAd (dcl T.F_q7 G_q7 hr rfl (dac (zAa 0) (dac (zAh zAy (zAa 1) zAd) (dac (zAa 2) zAe rfl) rfl) rfl) ln3)))
  (zAn (zAQ (i:=5) zDA.nd (zAi ixd (@zEX _ _ _ _ (dac zAd (dac zAd (dac zAd (dac zAd (dac zAd zAe rfl) rfl) rfl) rfl) rfl)) (dcl T.F_q7 G_q7 hr rfl (dac (zAa 0) (dac (zAh zAy (zAa 1) zAd) (dac zAd zAe rfl) rfl) rfl) ln3)))
  (zAn (zD4 (i:=6) zDA.nd zAe)
  (zAn (zDg Q1 rfl (zB2 rfl T.z_range (dac (zAa 3) zAe rfl)) (zAP (i:=7) zDA.nd) (zAq (zGj (i:=6) (zCM rfl (zBB (N':=zHR) (inner:=[none,some 7,some 0,some 5,some 1]) (zAg s_qc) N_qc rfl rfl (by decide +kernel)) (zBo 0) (zB2 rfl T.z_range (dac (zAa 4) zAe rfl)) (fun _ _ _ _ _=>(zAP (i:=0) zNt)) (fun _ _ _ _ _=>(zDi (zAU (zCn (u64 hr)) (dcl T.F_q7 G_q7 hr rfl (dac (zAa 2) (dac (zAh zAy (zAh zAy (zAh zAy (zAa 4) zAd) (zAh zAZ zAd (zAa 1))) (zAa 0)) (dac (zAa 3) zAe rfl) rfl) rfl) ln3) zAd (zAx _)))) (fun _ _ _ _ _=>(dtp (dac (zAa 1) (dac (zAa 0) zAe rfl) rfl)))))))
  (zAq (zAB (dtp (dac (zAa 3) (dac (zAa 4) (dac (zCL zDd rfl T.z_tuple boot_tuple (dac (zAa 6) zAe rfl)) zAe rfl) rfl) rfl)))))))))
theorem ok_q0(G_qm:FnOk P w K mg base CX0 3 (a 16) (d 16) ["floor","thing"] (spD K 2 zDR)):FnOk P w K mg base CX0 4 (a 20) (d 20) ["floor","cell"] (spD K 2 zBZ):=by
 refine zAN (g:=zIX) (G:=zBZ) (N:=N_q0) (k:=3) rfl rfl rfl T.F_q0.F sc_q0 fun cdv A outer s H E hr=>?_
 exact(zAq (zBQ (zDh (zCk (dcl T.F_qm G_qm hr rfl (dac (zAa 0) (dac (zAa 1) zAe rfl) rfl) ln2))) (zAq zL8) zBR))
theorem ok_qj(G_q0:FnOk P w K mg base CX0 4 (a 20) (d 20) ["floor","cell"] (spD K 2 zBZ)):FnOk P w K mg base CX0 5 (a 22) (d 22) ["floor","cell"] (spD K 2 zCF):=by
 refine zAN (g:=zIQ) (G:=zCF) (N:=N_qj) (k:=4) rfl rfl rfl T.F_qj.F sc_qj fun cdv A outer s H E hr=>?_
 exact(zAn (zGi (dcl T.F_q0 G_q0 hr rfl (dac (zAa 0) (dac (zAa 1) zAe rfl) rfl) ln2))
  (zAq (zAB (zEW (zG6 (u65 hr)) (zAa 1) (zAi ixd (zAa 0) zAd) (by with_unfolding_all rfl)))))
theorem ok_q9(G_q0:FnOk P w K mg base CX0 4 (a 20) (d 20) ["floor","cell"] (spD K 2 zBZ)):FnOk P w K mg base CX0 5 (a 23) (d 23) ["floor","cell"] (spD K 2 zCH):=by
 refine zAN (g:=zGK) (G:=zCH) (N:=N_q9) (k:=4) rfl rfl rfl T.F_q9.F sc_q9 fun cdv A outer s H E hr=>?_
 exact(zAn (zGi (dcl T.F_q0 G_q0 hr rfl (dac (zAa 0) (dac (zAa 1) zAe rfl) rfl) ln2))
  (zAq (zAB (dtp (dac (zAi ixd (zAa 0) zAd) (dac (zAi ixd (zAa 0) zAd) (dac (zCL zDd rfl T.z_tuple boot_tuple (dac (zIj rfl (u66 hr) rfl T.z_sorted boot_sorted (zMb (zGk rfl (u64 hr) rfl T.z_set boot_set (dac (zAh zAy (zAi ixd (zAa 0) zAd) (dtp (dac (zAa 1) zAe rfl))) zAe rfl)))) zAe rfl)) zAe rfl) rfl) rfl)))))
theorem ok_q5(G_q0:FnOk P w K mg base CX0 4 (a 20) (d 20) ["floor","cell"] (spD K 2 zBZ)):FnOk P w K mg base CX0 5 (a 24) (d 24) ["floor","cell"] (spD K 2 zCI):=by
 refine zAN (g:=zGL) (G:=zCI) (N:=N_q5) (k:=4) rfl rfl rfl T.F_q5.F sc_q5 fun cdv A outer s H E hr=>?_
 exact(zAn (zGi (dcl T.F_q0 G_q0 hr rfl (dac (zAa 0) (dac (zAa 1) zAe rfl) rfl) ln2))
  (zAq (zAB (dtp (dac (zAi ixd (zAa 0) zAd) (dac (zAi ixd (zAa 0) zAd) (dac (zCL zDd rfl T.z_tuple boot_tuple (dac (zCM rfl (zBB (N':=zHP) (inner:=[none,some 1]) (zAg s_q5) N_q5 rfl rfl (by decide +kernel)) (zBo 0) (zBD (zAi ixd (zAa 0) zAd)) (fun _ _ _ _ _=>(zAP (i:=0) zNr)) (fun _ _ _ _ _=>(zDi (zAU (zA3 (u64 hr)) (zAa 0) (zAa 1) (zAx _)))) (fun _ _ _ _ _=>(zAa 0))) zAe rfl)) zAe rfl) rfl) rfl)))))
theorem ok_q2(G_q5:FnOk P w K mg base CX0 5 (a 24) (d 24) ["floor","cell"] (spD K 2 zCI))(G_qo:FnOk P w K mg base CX0 1 (a 2) (d 2) ["things"] (spD K 1 zBY))(G_q6:FnOk P w K mg base CX0 1 (a 8) (d 8) ["cells"] (spD K 1 zDO))(G_qp:FnOk P w K mg base CX0 2 (a 13) (d 13) ["one","other","cell"] (spD K 3 zDU))(G_q4:FnOk P w K mg base CX0 3 (a 17) (d 17) ["solids","one","other"] (spD K 3 zC7))(G_q9:FnOk P w K mg base CX0 5 (a 23) (d 23) ["floor","cell"] (spD K 2 zCH))(G_q8:FnOk P w K mg base CX0 2 (a 12) (d 12) ["floor"] (spD K 1 zDW)):FnOk P w K mg base CX0 6 (a 25) (d 25) ["floor","cell"] (spD K 2 zCG):=by
 refine zAN (g:=zGJ) (G:=zCG) (N:=N_q2) (k:=5) rfl rfl rfl T.F_q2.F zDz fun cdv A outer s H E hr=>?_
 exact(zAn (zAQ (i:=2) zDz.nd (dcl T.F_q5 G_q5 hr rfl (dac (zAa 0) (dac (zAa 1) zAe rfl) rfl) ln2))
  (zAn (zEZ (i:=3) zDz.nd rfl (zBB (N':=zHM) (inner:=[none,some 1]) (zAg s_q2) N_q2 rfl rfl (by decide +kernel)) (zBo 0) (zBD (dcl T.F_q6 G_q6 hr rfl (dac (dcl T.F_q8 G_q8 hr rfl (dac (zAa 2) zAe rfl) ln1) zAe rfl) ln1)) (fun _ _ _ _ _=>(zAP (i:=0) zNo)) (fun _ _ _ _ _=>(zDi (zCk (dcl T.F_qp G_qp hr rfl (dac (zAi ixd (zAa 0) zAd) (dac (zAi ixd (zAa 0) zAd) (dac (zAa 1) zAe rfl) rfl) rfl) ln3)))) (fun _ _ _ _ _=>(zAa 0)))
  (zAn (zAQ (i:=4) zDz.nd (dcl T.F_qo G_qo hr rfl (dac (zAi ixd (zAa 2) zAd) zAe rfl) ln1))
  (zAn (zEZ (i:=5) zDz.nd rfl (zBB (N':=zHN) (inner:=[none,some 4]) (zAg s_q2) N_q2 rfl rfl (by decide +kernel)) (zBo 0) (zBD (zAa 3)) (fun _ _ _ _ _=>(zAP (i:=0) zNp)) (fun _ _ _ _ _=>(zDi (zCk (dcl T.F_q4 G_q4 hr rfl (dac (zAa 1) (dac (zAi ixd (zAa 0) zAd) (dac (zAi ixd (zAa 0) zAd) zAe rfl) rfl) rfl) ln3)))) (fun _ _ _ _ _=>(zAa 0)))
  (zAn (zAQ (i:=6) zDz.nd (dcl T.F_qo G_qo hr rfl (dac (zAi ixd (dcl T.F_q9 G_q9 hr rfl (dac (zAa 0) (dac (zAa 1) zAe rfl) rfl) ln2) zAd) zAe rfl) ln1))
  (zAq (zAB (zBf zDc rfl T.z_len PySem.boot_len (dac (zCM rfl (zBB (N':=zHO) (inner:=[none,some 6]) (zAg s_q2) N_q2 rfl rfl (by decide +kernel)) (zBo 0) (zBD (zAa 5)) (fun _ _ _ _ _=>(zAP (i:=0) zNq)) (fun _ _ _ _ _=>(zDi (zDh (zCk (dcl T.F_q4 G_q4 hr rfl (dac (zAa 1) (dac (zAi ixd (zAa 0) zAd) (dac (zAi ixd (zAa 0) zAd) zAe rfl) rfl) rfl) ln3))))) (fun _ _ _ _ _=>(zAa 0))) zAe rfl)))))))))
end
end My
namespace My
open PySem PySem.Spec PySem.SeqAt PyProof.Rows L2 CL DL OB SD ZL SL EL DC
abbrev B3:=D × List D × List D
theorem zBG{K:PySem.W.Frag}{φ F:Addr->Prop}{H:Hp}{p:Addr}{o₀ o:HO}(z:∀ a,F a->H a≠none)(hp:H p=some o₀)(n1:∀ xs,o₀≠.tup xs)(n2:∀ ob xs,o₀≠.frz ob (.tup xs))(nf:¬ F p)(m:φ p):Keep K φ F F H (upd H p o):=by
 have ne:∀ a,F a->a≠p:=fun a f h=>nf (h ▸ f)
 refine⟨⟨fun _ h=>h,fun a xs h=>?_,fun a xs f h=>?_,fun a φ f h=>by rw [zAf (ne a f)];exact h⟩,fun a u h n=>by rw [zAf (fun w=>n (by rw [w];exact m))];exact h,fun _ h=>.inl h,fun a f=>by rw [zAf (ne a f)];exact z a f,fun a h=>?_⟩
 ·rcases h with(h | ⟨ob,h⟩) | h
  ·exact .inl (.inl (by rw [zAf (by intro w;subst w;rw [hp]at h;exact n1 xs (Qy h))];exact h))
  ·exact .inl (.inr ⟨ob,by rw [zAf (by intro w;subst w;rw [hp]at h;exact n2 ob xs (Qy h))];exact h⟩)
  ·exact .inr h
 ·rcases h with h | ⟨ob,h⟩
  ·exact .inl (by rw [zAf (ne a f)];exact h)
  ·exact .inr ⟨ob,by rw [zAf (ne a f)];exact h⟩
 ·by_cases w:a=p
  ·subst w;rw [zAs]at h;cases h
  ·rwa [zAf w]at h
structure LAt(K:PySem.W.Frag)(C:Addr)(F:Addr->Prop)(H:Hp)(p s o dx:Addr)(fs:List (Str × V))(vf:V)(f:D)(dS dO:List D):Prop where
 hp:H p=some (.ins C dx fs)
 lf:fs.lookup ("floor":Str)=some vf
 rf:Rep K F H f vf
 hs:∃ vs,H s=some (.lst vs)/\Reps K F H dS vs
 ho:∃ vs,H o=some (.lst vs)/\Reps K F H dO vs
 ne:s≠o
 np:¬ F p
 ns:¬ F s
 no:¬ F o
def trip(p s o x:Addr):Prop:=x=p ∨ x=s ∨ x=o
theorem LAt.keep{K:PySem.W.Frag}{C:Addr}{F F':Addr->Prop}{H H':Hp}{p s o dx:Addr}{fs:List (Str × V)}{vf:V}{f:D}{dS dO:List D}(L:LAt K C F H p s o dx fs vf f dS dO)(T:Stay K F F' H H')(k:∀ a u,trip p s o a->H a=some u->H' a=some u)(n:∀ a,trip p s o a->¬ F' a):LAt K C F' H' p s o dx fs vf f dS dO:=by
 obtain⟨vs,h1,r1⟩:=L.hs
 obtain⟨us,h2,r2⟩:=L.ho
 exact⟨k _ _ (.inl rfl) L.hp,L.lf,L.rf.stay T,⟨vs,k _ _ (.inr (.inl rfl)) h1,r1.stay T⟩,⟨us,k _ _ (.inr (.inr rfl)) h2,r2.stay T⟩,L.ne,n _ (.inl rfl),n _ (.inr (.inl rfl)),n _ (.inr (.inr rfl))⟩
theorem LAt.live{K:PySem.W.Frag}{C:Addr}{F:Addr->Prop}{H:Hp}{p s o dx:Addr}{fs:List (Str × V)}{vf:V}{f:D}{dS dO:List D}(L:LAt K C F H p s o dx fs vf f dS dO):∀ a,trip p s o a->H a≠none/\¬ F a:=by
 obtain⟨vs,h1,_⟩:=L.hs
 obtain⟨us,h2,_⟩:=L.ho
 rintro a (rfl | rfl | rfl)
 ·exact⟨by rw [L.hp];simp,L.np⟩
 ·exact⟨by rw [h1];simp,L.ns⟩
 ·exact⟨by rw [h2];simp,L.no⟩
def flds(vf:V)(a c:Addr):List (Str × V):=[("floor",vf),("done",.ref a),("undone",.ref c)]
def BAt(K:PySem.W.Frag)(C:Addr)(F:Addr->Prop)(H:Hp)(p:Addr)(b:B3)(φ:Addr->Prop):Prop:=∃ dx a c vf,LAt K C F H p a c dx (flds vf a c) vf b.1 b.2.1 b.2.2/\∀ x,φ x ↔ trip p a c x
def bK(K:PySem.W.Frag)(C:Addr):Kind K B3 where
 C:=C
 fn:=["floor","done","undone"]
 At:=BAt K C
 own:=fun⟨dx,a,c,vf,L,h⟩=>⟨(h _).mpr (.inl rfl),fun x hx=>L.live x ((h x).mp hx)⟩
 ins:=fun⟨dx,a,c,vf,L,h⟩=>⟨dx,_,L.hp,rfl⟩
 keep:=fun⟨dx,a,c,vf,L,h⟩ T k n=>⟨dx,a,c,vf,L.keep T (fun x u hx=>k x u ((h x).mpr hx)) (fun x hx=>n x ((h x).mpr hx)),h⟩
theorem zEN{K:PySem.W.Frag}{B:Type}{k:Kind K B}{F F':Addr->Prop}{H H':Hp}{p:Addr}{b:B}{φ:Addr->Prop}(h:k.At F H p b φ)(e:Ext F F' H H'):k.At F' H' p b φ:=
 k.keep h e.stay (fun a o _ q=>e.same a o q) fun a f f'=>by
  have lv:=(k.own h).2 a f
  rcases e.new a f' with w | ⟨w,_⟩
  ·exact lv.2 w
  ·exact lv.1 w
theorem zCe{K:PySem.W.Frag}{B:Type}{k:Kind K B}{n:Nat}{G:GM B}{vs:List V}{H:Hp}{Q:VK}{E:XK}(h:spO k n G vs H Q E):vs.length=n:=by
 obtain⟨F,p,b,φ,ds,r,b',hl,_,_,ar,_⟩:=h
 rw [<- zEp ar,hl]
theorem zHj(vf:V)(a c:Addr)(y:V):putF "undone" y (flds vf a c)=[(("floor":Str),vf),("done",.ref a),("undone",y)]:=by
 unfold flds putF
 rw [if_neg (by decide)]
 unfold putF
 rw [if_neg (by decide)]
 unfold putF
 rw [if_pos rfl]
theorem put_d(vf:V)(a c:Addr)(y:V):putF "done" y (flds vf a c)=[(("floor":Str),vf),("done",y),("undone",.ref c)]:=by
 unfold flds putF
 rw [if_neg (by decide)]
 unfold putF
 rw [if_pos rfl]
theorem zHi(vf:V)(a c:Addr)(y:V):putF "floor" y (flds vf a c)=flds y a c:=by
 unfold flds putF
 rw [if_pos rfl]
theorem zBh(vf:V)(a c:Addr):(flds vf a c).lookup ("floor":Str)=some vf:=rfl
theorem zEg(vf:V)(a c:Addr):(flds vf a c).lookup ("done":Str)=some (.ref a):=by
 unfold flds
 rw [QJ,show(("done":Str) == ("floor":Str))=false from by decide,QJ,show(("done":Str) == ("done":Str))=true from by decide]
theorem zFe(vf:V)(a c:Addr):(flds vf a c).lookup ("undone":Str)=some (.ref c):=by
 unfold flds
 rw [QJ,show(("undone":Str) == ("floor":Str))=false from by decide,QJ,show(("undone":Str) == ("done":Str))=false from by decide,QJ,show(("undone":Str) == ("undone":Str))=true from by decide]
structure Fm(K:PySem.W.Frag)(C:Addr)(n q:Str)(st:Stmt)(ps:List Str)(a:Addr)(d:FuncData):Prop where
 F:Fun K n q st a d
 m:Meth K C n a
 b:L2.Binds K d ps []
abbrev zFk:Stmt:=zBu (top 28) 0
abbrev zFo:Stmt:=zBu (top 28) 1
abbrev zFp:Stmt:=zBu (top 28) 2
abbrev zFm:Stmt:=zBu (top 28) 3
abbrev zFi:Stmt:=zBu (top 28) 4
abbrev zFg:Stmt:=zBu (top 28) 5
abbrev zFn:Stmt:=zBu (top 28) 6
abbrev zFl:Stmt:=zBu (top 28) 7
abbrev zFf:Stmt:=zBu (top 28) 8
abbrev zFj:Stmt:=zBu (top 28) 9
abbrev zFh:Stmt:=zBu (top 28) 10
abbrev zFq:Stmt:=zBu (top 28) 11
structure TxB(K:PySem.W.Frag)(mg:Str->Option Value)(C:Addr):Prop where
 cl:Cls K C
 nF:zB0 K C "floor"
 nD:zB0 K C "done"
 nU:zB0 K C "undone"
 mC:mg "Builder"=some (.ref C)
 len:mg "len"=none
 lst:mg "list"=none
def zAS:GM B3
 | [none],b=>some (b.1,b)
 | _,_=>none
def zBa:GM B3
 | [none],b=>some (.tuple [.int (b.2.1.length:Int),.int (b.2.2.length:Int)],b)
 | _,_=>none
def zBN:GM B3
 | [none,some wd,some f],b=>if b.2.1.length<1000 then some (.none,(f,b.2.1++[.tuple [wd,b.1]],[]))else none
 | _,_=>none
def zCC:GM B3
 | [none],b=>(zDV [b.1]).bind fun f=>(zBN [none,some (.str "mirror"),some f] b).bind fun r=>some (.none,r.2)
 | _,_=>none
def zCB:GM B3
 | [none],b=>(zDQ [b.1]).bind fun f=>(zBN [none,some (.str "flip"),some f] b).bind fun r=>some (.none,r.2)
 | _,_=>none
def zCD:GM B3
 | [none,some c],b=>(zCF [b.1,c]).bind fun s=>(asB s).bind fun t=>(if t=true then some (.int 0)else zCG [b.1,c]).bind fun n=>(zCH [b.1,c]).bind fun f=>(zBN [none,some (.str "put"),some f] b).bind fun r=>some (n,r.2)
 | _,_=>none
def zCE:GM B3
 | [none,some c],b=>(zCF [b.1,c]).bind fun s=>(asB s).bind fun t=>(if t=true then zCG [b.1,c]else some (.int 0)).bind fun n=>(zCI [b.1,c]).bind fun f=>(zBN [none,some (.str "take"),some f] b).bind fun r=>some (n,r.2)
 | _,_=>none
def GL(f:D)(dS dO:List D):Option (D × D × List D × List D):=(dEq (.list dS) (.list [])).bind fun e=>(asB e).bind fun t=>if t=true then none else match dS.getLast? with
 | some (.tuple [wd,g])=>if dO.length<1000 then some (wd,g,dS.dropLast,dO++[.tuple [wd,f]])else none
 | _=>none
def zBA:GM B3
 | [none],b=>(GL b.1 b.2.1 b.2.2).bind fun r=>some (r.1,r.2.1,r.2.2.1,r.2.2.2)
 | _,_=>none
def zBX:GM B3
 | [none],b=>(GL b.1 b.2.2 b.2.1).bind fun r=>some (r.1,r.2.1,r.2.2.2,r.2.2.1)
 | _,_=>none
def zDL:List D->Option B3
 | [f]=>some (f,[],[])
 | _=>none
def zEK:B3->Option B3:=fun b=>some b
theorem zO0:zAm ["self"] ["self"] (zAg zFn):=fsc rfl (by decide +kernel)
theorem zOV:zAm ["self"] ["self"] (zAg zFh):=fsc rfl (by decide +kernel)
theorem zOU:zAm ["self","word","floor"] ["self","word","floor"] (zAg zFg):=fsc rfl (by decide +kernel)
theorem zOZ:zAm ["self"] ["self"] (zAg zFm):=fsc rfl (by decide +kernel)
theorem zOW:zAm ["self"] ["self"] (zAg zFi):=fsc rfl (by decide +kernel)
theorem zKk:zAm ["self","cell","fewer"] ["self","cell"] (zAg zFo):=fsc rfl (by decide +kernel)
theorem zKo:zAm ["self","cell","more"] ["self","cell"] (zAg zFp):=fsc rfl (by decide +kernel)
theorem zKj:zAm ["self","steps","others","step"] ["self","steps","others"] (zAg zFl):=fsc rfl (by decide +kernel)
theorem zOT:zAm ["self"] ["self"] (zAg zFf):=fsc rfl (by decide +kernel)
theorem zOX:zAm ["self"] ["self"] (zAg zFj):=fsc rfl (by decide +kernel)
theorem zOY:zAm ["self","floor"] ["self","floor"] (zAg zFk):=fsc rfl (by decide +kernel)
theorem zKp:zAm ["self","other"] ["self"] (zAg zFq):=fsc rfl (by decide +kernel)
theorem zDn{xs:List V}:(∀ ys,HO.lst xs≠.tup ys)/\∀ ob ys,HO.lst xs≠.frz ob (.tup ys):=⟨(by intro _ h;cases h),(by intro _ _ h;cases h)⟩
theorem zA8{C dx:Addr}{fs:List (Str × V)}:(∀ ys,HO.ins C dx fs≠.tup ys)/\∀ ob ys,HO.ins C dx fs≠.frz ob (.tup ys):=⟨(by intro _ h;cases h),(by intro _ _ h;cases h)⟩
theorem zDo{vf:V}{a c:Addr}{m:Str}(h:(["floor","done","undone"]:List Str).contains m=false):(flds vf a c).lookup m=none:=zEh h
def zKB(K:PySem.W.Frag)(C:Addr):Sp:=fun vs H Q _=>∃(F:Addr->Prop) (p s o dx:Addr) (fs:List (Str × V)) (vf:V) (f:D) (dS dO:List D) (r:D × D × List D × List D),vs=[.ref p,.ref s,.ref o]/\(∀ a,F a->H a≠none)/\fs.length<1000/\LAt K C F H p s o dx fs vf f dS dO/\GL f dS dO=some r /\
 ∀ F' H' v vg,Keep K (trip p s o) F F' H H'->LAt K C F' H' p s o dx (putF "floor" vg fs) vg r.2.1 r.2.2.1 r.2.2.2->Rep K F' H' r.1 v->Q v H'
section
variable {P:Program}{w:World}{K:PySem.W.Frag}{mg:Str->Option Value}{base:Heap}{C:Addr}(T:TxB K mg C)
include T
theorem zNS{f:Addr}{fd:FuncData}(F:Fun K "now" "Builder.now" zFn f fd):FnOk P w K mg base CX0 1 f fd ["self"] (spO (bK K C) 1 zAS):=by
 refine F.ok zO0 (fun vs H Q E h=>zCe h) (fun cdv A outer s H vs Q E hr h=>?_)
 obtain⟨F,p,b,φ,ds,r,b',hl,z,at0,ar,q,c⟩:=h
 unfold zAS at q
 split at q
 ·cases q
  cases ar with
  | cons h t=>
   cases t
   cases h
   obtain⟨dx,a,u,vf,L,hφ⟩:=id at0
   exact⟨_,zBc (zBV (zAW (pv 0) rfl)),_,rfl,p,C,dx,_,vf,rfl,L.hp,T.cl,T.nF,zBh _ _ _,c F H vf φ (Keep.refl z) (fun a h=>.inl h) at0 L.rf⟩
 ·cases q
theorem zNM{f:Addr}{fd:FuncData}(F:Fun K "counts" "Builder.counts" zFh f fd):FnOk P w K mg base CX0 1 f fd ["self"] (spO (bK K C) 1 zBa):=by
 refine F.ok zOV (fun vs H Q E h=>zCe h) (fun cdv A outer s H vs Q E hr h=>?_)
 obtain⟨F,p,b,φ,ds,r,b',hl,z,at0,ar,q,c⟩:=h
 unfold zBa at q
 split at q
 ·cases q
  cases ar with
  | cons h t=>
   cases t
   cases h
   obtain⟨dx,a,u,vf,L,hφ⟩:=id at0
   obtain⟨va,ha,ra⟩:=L.hs
   obtain⟨vu,hu,ru⟩:=L.ho
   refine⟨_,zBc (zBV (zEs (zAl (zFA zF5 (by rfl) T.len PySem.boot_len (zAl (zAW (pv 0) rfl) zAw)) (zAl (zFA zF5 (by rfl) T.len PySem.boot_len (zAl (zAW (pv 0) rfl) zAw)) zAw)))),?_⟩
   refine⟨_,rfl,p,C,dx,_,_,rfl,L.hp,T.cl,T.nD,zEg _ _ _,a,va,rfl,.inl (SqL.of ha),_,rfl,p,C,dx,_,_,rfl,L.hp,T.cl,T.nU,zFe _ _ _,u,vu,rfl,.inl (SqL.of hu),zAR (show 2<=1000 by decide),fun t ht=>?_⟩
   have e:=Ext.fresh (F:=F) (o:=.tup [.int (va.length:Int),.int (vu.length:Int)]) ht
   refine c F _ _ φ (Keep.ext z e) (fun a h=>.inl h) (zEN (k:=bK K C) at0 e) ?_
   rw [ra.length,ru.length]
   exact Rep.newTup ht (.cons (.int _) (.cons (.int _) .nil))
 ·cases q
theorem zNL{f:Addr}{fd:FuncData}(F:Fun K "build" "Builder.build" zFg f fd):FnOk P w K mg base CX0 1 f fd ["self","word","floor"] (spO (bK K C) 3 zBN):=by
 refine F.ok zOU (fun vs H Q E h=>zCe h) (fun cdv A outer s H vs Q E hr h=>?_)
 obtain⟨F,p,b,φ,ds,r,b',hl,z,at0,ar,q,c⟩:=h
 unfold zBN at q
 split at q
 ·rename_i wd fl
  by_cases hd:b.2.1.length<1000
  ·rw [if_pos hd]at q
   cases q
   cases ar with
   | @cons _ v0 _ _ h t=>
   cases t with
   | @cons _ vw _ _ hw t=>
   cases t with
   | @cons _ vg _ _ hg t=>
   cases t
   cases h
   have hw:Rep K F H wd vw:=hw
   have hg:Rep K F H fl vg:=hg
   obtain⟨dx,a,u,vf,L,hφ⟩:=id at0
   obtain⟨va,ha,ra⟩:=L.hs
   obtain⟨vu,hu,ru⟩:=L.ho
   have mp:φ p:=(hφ p).mpr (.inl rfl)
   have ma:φ a:=(hφ a).mpr (.inr (.inl rfl))
   refine⟨_,zA4 (zBI (zEq PySem.F.plainAttrs_list PySem.F.slot_list_append PySem.F.type_list_append zEj (zAW (pv 0) rfl) (zAl (zEs (zAl (pv 1) (zAl (zAW (pv 0) rfl) zAw))) zAw)))
    (zA4 (zCo (pv 0) (zCW zAw) rfl) (zBc (zCo (pv 0) (pv 2) rfl))),?_⟩
   refine⟨_,rfl,p,C,dx,_,_,rfl,L.hp,T.cl,T.nD,zEg _ _ _,.inl ⟨rfl,_,SqL.of ha⟩,_,rfl,_,rfl,p,C,dx,_,_,rfl,L.hp,T.cl,T.nF,zBh _ _ _,zAR (show 2<=1000 by decide),fun t ht=>?_⟩
   have K1:Keep K φ F F H (upd H t (.tup [vw,vf])):=Keep.ext z (Ext.fresh ht)
   have ha1:upd H t (.tup [vw,vf]) a=some (.lst va):=by rw [zAf (zAO ha ht)];exact ha
   have hp1:upd H t (.tup [vw,vf]) p=some (.ins C dx (flds vf a u)):=by rw [zAf (zAO L.hp ht)];exact L.hp
   have rt1:Rep K F (upd H t (.tup [vw,vf])) (.tuple [wd,b.1]) (.ref t):=Rep.newTup ht (.cons hw (.cons L.rf .nil))
   refine⟨a,va,.ref t,rfl,rfl,ha1,zDB (by rw [<- ra.length];lia),?_⟩
   generalize upd H t (.tup [vw,vf])=H1 at *
   have K2:Keep K φ F F H1 (upd H1 a (.lst (va++[.ref t]))):=zBG K1.fz ha1 zDn.1 zDn.2 L.ns ma
   have pa:p≠a:=zCS hp1 ha1 (by intro w;cases w)
   have ha2:upd H1 a (.lst (va++[.ref t])) a=some (.lst (va++[.ref t])):=zAs
   have hp2:upd H1 a (.lst (va++[.ref t])) p=some (.ins C dx (flds vf a u)):=by rw [zAf pa];exact hp1
   generalize upd H1 a (.lst (va++[.ref t]))=H2 at *
   refine⟨zAR (QN _),fun l hl=>?_⟩
   have K3:Keep K φ F F H2 (upd H2 l (.lst [])):=Keep.ext K2.fz (Ext.fresh hl)
   have la:a≠l:=zAO ha2 hl
   have lp:p≠l:=zAO hp2 hl
   have ha3:upd H2 l (.lst []) a=some (.lst (va++[.ref t])):=by rw [zAf la];exact ha2
   have hp3:upd H2 l (.lst []) p=some (.ins C dx (flds vf a u)):=by rw [zAf lp];exact hp2
   have hl3:upd H2 l (.lst []) l=some (.lst []):=zAs
   generalize upd H2 l (.lst [])=H3 at *
   refine⟨_,rfl,p,C,dx,_,rfl,hp3,T.cl,T.nU,(show 3<1000 by decide),?_⟩
   have K4:Keep K φ F F H3 (upd H3 p (.ins C dx (putF "undone" (.ref l) (flds vf a u)))):=zBG K3.fz hp3 zA8.1 zA8.2 L.np mp
   have ha4:upd H3 p (.ins C dx (putF "undone" (.ref l) (flds vf a u))) a=some (.lst (va++[.ref t])):=by rw [zAf pa.symm];exact ha3
   have hl4:upd H3 p (.ins C dx (putF "undone" (.ref l) (flds vf a u))) l=some (.lst []):=by rw [zAf lp.symm];exact hl3
   have hp4:upd H3 p (.ins C dx (putF "undone" (.ref l) (flds vf a u))) p=some (.ins C dx (putF "undone" (.ref l) (flds vf a u))):=zAs
   generalize upd H3 p (.ins C dx (putF "undone" (.ref l) (flds vf a u)))=H4 at *
   refine⟨_,rfl,_,rfl,p,C,dx,_,rfl,hp4,T.cl,T.nF,(by rw [zHj];show 3<1000;decide),?_⟩
   have K5:Keep K φ F F H4 (upd H4 p (.ins C dx (putF "floor" vg (putF "undone" (.ref l) (flds vf a u))))):=zBG K4.fz hp4 zA8.1 zA8.2 L.np mp
   have ef:putF "floor" vg (putF "undone" (.ref l) (flds vf a u))=flds vg a l:=by rw [zHj];exact zHi vf a l vg
   rw [ef]at K5 ⊢
   have sm:∀ x,φ x->∀ H:Hp,φ x ∨ H x=none:=fun x h _=>.inl h
   have K25:=(K2.trans (K3.trans (K4.trans K5 fun x h=>sm x h _) fun x h=>sm x h _) fun x h=>sm x h _)
   have KA:=K1.trans K25 fun x h=>sm x h _
   refine c F _ .non (trip p a l) KA (fun x h=>?_) ⟨dx,a,l,vg,⟨zAs,zBh _ _ _,hg.stay KA.st,⟨_,by rw [zAf pa.symm];exact ha4,(ra.stay KA.st).append (.cons (rt1.stay K25.st) .nil)⟩,⟨_,by rw [zAf lp.symm];exact hl4,.nil⟩,la,L.np,L.ns,fun f=>K2.fz l f hl⟩,fun _=>Iff.rfl⟩ .non
   rcases h with rfl | rfl | rfl
   ·exact .inl mp
   ·exact .inl ma
   ·exact .inr (K1.lv _ (K2.lv _ hl))
  ·rw [if_neg hd]at q;cases q
 ·cases q
end
end My
namespace My
open PySem PySem.Spec PySem.SeqAt PyProof.Rows L2 CL DL OB SD ZL SL EL DC
theorem zFK{K:PySem.W.Frag}{C:Addr}{F F1:Addr->Prop}{H H1:Hp}{p:Addr}{b:B3}{φ:Addr->Prop}{wd:Str}{fl:D}{vg:V}{r2:D × B3}{Q:VK}(z:∀ a,F a->H a≠none)(at0:(bK K C).At F H p b φ)(E1:Ext F F1 H H1)(R1:Rep K F1 H1 fl vg)(e2:zBN [none,some (.str wd),some fl] b=some r2)
  (c:∀ F' H' v φ',Keep K φ F F' H H'->(∀ a,φ' a->φ a ∨ H a=none)->(bK K C).At F' H' p r2.2 φ'->Stay K F1 F' H1 H'->Q v H'):spO (bK K C) 3 zBN [.ref p,.str wd,vg] H1 Q E0:=
 ⟨F1,p,b,φ,[none,some (.str wd),some fl],r2.1,r2.2,rfl,E1.fz z,zEN (k:=bK K C) at0 E1,.cons rfl (.cons (.str _) (.cons R1 .nil)),e2,fun F' H' v φ' kp sb at' R'=>
  c F' H' v φ' ((Keep.ext z E1).trans kp fun x h=>.inl h) (fun a h=>(sb a h).imp_right fun h=>E1.same.free h) at' kp.st⟩
theorem zI3{t:Bool}{ta tb:TE}{σ:L2.St}{H:Hp}{Q:VK}(R:VK)(h1:t=true->∀ Q:VK,(∀ v H,R v H->Q v H)->ta σ H Q)(h2:t=false->∀ Q:VK,(∀ v H,R v H->Q v H)->tb σ H Q)(h:∀ v H,R v H->Q v H):if t=true then ta σ H Q else tb σ H Q:=by
 cases t with
 | true=>exact h1 rfl Q h
 | false=>exact h2 rfl Q h
section
variable {P:Program}{w:World}{K:PySem.W.Frag}{mg:Str->Option Value}{base:Heap}{C:Addr}(T:TxB K mg C)
variable {fb:Addr}{db:FuncData}(mb:Meth K C "build" fb)(bb:L2.Binds K db ["self","word","floor"] [])(Gb:FnOk P w K mg base CX0 1 fb db ["self","word","floor"] (spO (bK K C) 3 zBN))
include T mb bb Gb
theorem zNR{am:Addr}{dm:FuncData}(Fm:Fo K mg "mirrored" s_qh ["floor"] am dm)(Gm:FnOk P w K mg base CX0 1 am dm ["floor"] (spD K 1 zDV)){f:Addr}{fd:FuncData}(F:Fun K "mirror" "Builder.mirror" zFm f fd):FnOk P w K mg base CX0 2 f fd ["self"] (spO (bK K C) 1 zCC):=by
 refine F.ok zOZ (fun vs H Q E h=>zCe h) (fun cdv A outer s H vs Q E hr h=>?_)
 obtain⟨F,p,b,φ,ds,r,b',hl,z,at0,ar,q,c⟩:=h
 unfold zCC at q
 split at q
 ·obtain⟨fl,e1,q⟩:=bnd q
  obtain⟨r2,e2,q⟩:=bnd q
  cases q
  cases ar with
  | cons h t=>
   cases t
   cases h
   obtain⟨dx,a,u,vf,L,hφ⟩:=id at0
   refine⟨_,zBc (zBI (zCX (pv 0) T.cl mb Gb hr bb .nil zAV (zAl zEr (zAl (zBU Gm hr rfl Fm.m Fm.F.kp Fm.b .nil zAV (zAl (zAW (pv 0) rfl) zAw)) zAw)))),?_⟩
   exact⟨_,rfl,p,dx,_,rfl,L.hp,zDo rfl,_,rfl,p,C,dx,_,_,rfl,L.hp,T.cl,T.nF,zBh _ _ _,F,[b.1],fl,rfl,z,.cons L.rf .nil,e1,fun F1 H1 vg E1 R1=>zFK z at0 E1 R1 e2 fun F' H' v φ' kp sb at' _=>c F' H' .non φ' kp sb at' .non⟩
 ·cases q
theorem zNN{am:Addr}{dm:FuncData}(Fm:Fo K mg "flipped" s_qn ["floor"] am dm)(Gm:FnOk P w K mg base CX0 1 am dm ["floor"] (spD K 1 zDQ)){f:Addr}{fd:FuncData}(F:Fun K "flip" "Builder.flip" zFi f fd):FnOk P w K mg base CX0 2 f fd ["self"] (spO (bK K C) 1 zCB):=by
 refine F.ok zOW (fun vs H Q E h=>zCe h) (fun cdv A outer s H vs Q E hr h=>?_)
 obtain⟨F,p,b,φ,ds,r,b',hl,z,at0,ar,q,c⟩:=h
 unfold zCB at q
 split at q
 ·obtain⟨fl,e1,q⟩:=bnd q
  obtain⟨r2,e2,q⟩:=bnd q
  cases q
  cases ar with
  | cons h t=>
   cases t
   cases h
   obtain⟨dx,a,u,vf,L,hφ⟩:=id at0
   refine⟨_,zBc (zBI (zCX (pv 0) T.cl mb Gb hr bb .nil zAV (zAl zEr (zAl (zBU Gm hr rfl Fm.m Fm.F.kp Fm.b .nil zAV (zAl (zAW (pv 0) rfl) zAw)) zAw)))),?_⟩
   exact⟨_,rfl,p,dx,_,rfl,L.hp,zDo rfl,_,rfl,p,C,dx,_,_,rfl,L.hp,T.cl,T.nF,zBh _ _ _,F,[b.1],fl,rfl,z,.cons L.rf .nil,e1,fun F1 H1 vg E1 R1=>zFK z at0 E1 R1 e2 fun F' H' v φ' kp sb at' _=>c F' H' .non φ' kp sb at' .non⟩
 ·cases q
theorem zNT{ai aw as_:Addr}{di dw ds_:FuncData}(Fi:Fo K mg "is_solid" s_qj ["floor","cell"] ai di)(Gi:FnOk P w K mg base CX0 5 ai di ["floor","cell"] (spD K 2 zCF))(Fw:Fo K mg "with_solid" s_q9 ["floor","cell"] aw dw)(Gw:FnOk P w K mg base CX0 5 aw dw ["floor","cell"] (spD K 2 zCH))(Fs:Fo K mg "sights_through" s_q2 ["floor","cell"] as_ ds_)(Gs:FnOk P w K mg base CX0 6 as_ ds_ ["floor","cell"] (spD K 2 zCG))
  {f:Addr}{fd:FuncData} (F:Fun K "put" "Builder.put" zFo f fd):FnOk P w K mg base CX0 7 f fd ["self","cell"] (spO (bK K C) 2 zCD):=by
 refine F.ok zKk (fun vs H Q E h=>zCe h) (fun cdv A outer s H vs Q E hr h=>?_)
 obtain⟨F,p,b,φ,ds,r,b',hl,z,at0,ar,q,c⟩:=h
 unfold zCD at q
 split at q
 ·rename_i cl
  obtain⟨so,e0,q⟩:=bnd q
  obtain⟨t,et,q⟩:=bnd q
  obtain⟨n,en,q⟩:=bnd q
  obtain⟨fl,e1,q⟩:=bnd q
  obtain⟨r2,e2,q⟩:=bnd q
  cases q
  cases ar with
  | cons h ar=>
  cases ar with
  | @cons _ vc _ _ hc ar=>
   cases ar
   cases h
   have hc:Rep K F H cl vc:=hc
   obtain⟨dx,a,u,vf,L,hφ⟩:=id at0
   refine⟨_,zA4 (zBw (i:=2) zKk.nd rfl (Or.inl rfl) (zHc (zFD (zBU Gi (hr.mono (by decide)) rfl Fi.m Fi.F.kp Fi.b .nil zAV (zAl (zAW (pv 0) rfl) (zAl (pv 1) zAw)))) zDu (zBU Gs hr rfl Fs.m Fs.F.kp Fs.b .nil zAV (zAl (zAW (pv 0) rfl) (zAl (pv 1) zAw)))))
    (zA4 (zBI (zCX (pv 0) T.cl mb Gb (hr.mono (by decide)) bb .nil zAV (zAl zEr (zAl (zBU Gw (hr.mono (by decide)) rfl Fw.m Fw.F.kp Fw.b .nil zAV (zAl (zAW (pv 0) rfl) (zAl (pv 1) zAw))) zAw)))) (zBc (zBV (pv 2)))),?_⟩
   refine⟨_,rfl,p,C,dx,_,_,rfl,L.hp,T.cl,T.nF,zBh _ _ _,_,rfl,F,[b.1,cl],so,rfl,z,.cons L.rf (.cons hc .nil),e0,fun F1 H1 v1 E1 R1=>⟨t,zBx R1 et,?_⟩⟩
   have hp1:=E1.same _ _ L.hp
   refine zI3 (fun vn H2=>∃ F2,Ext F F2 H H2/\Rep K F2 H2 r vn) (fun ht Q k=>?_) (fun ht Q k=>?_) (fun vn H2 ⟨F2,E2,R2⟩=>?_)
   ·subst ht;cases en;exact k _ _ ⟨F1,E1,.int 0⟩
   ·subst ht
    exact⟨_,rfl,p,C,dx,_,_,rfl,hp1,T.cl,T.nF,zBh _ _ _,_,rfl,F1,[b.1,cl],r,rfl,E1.fz z,.cons (L.rf.stay E1.stay) (.cons (hc.stay E1.stay) .nil),en,fun F2 H2 vn E2 R2=>k vn H2 ⟨F2,E1.trans E2,R2⟩⟩
   ·have at2:=zEN (k:=bK K C) at0 E2
    have hp2:=E2.same _ _ L.hp
    exact⟨_,rfl,p,dx,_,rfl,hp2,zDo rfl,_,rfl,p,C,dx,_,_,rfl,hp2,T.cl,T.nF,zBh _ _ _,_,rfl,F2,[b.1,cl],fl,rfl,E2.fz z,.cons (L.rf.stay E2.stay) (.cons (hc.stay E2.stay) .nil),e1,fun F3 H3 vg E3 R3=>zFK (E2.fz z) at2 E3 R3 e2 fun F' H' v φ' kp sb at' st=>
     ⟨_,rfl,c F' H' vn φ' ((Keep.ext z E2).trans kp fun x h=>.inl h) (fun a h=>(sb a h).imp_right fun h=>E2.same.free h) at' (R2.stay (E3.stay.trans st))⟩⟩
 ·cases q
theorem zNU{ai aw as_:Addr}{di dw ds_:FuncData}(Fi:Fo K mg "is_solid" s_qj ["floor","cell"] ai di)(Gi:FnOk P w K mg base CX0 5 ai di ["floor","cell"] (spD K 2 zCF))(Fw:Fo K mg "without_solid" s_q5 ["floor","cell"] aw dw)(Gw:FnOk P w K mg base CX0 5 aw dw ["floor","cell"] (spD K 2 zCI))(Fs:Fo K mg "sights_through" s_q2 ["floor","cell"] as_ ds_)(Gs:FnOk P w K mg base CX0 6 as_ ds_ ["floor","cell"] (spD K 2 zCG))
  {f:Addr}{fd:FuncData} (F:Fun K "take" "Builder.take" zFp f fd):FnOk P w K mg base CX0 7 f fd ["self","cell"] (spO (bK K C) 2 zCE):=by
 refine F.ok zKo (fun vs H Q E h=>zCe h) (fun cdv A outer s H vs Q E hr h=>?_)
 obtain⟨F,p,b,φ,ds,r,b',hl,z,at0,ar,q,c⟩:=h
 unfold zCE at q
 split at q
 ·rename_i cl
  obtain⟨so,e0,q⟩:=bnd q
  obtain⟨t,et,q⟩:=bnd q
  obtain⟨n,en,q⟩:=bnd q
  obtain⟨fl,e1,q⟩:=bnd q
  obtain⟨r2,e2,q⟩:=bnd q
  cases q
  cases ar with
  | cons h ar=>
  cases ar with
  | @cons _ vc _ _ hc ar=>
   cases ar
   cases h
   have hc:Rep K F H cl vc:=hc
   obtain⟨dx,a,u,vf,L,hφ⟩:=id at0
   refine⟨_,zA4 (zBw (i:=2) zKo.nd rfl (Or.inl rfl) (zHc (zFD (zBU Gi (hr.mono (by decide)) rfl Fi.m Fi.F.kp Fi.b .nil zAV (zAl (zAW (pv 0) rfl) (zAl (pv 1) zAw)))) (zBU Gs hr rfl Fs.m Fs.F.kp Fs.b .nil zAV (zAl (zAW (pv 0) rfl) (zAl (pv 1) zAw))) zDu))
    (zA4 (zBI (zCX (pv 0) T.cl mb Gb (hr.mono (by decide)) bb .nil zAV (zAl zEr (zAl (zBU Gw (hr.mono (by decide)) rfl Fw.m Fw.F.kp Fw.b .nil zAV (zAl (zAW (pv 0) rfl) (zAl (pv 1) zAw))) zAw)))) (zBc (zBV (pv 2)))),?_⟩
   refine⟨_,rfl,p,C,dx,_,_,rfl,L.hp,T.cl,T.nF,zBh _ _ _,_,rfl,F,[b.1,cl],so,rfl,z,.cons L.rf (.cons hc .nil),e0,fun F1 H1 v1 E1 R1=>⟨t,zBx R1 et,?_⟩⟩
   have hp1:=E1.same _ _ L.hp
   refine zI3 (fun vn H2=>∃ F2,Ext F F2 H H2/\Rep K F2 H2 r vn) (fun ht Q k=>?_) (fun ht Q k=>?_) (fun vn H2 ⟨F2,E2,R2⟩=>?_)
   ·subst ht
    exact⟨_,rfl,p,C,dx,_,_,rfl,hp1,T.cl,T.nF,zBh _ _ _,_,rfl,F1,[b.1,cl],r,rfl,E1.fz z,.cons (L.rf.stay E1.stay) (.cons (hc.stay E1.stay) .nil),en,fun F2 H2 vn E2 R2=>k vn H2 ⟨F2,E1.trans E2,R2⟩⟩
   ·subst ht;cases en;exact k _ _ ⟨F1,E1,.int 0⟩
   ·have at2:=zEN (k:=bK K C) at0 E2
    have hp2:=E2.same _ _ L.hp
    exact⟨_,rfl,p,dx,_,rfl,hp2,zDo rfl,_,rfl,p,C,dx,_,_,rfl,hp2,T.cl,T.nF,zBh _ _ _,_,rfl,F2,[b.1,cl],fl,rfl,E2.fz z,.cons (L.rf.stay E2.stay) (.cons (hc.stay E2.stay) .nil),e1,fun F3 H3 vg E3 R3=>zFK (E2.fz z) at2 E3 R3 e2 fun F' H' v φ' kp sb at' st=>
     ⟨_,rfl,c F' H' vn φ' ((Keep.ext z E2).trans kp fun x h=>.inl h) (fun a h=>(sb a h).imp_right fun h=>E2.same.free h) at' (R2.stay (E3.stay.trans st))⟩⟩
 ·cases q
end
end My
namespace My
open PySem PySem.Spec PySem.SeqAt PyProof.Rows L2 CL DL OB SD ZL SL EL DC
theorem zON{K:PySem.W.Frag}{F:Addr->Prop}{H:Hp}{d:D}{ds:List D}{vs:List V}(r:Reps K F H ds vs)(h:ds.getLast?=some d):∃ v,vs[vs.length-1]?=some v/\Rep K F H d v/\Reps K F H ds.dropLast vs.dropLast:=by
 rw [List.getLast?_eq_getElem?]at h
 obtain⟨v,h1,h2⟩:=r.get h
 refine⟨v,by rw [<- r.length];exact h1,h2,?_⟩
 rw [List.dropLast_eq_take,List.dropLast_eq_take,<- r.length]
 exact r.take _
section
variable {P:Program}{w:World}{K:PySem.W.Frag}{mg:Str->Option Value}{base:Heap}{C:Addr}(T:TxB K mg C)
include T
theorem zNQ{f:Addr}{fd:FuncData}(F:Fun K "lead_over" "Builder.lead_over" zFl f fd):FnOk P w K mg base CX0 1 f fd ["self","steps","others"] (zKB K C):=by
 refine F.ok zKj (fun vs H Q E h=>?_) (fun cdv A outer s0 H vs Q E hr h=>?_)
 ·obtain⟨F,p,s,o,dx,fs,vf,f,dS,dO,r,rfl,_⟩:=h;rfl
 obtain⟨F,p,s,o,dx,fs,vf,f,dS,dO,r,rfl,z,hfs,L,q,c⟩:=h
 unfold GL at q
 obtain⟨e,e1,q⟩:=bnd q
 obtain⟨t,e2,q⟩:=bnd q
 cases t with
 | true=>cases q
 | false=>
  simp only [Qm,if_false]at q
  split at q
  ·rename_i wd g eg
   by_cases hd:dO.length<1000
   ·rw [if_pos hd]at q
    cases q
    obtain⟨vs,hs,rs⟩:=L.hs
    obtain⟨us,ho,ro⟩:=L.ho
    refine⟨_,zA4 (zHf (zHh (zCn (u64 hr)) (pv 1) (zCW zAw) (zAx _)) (zBc zOx) zHg)
     (zA4 (zBw (i:=3) zKj.nd rfl (Or.inl rfl) (zOb PySem.F.plainAttrs_list PySem.F.slot_list_pop PySem.F.type_list_pop zNk (pv 1)))
     (zA4 (zBI (zEq PySem.F.plainAttrs_list PySem.F.slot_list_append PySem.F.type_list_append zEj (pv 2) (zAl (zEs (zAl (zFB zE7 (pv 3) zDu (fun _ _=>rfl)) (zAl (zAW (pv 0) rfl) zAw))) zAw)))
     (zA4 (zCo (pv 0) (zFB zE7 (pv 3) zDu (fun _ _=>rfl)) rfl) (zBc (zBV (zFB zE7 (pv 3) zDu (fun _ _=>rfl))))))),?_⟩
    refine⟨_,rfl,zAR (QN _),fun l hl=>?_⟩
    have E0:Ext F F H (upd H l (.lst [])):=Ext.fresh hl
    have ns:s≠l:=zAO hs hl
    refine⟨fun x=>F x ∨ x=s ∨ x=l,.list dS,.list [],e,fun x h=>?_,?_,?_,e1,fun F1 H1 v E1 R1=>⟨false,zBx R1 e2,?_⟩⟩
    ·rcases h with h | rfl | rfl
     ·exact E0.fz z x h
     ·rw [zAf ns,hs];simp
     ·rw [zAs];simp
    ·exact .lst (.inl ⟨.inr (.inl rfl),.inl (by rw [zAf ns];exact hs)⟩) (rs.stay (E0.stay.trans ⟨fun _ h=>.inl h,fun _ _ h=>h,fun _ _ _ h=>h,fun _ _ _ h=>h⟩))
    ·exact .lst (.inl ⟨.inr (.inr rfl),.inl zAs⟩) .nil
    simp only [Qm,if_false]
    have EA:Ext F F H H1:=⟨E0.same.trans E1.same,fun _ h=>h,fun _ h=>.inl h⟩
    have KA:Keep K (trip p s o) F F H H1:=Keep.ext z EA
    have hs1:=EA.same _ _ hs
    have ho1:=EA.same _ _ ho
    have hp1:=EA.same _ _ L.hp
    replace rs:=rs.stay EA.stay
    replace ro:=ro.stay EA.stay
    have rf:=L.rf.stay EA.stay
    clear EA E0 E1 R1
    obtain⟨vt,gt,rt,rs2⟩:=zON rs eg
    refine⟨_,rfl,.inl ⟨rfl,_,SqL.of hs1⟩,s,vs,vt,rfl,rfl,hs1,gt,?_⟩
    have so:o≠s:=L.ne.symm
    have sp:p≠s:=zCS hp1 hs1 (by intro w;cases w)
    have op:o≠p:=(zCS hp1 ho1 (by intro w;cases w)).symm
    have K2:Keep K (trip p s o) F F H1 (upd H1 s (.lst vs.dropLast)):=zBG KA.fz hs1 zDn.1 zDn.2 L.ns (.inr (.inl rfl))
    have hs2:upd H1 s (.lst vs.dropLast) s=some (.lst vs.dropLast):=zAs
    have ho2:upd H1 s (.lst vs.dropLast) o=some (.lst us):=by rw [zAf so];exact ho1
    have hp2:upd H1 s (.lst vs.dropLast) p=some (.ins C dx fs):=by rw [zAf sp];exact hp1
    generalize upd H1 s (.lst vs.dropLast)=H2 at *
    replace rs2:=rs2.stay K2.st
    replace rt:=rt.stay K2.st
    replace ro:=ro.stay K2.st
    replace rf:=rf.stay K2.st
    cases rt with
    | @tup ta ts _ sq rr=>
    cases rr with
    | @cons _ v0 _ _ r0 rr=>
    cases rr with
    | @cons _ v1 _ _ r1 rr=>
    cases rr
    refine⟨_,rfl,.inl ⟨rfl,_,SqL.of ho2⟩,_,rfl,ta,_,_,v0,rfl,rfl,sq,atI_nat (j:=0) rfl,_,rfl,p,C,dx,_,_,rfl,hp2,T.cl,T.nF,L.lf,zAR (show 2<=1000 by decide),fun t ht=>?_⟩
    have E3:Ext F F H2 (upd H2 t (.tup [v0,vf])):=Ext.fresh ht
    have K3:Keep K (trip p s o) F F H2 (upd H2 t (.tup [v0,vf])):=Keep.ext K2.fz E3
    have rt3:Rep K F (upd H2 t (.tup [v0,vf])) (.tuple [wd,f]) (.ref t):=Rep.newTup ht (.cons r0 (.cons rf .nil))
    have hs3:=E3.same _ _ hs2
    have ho3:=E3.same _ _ ho2
    have hp3:=E3.same _ _ hp2
    generalize upd H2 t (.tup [v0,vf])=H3 at *
    refine⟨o,us,.ref t,rfl,rfl,ho3,zDB (by rw [<- ro.length];lia),?_⟩
    have K4:Keep K (trip p s o) F F H3 (upd H3 o (.lst (us++[.ref t]))):=zBG K3.fz ho3 zDn.1 zDn.2 L.no (.inr (.inr rfl))
    have hs4:upd H3 o (.lst (us++[.ref t])) s=some (.lst vs.dropLast):=by rw [zAf so.symm];exact hs3
    have ho4:upd H3 o (.lst (us++[.ref t])) o=some (.lst (us++[.ref t])):=zAs
    have hp4:upd H3 o (.lst (us++[.ref t])) p=some (.ins C dx fs):=by rw [zAf op.symm];exact hp3
    generalize upd H3 o (.lst (us++[.ref t]))=H4 at *
    have T24:=K3.st.trans K4.st
    refine⟨_,rfl,ta,_,_,v1,rfl,rfl,T24.tp _ _ sq,atI_nat (j:=1) rfl,_,rfl,p,C,dx,_,rfl,hp4,T.cl,T.nF,hfs,?_⟩
    have K5:Keep K (trip p s o) F F H4 (upd H4 p (.ins C dx (putF "floor" v1 fs))):=zBG K4.fz hp4 zA8.1 zA8.2 L.np (.inl rfl)
    have hp5:upd H4 p (.ins C dx (putF "floor" v1 fs)) p=some (.ins C dx (putF "floor" v1 fs)):=zAs
    have hs5:upd H4 p (.ins C dx (putF "floor" v1 fs)) s=some (.lst vs.dropLast):=by rw [zAf sp.symm];exact hs4
    have ho5:upd H4 p (.ins C dx (putF "floor" v1 fs)) o=some (.lst (us++[.ref t])):=by rw [zAf op];exact ho4
    generalize upd H4 p (.ins C dx (putF "floor" v1 fs))=H5 at *
    have T25:=T24.trans K5.st
    refine⟨_,rfl,ta,_,_,v0,rfl,rfl,T25.tp _ _ sq,atI_nat (j:=0) rfl,?_⟩
    have sm:∀ x,trip p s o x->∀ H:Hp,trip p s o x ∨ H x=none:=fun x h _=>.inl h
    exact c F H5 v0 v1 (KA.trans (K2.trans (K3.trans (K4.trans K5 fun x h=>sm x h _) fun x h=>sm x h _) fun x h=>sm x h _) fun x h=>sm x h _)
     ⟨hp5,by rw [zGW,if_pos rfl],r1.stay T25,⟨_,hs5,rs2.stay T25⟩,⟨_,ho5,(ro.stay T25).append (.cons (rt3.stay (K4.st.trans K5.st)) .nil)⟩,L.ne,L.np,L.ns,L.no⟩ (r0.stay T25)
   ·rw [if_neg hd]at q;cases q
  ·cases q
end
section
variable {P:Program}{w:World}{K:PySem.W.Frag}{mg:Str->Option Value}{base:Heap}{C:Addr}(T:TxB K mg C)
variable {fl:Addr}{dl:FuncData}(ml:Meth K C "lead_over" fl)(bl:L2.Binds K dl ["self","steps","others"] [])(Gl_:FnOk P w K mg base CX0 1 fl dl ["self","steps","others"] (zKB K C))
include T ml bl Gl_
theorem zNK{f:Addr}{fd:FuncData}(F:Fun K "back" "Builder.back" zFf f fd):FnOk P w K mg base CX0 2 f fd ["self"] (spO (bK K C) 1 zBA):=by
 refine F.ok zOT (fun vs H Q E h=>zCe h) (fun cdv A outer s H vs Q E hr h=>?_)
 obtain⟨F,p,b,φ,ds,r,b',hl,z,at0,ar,q,c⟩:=h
 unfold zBA at q
 split at q
 ·obtain⟨r2,e2,q⟩:=bnd q
  cases q
  cases ar with
  | cons h t=>
   cases t
   cases h
   obtain⟨dx,a,u,vf,L,hφ⟩:=id at0
   refine⟨_,zBc (zBV (zCX (pv 0) T.cl ml Gl_ hr bl .nil zAV (zAl (zAW (pv 0) rfl) (zAl (zAW (pv 0) rfl) zAw)))),?_⟩
   refine⟨_,rfl,p,dx,_,rfl,L.hp,zDo rfl,_,rfl,p,C,dx,_,_,rfl,L.hp,T.cl,T.nD,zEg _ _ _,_,rfl,p,C,dx,_,_,rfl,L.hp,T.cl,T.nU,zFe _ _ _,?_⟩
   refine⟨F,p,a,u,dx,flds vf a u,vf,b.1,b.2.1,b.2.2,r2,rfl,z,(show 3<1000 by decide),L,e2,fun F' H' v vg kp L' R'=>?_⟩
   rw [zHi]at L'
   exact c F' H' v (trip p a u) ⟨kp.st,fun x y h n=>kp.out x y h fun w=>n ((hφ x).mpr w),kp.new,kp.fz,kp.lv⟩ (fun x h=>.inl ((hφ x).mpr h)) ⟨dx,a,u,vg,L',fun _=>Iff.rfl⟩ R'
 ·cases q
theorem zNO{f:Addr}{fd:FuncData}(F:Fun K "forth" "Builder.forth" zFj f fd):FnOk P w K mg base CX0 2 f fd ["self"] (spO (bK K C) 1 zBX):=by
 refine F.ok zOX (fun vs H Q E h=>zCe h) (fun cdv A outer s H vs Q E hr h=>?_)
 obtain⟨F,p,b,φ,ds,r,b',hl,z,at0,ar,q,c⟩:=h
 unfold zBX at q
 split at q
 ·obtain⟨r2,e2,q⟩:=bnd q
  cases q
  cases ar with
  | cons h t=>
   cases t
   cases h
   obtain⟨dx,a,u,vf,L,hφ⟩:=id at0
   refine⟨_,zBc (zBV (zCX (pv 0) T.cl ml Gl_ hr bl .nil zAV (zAl (zAW (pv 0) rfl) (zAl (zAW (pv 0) rfl) zAw)))),?_⟩
   refine⟨_,rfl,p,dx,_,rfl,L.hp,zDo rfl,_,rfl,p,C,dx,_,_,rfl,L.hp,T.cl,T.nU,zFe _ _ _,_,rfl,p,C,dx,_,_,rfl,L.hp,T.cl,T.nD,zEg _ _ _,?_⟩
   refine⟨F,p,u,a,dx,flds vf a u,vf,b.1,b.2.2,b.2.1,r2,rfl,z,(show 3<1000 by decide),⟨L.hp,L.lf,L.rf,L.ho,L.hs,L.ne.symm,L.np,L.no,L.ns⟩,e2,fun F' H' v vg kp L' R'=>?_⟩
   rw [zHi]at L'
   have tr:∀ x,trip p u a x->trip p a u x:=fun x h=>h.imp_right fun h=>h.symm
   exact c F' H' v (trip p a u) ⟨kp.st,fun x y h n=>kp.out x y h fun w=>n ((hφ x).mpr (tr x w)),kp.new,kp.fz,kp.lv⟩ (fun x h=>.inl ((hφ x).mpr h)) ⟨dx,a,u,vg,⟨L'.hp,L'.lf,L'.rf,L'.ho,L'.hs,L'.ne.symm,L'.np,L'.no,L'.ns⟩,fun _=>Iff.rfl⟩ R'
 ·cases q
end
end My
namespace My
open PySem PySem.Spec PySem.SeqAt PyProof.Rows L2 CL DL OB SD ZL SL EL DC
theorem put_1(vf:V):putF "floor" vf []=[(("floor":Str),vf)]:=rfl
theorem put_2(vf v:V):putF "done" v [(("floor":Str),vf)]=[(("floor":Str),vf),("done",v)]:=by
 unfold putF
 rw [if_neg (by decide)]
 unfold putF
 rfl
theorem put_3(vf:V)(a c:Addr):putF "undone" (.ref c) [(("floor":Str),vf),("done",.ref a)]=flds vf a c:=by
 unfold putF
 rw [if_neg (by decide)]
 unfold putF
 rw [if_neg (by decide)]
 unfold putF
 rfl
section
variable {P:Program}{w:World}{K:PySem.W.Frag}{mg:Str->Option Value}{base:Heap}{C:Addr}(T:TxB K mg C)
include T
theorem zNP{f:Addr}{fd:FuncData}(F:Fun K "__init__" "Builder.__init__" zFk f fd):FnOk P w K mg base CX0 1 f fd ["self","floor"] (spI (bK K C) 1 zDL):=by
 refine F.ok zOY (fun vs H Q E h=>?_) (fun cdv A outer s H vs Q E hr h=>?_)
 ·obtain⟨F,x,dx,us,ds,b,rfl,hl,_,_,_,r,_⟩:=h
  rw [Qw,<- r.length,hl];rfl
 obtain⟨F,x,dx,us,ds,b,rfl,hl,z,hx,nx,r,q,c⟩:=h
 unfold zDL at q
 split at q
 ·rename_i fl
  cases q
  cases r with
  | @cons _ vf _ _ rf t=>
   cases t
   refine⟨_,zA4 (zCo (pv 0) (pv 1) rfl) (zA4 (zCo (pv 0) (zCW zAw) rfl) (zBc (zCo (pv 0) (zCW zAw) rfl))),?_⟩
   refine⟨_,rfl,_,rfl,x,C,dx,[],rfl,hx,T.cl,T.nF,(by decide),?_⟩
   rw [put_1]
   have K1:Keep K (fun a=>a=x) F F H (upd H x (.ins C dx [(("floor":Str),vf)])):=zBG z hx zA8.1 zA8.2 nx rfl
   have hx1:upd H x (.ins C dx [(("floor":Str),vf)]) x=some (.ins C dx [(("floor":Str),vf)]):=zAs
   generalize upd H x (.ins C dx [(("floor":Str),vf)])=H1 at *
   refine⟨zAR (QN _),fun a ha=>?_⟩
   have E2:Ext F F H1 (upd H1 a (.lst [])):=Ext.fresh ha
   have hx2:=E2.same _ _ hx1
   have ha2:upd H1 a (.lst []) a=some (.lst []):=zAs
   have K2:Keep K (fun a=>a=x) F F H1 (upd H1 a (.lst [])):=Keep.ext K1.fz E2
   generalize upd H1 a (.lst [])=H2 at *
   have xa:a≠x:=zCS ha2 hx2 (by intro w;cases w)
   refine⟨_,rfl,x,C,dx,_,rfl,hx2,T.cl,T.nD,(show 1<1000 by decide),?_⟩
   rw [put_2]
   have K3:Keep K (fun a=>a=x) F F H2 (upd H2 x (.ins C dx [(("floor":Str),vf),("done",.ref a)])):=zBG K2.fz hx2 zA8.1 zA8.2 nx rfl
   have hx3:upd H2 x (.ins C dx [(("floor":Str),vf),("done",.ref a)]) x=some (.ins C dx [(("floor":Str),vf),("done",.ref a)]):=zAs
   have ha3:upd H2 x (.ins C dx [(("floor":Str),vf),("done",.ref a)]) a=some (.lst []):=by rw [zAf xa];exact ha2
   generalize upd H2 x (.ins C dx [(("floor":Str),vf),("done",.ref a)])=H3 at *
   refine⟨zAR (QN _),fun u hu=>?_⟩
   have E4:Ext F F H3 (upd H3 u (.lst [])):=Ext.fresh hu
   have hx4:=E4.same _ _ hx3
   have ha4:=E4.same _ _ ha3
   have hu4:upd H3 u (.lst []) u=some (.lst []):=zAs
   have K4:Keep K (fun a=>a=x) F F H3 (upd H3 u (.lst [])):=Keep.ext K3.fz E4
   have au:a≠u:=zAO ha3 hu
   generalize upd H3 u (.lst [])=H4 at *
   have xu:u≠x:=zCS hu4 hx4 (by intro w;cases w)
   refine⟨_,rfl,x,C,dx,_,rfl,hx4,T.cl,T.nU,(show 2<1000 by decide),?_⟩
   rw [put_3]
   have K5:Keep K (fun a=>a=x) F F H4 (upd H4 x (.ins C dx (flds vf a u))):=zBG K4.fz hx4 zA8.1 zA8.2 nx rfl
   have sm:∀ y:Addr,y=x->∀ H:Hp,y=x ∨ H y=none:=fun y h _=>.inl h
   have K23:=K1.trans (K2.trans K3 fun x h=>sm x h _) fun x h=>sm x h _
   have KA:=K23.trans (K4.trans K5 fun x h=>sm x h _) fun x h=>sm x h _
   have na:H a=none:=K1.lv a ha
   have nu:H u=none:=K23.lv u hu
   refine c F _ (trip x a u) KA (fun y h=>?_) ⟨dx,a,u,vf,⟨zAs,zBh _ _ _,rf.stay KA.st,⟨[],by rw [zAf xa];exact ha4,.nil⟩,⟨[],by rw [zAf xu];exact hu4,.nil⟩,au,nx,fun f=>z a f na,fun f=>z u f nu⟩,fun _=>Iff.rfl⟩
   rcases h with rfl | rfl | rfl
   ·exact .inl rfl
   ·exact .inr na
   ·exact .inr nu
 ·cases q
theorem zNV{fi:Addr}{di:FuncData}(M:Mk K C fi)(Gi:FnOk P w K mg base CX0 1 fi di ["self","floor"] (spI (bK K C) 1 zDL))(bi:L2.Binds K di ["self","floor"] []){f:Addr}{fd:FuncData}(F:Fun K "twin" "Builder.twin" zFq f fd):FnOk P w K mg base CX0 3 f fd ["self"] (spT (bK K C) zEK):=by
 refine F.ok zKp (fun vs H Q E h=>?_) (fun cdv A outer s H vs Q E hr h=>?_)
 ·obtain⟨F,p,b,φ,b2,rfl,_⟩:=h;rfl
 obtain⟨F,p,b,φ,b2,rfl,z,at0,q,c⟩:=h
 cases q
 obtain⟨dx,a,u,vf,L,hφ⟩:=id at0
 obtain⟨va,ha,ra⟩:=L.hs
 obtain⟨vu,hu,ru⟩:=L.ho
 refine⟨_,zA4 (zBw (i:=1) zKp.nd rfl (Or.inl rfl) (zJW M Gi hr rfl T.mC bi .nil zAV (zAl (zAW (pv 0) rfl) zAw)))
  (zA4 (zCo (pv 1) (zHb zH8 rfl T.lst boot_list (zAl (zAW (pv 0) rfl) zAw)) rfl)
  (zA4 (zCo (pv 1) (zHb zH8 rfl T.lst boot_list (zAl (zAW (pv 0) rfl) zAw)) rfl) (zBc (zBV (pv 1))))),?_⟩
 refine⟨_,rfl,p,C,dx,_,_,rfl,L.hp,T.cl,T.nF,zBh _ _ _,fun x dy hx hd ne=>?_⟩
 have E1:Ext F F H (upd (upd H dy (.own x)) x (.ins C dy [])):=(Ext.fresh hd).trans (Ext.fresh (by rw [zAf ne.symm];exact hx))
 refine⟨F,x,dy,_,[b.1],(b.1,[],[]),rfl,rfl,E1.fz z,zAs,fun f=>z x f hx,.cons (L.rf.stay E1.stay) .nil,rfl,fun F' H' φ' kp fr at'=>⟨rfl,?_⟩⟩
 have nn:∀ y,F' y->F y ∨ H y=none:=fun y h=>(kp.new y h).imp_right fun h=>E1.same.free h
 have out:∀ y o,H y=some o->H' y=some o:=fun y o h=>kp.out y o (E1.same y o h) fun w=>by rw [w,hx]at h;cases h
 have lv:∀ y,H' y=none->H y=none:=fun y h=>E1.same.free (kp.lv y h)
 obtain⟨dz,c1,c2,vg,L2,hφ2⟩:=at'
 have fr2:∀ y,trip x c1 c2 y->H y=none:=fun y h=>by
  rcases fr y ((hφ2 y).mpr h)with w | w
  ·rw [w];exact hx
  ·exact E1.same.free w
 have KA:Keep K (fun _=>False) F F' H H':=⟨E1.stay.trans kp.st,fun y o h _=>out y o h,nn,kp.fz,lv⟩
 have ha':=out _ _ ha
 have hu':=out _ _ hu
 have hp':=out _ _ L.hp
 have ra':=ra.stay KA.st
 have ru':=ru.stay KA.st
 have px:p≠x:=zAO L.hp hx
 have ax:a≠x:=zAO ha hx
 have ux:u≠x:=zAO hu hx
 refine⟨_,rfl,p,C,dx,_,_,rfl,hp',T.cl,T.nD,zEg _ _ _,a,va,rfl,.inl (SqL.of ha'),fun l hl=>?_⟩
 have E3:Ext F' F' H' (upd H' l (.lst va)):=Ext.fresh hl
 have hl3:upd H' l (.lst va) l=some (.lst va):=zAs
 have hx3:=E3.same _ _ L2.hp
 have hp3:=E3.same _ _ hp'
 have hu3:=E3.same _ _ hu'
 have S3:=E3.stay (K:=K)
 have K3:Keep K (fun y=>y=x) F' F' H' (upd H' l (.lst va)):=Keep.ext KA.fz E3
 generalize upd H' l (.lst va)=H3 at *
 have lx:l≠x:=zCS hl3 hx3 (by intro w;cases w)
 have npx:¬ F' x:=L2.np
 refine⟨_,rfl,x,C,dz,_,rfl,hx3,T.cl,T.nD,(show 3<1000 by decide),?_⟩
 rw [put_d]
 have K4:Keep K (fun y=>y=x) F' F' H3 (upd H3 x (.ins C dz [(("floor":Str),vg),("done",.ref l),("undone",.ref c2)])):=zBG K3.fz hx3 zA8.1 zA8.2 npx rfl
 have hx4:upd H3 x (.ins C dz [(("floor":Str),vg),("done",.ref l),("undone",.ref c2)]) x=some (.ins C dz (flds vg l c2)):=zAs
 have hl4:upd H3 x (.ins C dz [(("floor":Str),vg),("done",.ref l),("undone",.ref c2)]) l=some (.lst va):=by rw [zAf lx];exact hl3
 have hp4:upd H3 x (.ins C dz [(("floor":Str),vg),("done",.ref l),("undone",.ref c2)]) p=some (.ins C dx (flds vf a u)):=by rw [zAf px];exact hp3
 have hu4:upd H3 x (.ins C dz [(("floor":Str),vg),("done",.ref l),("undone",.ref c2)]) u=some (.lst vu):=by rw [zAf ux];exact hu3
 generalize upd H3 x (.ins C dz [(("floor":Str),vg),("done",.ref l),("undone",.ref c2)])=H4 at *
 refine⟨_,rfl,p,C,dx,_,_,rfl,hp4,T.cl,T.nU,zFe _ _ _,u,vu,rfl,.inl (SqL.of hu4),fun m hm=>?_⟩
 have E5:Ext F' F' H4 (upd H4 m (.lst vu)):=Ext.fresh hm
 have hm5:upd H4 m (.lst vu) m=some (.lst vu):=zAs
 have hx5:=E5.same _ _ hx4
 have hl5:=E5.same _ _ hl4
 have lm:l≠m:=zAO hl4 hm
 have K5:Keep K (fun y=>y=x) F' F' H4 (upd H4 m (.lst vu)):=Keep.ext K4.fz E5
 generalize upd H4 m (.lst vu)=H5 at *
 have mx:m≠x:=zCS hm5 hx5 (by intro w;cases w)
 refine⟨_,rfl,x,C,dz,_,rfl,hx5,T.cl,T.nU,(show 3<1000 by decide),?_⟩
 rw [zHj]
 have K6:Keep K (fun y=>y=x) F' F' H5 (upd H5 x (.ins C dz [(("floor":Str),vg),("done",.ref l),("undone",.ref m)])):=zBG K5.fz hx5 zA8.1 zA8.2 npx rfl
 have hl6:upd H5 x (.ins C dz [(("floor":Str),vg),("done",.ref l),("undone",.ref m)]) l=some (.lst va):=by rw [zAf lx];exact hl5
 have hm6:upd H5 x (.ins C dz [(("floor":Str),vg),("done",.ref l),("undone",.ref m)]) m=some (.lst vu):=by rw [zAf mx];exact hm5
 have hx6:upd H5 x (.ins C dz [(("floor":Str),vg),("done",.ref l),("undone",.ref m)]) x=some (.ins C dz (flds vg l m)):=zAs
 generalize upd H5 x (.ins C dz [(("floor":Str),vg),("done",.ref l),("undone",.ref m)])=H6 at *
 have sm:∀ y:Addr,y=x->∀ H:Hp,y=x ∨ H y=none:=fun y h _=>.inl h
 have KB:Keep K (fun y=>y=x) F' F' H' H6:=K3.trans (K4.trans (K5.trans K6 fun x h=>sm x h _) fun x h=>sm x h _) fun x h=>sm x h _
 have KC:Keep K (fun _=>False) F F' H H6:=⟨KA.st.trans KB.st,fun y o h _=>KB.out y o (out y o h) (fun w=>by rw [w,hx]at h;cases h),nn,KB.fz,fun y h=>lv y (KB.lv y h)⟩
 have nl:H l=none:=lv l hl
 have nm:H m=none:=lv m (K3.lv m (K4.lv m hm))
 refine⟨_,rfl,c F' H6 x (trip x l m) KC (fun y h=>?_) ⟨dz,l,m,vg,⟨hx6,zBh _ _ _,L2.rf.stay KB.st,⟨va,hl6,ra'.stay KB.st⟩,⟨vu,hm6,ru'.stay KB.st⟩,lm,npx,fun f=>KA.fz l f hl,fun f=>KA.fz m f (K3.lv m (K4.lv m hm))⟩,fun _=>Iff.rfl⟩⟩
 rcases h with rfl | rfl | rfl
 ·exact hx
 ·exact nl
 ·exact nm
end
end My
namespace My
open PySem PySem.Spec PySem.SeqAt PyProof.Rows L2 CL DL OB SD ZL SL EL DC
theorem zEl{ρ:Rho}{ds:List (Option D)}(h:oNil ρ=some ds):ds.length=0:=by cases h;rfl
theorem zCT{n:Nat}{ga:Rho->Option D}{gr:Rho->Option (List (Option D))}(h:∀ ρ ds,gr ρ=some ds->ds.length=n):∀(ρ:Rho) (ds:List (Option D)),oDat ga gr ρ=some ds->ds.length=n+1:=fun ρ ds q=>by
 obtain⟨x,_,q⟩:=bnd q
 obtain⟨xs,e,q⟩:=bnd q
 cases q
 rw [Qw,h ρ xs e]
theorem zEm{n:Nat}{gr:Rho->Option (List (Option D))}(h:∀ ρ ds,gr ρ=some ds->ds.length=n):∀(ρ:Rho) (ds:List (Option D)),oObj gr ρ=some ds->ds.length=n+1:=fun ρ ds q=>by
 obtain⟨xs,e,q⟩:=bnd q
 cases q
 rw [Qw,h ρ xs e]
structure TxM(K:PySem.W.Frag)(C:Addr)(b:Nat->Addr)(e:Nat->FuncData):Prop where
 M:Mk K C (b 0)
 Fi:Fun K "__init__" "Builder.__init__" zFk (b 0) (e 0)
 bi:L2.Binds K (e 0) ["self","floor"] []
 put:Fm K C "put" "Builder.put" zFo ["self","cell"] (b 1) (e 1)
 take:Fm K C "take" "Builder.take" zFp ["self","cell"] (b 2) (e 2)
 mirror:Fm K C "mirror" "Builder.mirror" zFm ["self"] (b 3) (e 3)
 flip:Fm K C "flip" "Builder.flip" zFi ["self"] (b 4) (e 4)
 build:Fm K C "build" "Builder.build" zFg ["self","word","floor"] (b 5) (e 5)
 now:Fm K C "now" "Builder.now" zFn ["self"] (b 6) (e 6)
 lead:Fm K C "lead_over" "Builder.lead_over" zFl ["self","steps","others"] (b 7) (e 7)
 back:Fm K C "back" "Builder.back" zFf ["self"] (b 8) (e 8)
 forth:Fm K C "forth" "Builder.forth" zFj ["self"] (b 9) (e 9)
 counts:Fm K C "counts" "Builder.counts" zFh ["self"] (b 10) (e 10)
 twin:Fm K C "twin" "Builder.twin" zFq ["self"] (b 11) (e 11)
def N_qd:List Str:=["_law_script","_law_at","_law_builder","_law_floor_here","_law_cell_here","_law_way"]
theorem zFN:zAm N_qd ["_law_script","_law_at","_law_builder"] (zAg s_qd):=fsc rfl (by decide +kernel)
def zGy:GS B3:=
  (ySeq (ySet 3 (zAp 0 zAS eNil))
  (ySeq (ySet 4 (xP (eTup (zAc (zAj zAX (zAc (eV 0) (zAc (eOp zAr (eV 1) (eC (.int 1))) (zAc (eOp dIx (eV 3) (eC (.int 0))) eNil)))) (zAc (zAj zAX (zAc (eV 0) (zAc (eOp zAr (eV 1) (eC (.int 2))) (zAc (eOp dIx (eV 3) (eC (.int 1))) eNil)))) eNil)))))
  (ySeq (ySet 5 (xP (zAj zAX (zAc (eV 0) (zAc (eV 1) (zAc (eC (.int 6)) eNil))))))
  (yIf (xP (eB (eOp dLt2 (eV 5) (eC (.int 2))))) (zBe (zAp 0 zCD (zAc (eV 4) eNil))) (yIf (xP (eB (eOp dLt2 (eV 5) (eC (.int 4))))) (zBe (zAp 0 zCE (zAc (eV 4) eNil))) (yIf (xP (eB (eOp dEq (eV 5) (eC (.int 4))))) (zBe (zAp 0 zCC eNil)) (zBe (zAp 0 zCB eNil))))))))
def zBm:GM B3:=fnO 2 6 zGy
def N_qb:List Str:=["_law_script","_law_builder","_law_k"]
theorem zKl:zAm N_qb ["_law_script","_law_builder"] (zAg s_qb):=fsc rfl (by decide +kernel)
def zGw:GS B3:=
  (ySeq (yFor (iRng1 (zAc (eC (.int 3)) eNil)) 2 (zBe (xFn 0 zBm (oDat (eV 0) (oDat (eOp zAr (eC (.int 200)) (eOp zAt (eC (.int 4)) (eV 2))) (oObj oNil))))))
  (yRet (xTup (zBl (zAp 0 zAS eNil) (zBl (zAp 0 zBa eNil) xNil)))))
def zCA:GM B3:=fnO 1 3 zGw
def N_qf:List Str:=["_law_builder","_law_rows","_law_many","_law_words","_law_k"]
theorem zEy:zAm N_qf ["_law_builder","_law_rows"] (zAg s_qf):=fsc rfl (by decide +kernel)
def zHT:List Str:=["_law_word"]
theorem zNv:zHT.Nodup:=by decide +kernel
def zGx:GS B3:=
  (ySeq (ySet 2 (xP (eOp dSub (zAj dLen (zAc (eV 1) eNil)) (eC (.int 1)))))
  (ySeq (yOwn 3 xNil)
  (ySeq (yFor (zE3 (zAc (eOp dSub (eV 2) (eC (.int 1))) (zAc (eUn dNeg (eC (.int 1))) (zAc (eUn dNeg (eC (.int 1))) eNil)))) 4 (ySeq (yApp 3 (zAp 0 zBA eNil))
  (yIf (xOr (xB (xOp dNe (zAp 0 zAS eNil) (xP (eOp dIx (eV 1) (eV 4))))) (xB (xOp dNe (zAp 0 zBa eNil) (xP (eTup (zAc (eV 4) (zAc (eOp dSub (eV 2) (eV 4)) eNil))))))) (yRet (xP (eC (.bool false)))) zBW)))
  (yFrz 3 (ySeq (yFor (iRng2 (zAc (eC (.int 1)) (zAc (eOp zAr (eV 2) (eC (.int 1))) eNil))) 4 (ySeq (yIf (xOr (xB (xOp dNe (zAp 0 zBX eNil) (xP (eOp dIx (eV 3) (eOp dSub (eV 2) (eV 4)))))) (xB (xOp dNe (zAp 0 zAS eNil) (xP (eOp dIx (eV 1) (eV 4)))))) (yRet (xP (eC (.bool false)))) zBW)
  (yIf (xB (xOp dNe (zAp 0 zBa eNil) (xP (eTup (zAc (eV 4) (zAc (eOp dSub (eV 2) (eV 4)) eNil)))))) (yRet (xP (eC (.bool false)))) zBW)))
  (yRet (xP (eOp dEq (eLc (zA2 (iSeq (eV 3)) (zAz 0) (eB (eOp (dIn true) (eV 0) (eTup (zAc (eC (.str "put")) (zAc (eC (.str "take")) (zAc (eC (.str "mirror")) (zAc (eC (.str "flip")) eNil))))))) (eV 0) [none])) (eLst eNil)))))))))
def zDK:GM B3:=fnO 0 5 zGx
def N_qq:List Str:=["_law_script","_law_builder","_law_rows","_law_k","_law_many","_law_back","_law_turn","_law_here","_law_twin","_law_third","_law_there"]
theorem zBq:zAm N_qq ["_law_script"] (zAg s_qq):=fsc rfl (by decide +kernel)
def glaw:GS B3:=
  (ySeq (yNew 1 0 zDL (zAc (zAj zC3 (zAc (eV 0) (zAc (eC (.int 0)) (zAc (eC (.int 4)) eNil)))) eNil))
  (ySeq (yOwn 2 (zBl (zAp 0 zAS eNil) xNil))
  (ySeq (yFor (iRng1 (zAc (eOp zAr (eC (.int 2)) (zAj zAX (zAc (eV 0) (zAc (eC (.int 60)) (zAc (eC (.int 7)) eNil))))) eNil)) 3 (ySeq (zBe (xFn 0 zBm (oDat (eV 0) (oDat (eOp zAr (eC (.int 70)) (eOp zAt (eC (.int 4)) (eV 3))) (oObj oNil)))))
  (yApp 2 (zAp 0 zAS eNil))))
  (yFrz 2 (ySeq (ySet 4 (xP (eOp dSub (zAj dLen (zAc (eV 2) eNil)) (eC (.int 1)))))
  (ySeq (yIf (xOr (xB (xOp dNe (zAp 0 zBa eNil) (xP (eTup (zAc (eV 4) (zAc (eC (.int 0)) eNil)))))) (xNot (xB (xFn 0 zDK (oObj (oDat (eV 2) oNil)))))) (yRet (xP (eC (.bool false)))) zBW)
  (ySeq (ySet 5 (xP (eOp zAr (eC (.int 1)) (zAj zAX (zAc (eV 0) (zAc (eC (.int 61)) (zAc (eV 4) eNil)))))))
  (ySeq (yFor (iRng1 (zAc (eV 5) eNil)) 6 (zBe (zAp 0 zBA eNil)))
  (ySeq (ySet 7 (xTup (zBl (zAp 0 zAS eNil) (zBl (zAp 0 zBa eNil) xNil))))
  (ySeq (zHJ 8 0 1 zEK)
  (ySeq (zHJ 9 1 2 zEK)
  (ySeq (yIf (xP (eB (eOp dNe (eV 7) (eTup (zAc (eOp dIx (eV 2) (eOp dSub (eV 4) (eV 5))) (zAc (eTup (zAc (eOp dSub (eV 4) (eV 5)) (zAc (eV 5) eNil))) eNil)))))) (yRet (xP (eC (.bool false)))) zBW)
  (ySeq (ySet 10 (xFn 0 zCA (oDat (eV 0) (oObj oNil))))
  (ySeq (yIf (xOr (xP (eB (eOp dNe (eOp dIx (eV 10) (eC (.int 1))) (eTup (zAc (eOp zAr (eOp dSub (eV 4) (eV 5)) (eC (.int 3))) (zAc (eC (.int 0)) eNil)))))) (xB (xOp dNe (xTup (zBl (zAp 1 zAS eNil) (zBl (zAp 1 zBa eNil) xNil))) (xP (eV 7))))) (yRet (xP (eC (.bool false)))) zBW)
  (ySeq (yIf (xOr (xB (xOp dNe (xFn 1 zCA (oDat (eV 0) (oObj oNil))) (xP (eV 10)))) (xB (xOp dNe (xTup (zBl (zAp 2 zAS eNil) (zBl (zAp 2 zBa eNil) xNil))) (xP (eV 7))))) (yRet (xP (eC (.bool false)))) zBW)
  (ySeq (yFor (iRng1 (zAc (eV 5) eNil)) 6 (zBe (zAp 2 zBX eNil)))
  (ySeq (yFor (iRng1 (zAc (eOp zAr (eOp dSub (eV 4) (eV 5)) (eC (.int 3))) eNil)) 6 (yIf (xOr (xB (xOp dNe (zAp 1 zBA eNil) (zAp 0 zBA eNil))) (xB (xOp dNe (zAp 1 zAS eNil) (zAp 0 zAS eNil)))) (yRet (xP (eC (.bool false)))) zBW))
  (yRet (zEF (xOp dEq (zAp 2 zAS eNil) (xP (eOp dIx (eV 2) (eUn dNeg (eC (.int 1)))))) (zEF (xOp dEq (zAp 1 zAS eNil) (xP (eOp dIx (eV 2) (eC (.int 0))))) (xOp dEq (zAp 2 zBa eNil) (xP (eTup (zAc (eV 4) (zAc (eC (.int 0)) eNil)))))))))))))))))))))))))
def Glaw:List D->Option D:=fnL 11 glaw
section
variable {P:Program}{w:World}{K:PySem.W.Frag}{mg:Str->Option Value}{base:Heap}{a:Nat->Addr}{d:Nat->FuncData}{C:Addr}{b:Nat->Addr}{e:Nat->FuncData}(T:Txt K mg a d)(B:TxB K mg C)(M:TxM K C b e)
include T B M
theorem ok_qd(G_q7:FnOk P w K mg base CX0 2 (a 15) (d 15) ["_law_script","_law_k","_law_many"] (spD K 3 zAX))(G_flip:FnOk P w K mg base CX0 2 (b 4) (e 4) ["self"] (spO (bK K C) 1 zCB))(G_mirror:FnOk P w K mg base CX0 2 (b 3) (e 3) ["self"] (spO (bK K C) 1 zCC))(G_now:FnOk P w K mg base CX0 1 (b 6) (e 6) ["self"] (spO (bK K C) 1 zAS))(G_put:FnOk P w K mg base CX0 7 (b 1) (e 1) ["self","cell"] (spO (bK K C) 2 zCD))(G_take:FnOk P w K mg base CX0 7 (b 2) (e 2) ["self","cell"] (spO (bK K C) 2 zCE)):FnOk P w K mg base CX0 8 (a 19) (d 19) ["_law_script","_law_at","_law_builder"] (spO (bK K C) 3 zBm):=by
 refine fn_O (k:=bK K C) (j:=2) (g:=zGy) (G:=zBm) (N:=N_qd) (kk:=7) rfl rfl rfl T.F_qd.F zFN fun cdv A outer s H E hr=>?_
 exact(zAC (zCx (i:=3) zFN.nd (by decide) (zAA (i:=2) (j:=0) (by decide) B.cl M.now.m rfl G_now (hr.mono (by decide)) M.now.b))
  (zAC (zCx (i:=4) zFN.nd (by decide) (zAF (dtp (dac (dcl T.F_q7 G_q7 hr rfl (dac (zAa 0) (dac (zAh zAy (zAa 1) zAd) (dac (zAi ixd (zAa 3) zAd) zAe rfl) rfl) rfl) ln3) (dac (dcl T.F_q7 G_q7 hr rfl (dac (zAa 0) (dac (zAh zAy (zAa 1) zAd) (dac (zAi ixd (zAa 3) zAd) zAe rfl) rfl) rfl) ln3) zAe rfl) rfl))))
  (zAC (zCx (i:=5) zFN.nd (by decide) (zAF (dcl T.F_q7 G_q7 hr rfl (dac (zAa 0) (dac (zAa 1) (dac zAd zAe rfl) rfl) rfl) ln3)))
  (zAI (zBK (zEJ (zAU (zDq (u64 hr)) (zAa 5) zAd (zAx _))) (zAI (zCw (zK2 (i:=2) (j:=0) (by decide) B.cl M.put.m rfl G_put (hr.mono (by decide)) M.put.b (dac (zAa 4) zAe rfl) ln1))) (zAI (zBK (zEJ (zAU (zDq (u64 hr)) (zAa 5) zAd (zAx _))) (zAI (zCw (zK2 (i:=2) (j:=0) (by decide) B.cl M.take.m rfl G_take (hr.mono (by decide)) M.take.b (dac (zAa 4) zAe rfl) ln1))) (zAI (zBK (zEJ (zAU (zCn (u64 hr)) (zAa 5) zAd (zAx _))) (zAI (zCw (zAA (i:=2) (j:=0) (by decide) B.cl M.mirror.m rfl G_mirror (hr.mono (by decide)) M.mirror.b))) (zAI (zCw (zAA (i:=2) (j:=0) (by decide) B.cl M.flip.m rfl G_flip (hr.mono (by decide)) M.flip.b))))))))))))
theorem ok_qb (G_qd:FnOk P w K mg base CX0 8 (a 19) (d 19) ["_law_script","_law_at","_law_builder"] (spO (bK K C) 3 zBm))(G_counts:FnOk P w K mg base CX0 1 (b 10) (e 10) ["self"] (spO (bK K C) 1 zBa))(G_now:FnOk P w K mg base CX0 1 (b 6) (e 6) ["self"] (spO (bK K C) 1 zAS)):FnOk P w K mg base CX0 9 (a 21) (d 21) ["_law_script","_law_builder"] (spO (bK K C) 2 zCA):=by
 refine fn_O (k:=bK K C) (j:=1) (g:=zGw) (G:=zCA) (N:=N_qb) (kk:=8) rfl rfl rfl T.F_qb.F zKl fun cdv A outer s H E hr=>?_
 exact(zAC (zC2 (i:=2) Q1 rfl zKl.nd (by decide) (zB2 rfl T.z_range (dac zAd zAe rfl)) (zAI (zCw (zEG (j:=0) G_qd (hr.mono (by decide)) rfl T.F_qd.m T.F_qd.F.kp T.F_qd.b (zC1 (zAa 0) (zC1 (zAh zAy zAd (zAh zAZ zAd (zAa 2))) (zEI (i:=1) (by decide) zEH))) (zCT (zCT (zEm (fun _ _ h=>zEl h))))))))
  (zAI (zBL (zFY (zCh (zAA (i:=1) (j:=0) (by decide) B.cl M.now.m rfl G_now (hr.mono (by decide)) M.now.b) (zCh (zAA (i:=1) (j:=0) (by decide) B.cl M.counts.m rfl G_counts (hr.mono (by decide)) M.counts.b) zDG))))))
theorem ok_qf (G_back:FnOk P w K mg base CX0 2 (b 8) (e 8) ["self"] (spO (bK K C) 1 zBA))(G_counts:FnOk P w K mg base CX0 1 (b 10) (e 10) ["self"] (spO (bK K C) 1 zBa))(G_forth:FnOk P w K mg base CX0 2 (b 9) (e 9) ["self"] (spO (bK K C) 1 zBX))(G_now:FnOk P w K mg base CX0 1 (b 6) (e 6) ["self"] (spO (bK K C) 1 zAS)):FnOk P w K mg base CX0 3 (a 10) (d 10) ["_law_builder","_law_rows"] (spO (bK K C) 2 zDK):=by
 refine fn_O (k:=bK K C) (j:=0) (g:=zGx) (G:=zDK) (N:=N_qf) (kk:=2) rfl rfl rfl T.F_qf.F zEy fun cdv A outer s H E hr=>?_
 exact(zAC (zCx (i:=2) zEy.nd (by decide) (zAF (zAh zAY (zBf zDc rfl T.z_len PySem.boot_len (dac (zAa 1) zAe rfl)) zAd)))
  (zAC (zK4 (i:=3) zEy.nd (by decide) zDG)
  (zAC (zC2 (i:=4) Q1 rfl zEy.nd (by decide) (zLV rfl T.z_range (dac (zAh zAY (zAa 2) zAd) (dac (zDf zDE zAd) (dac (zDf zDE zAd) zAe rfl) rfl) rfl)) (zAC (zK3 (i:=3) (zAA (i:=0) (j:=0) (by decide) B.cl M.back.m rfl G_back (hr.mono (by decide)) M.back.b))
  (zAI (zBK (xw_t (zDH (zBM (zA3 (u64 hr)) (zAA (i:=0) (j:=0) (by decide) B.cl M.now.m rfl G_now (hr.mono (by decide)) M.now.b) (zAF (zAi ixd (zAa 1) (zAa 4))) (zAx _)) (zDI (zBM (zA3 (u64 hr)) (zAA (i:=0) (j:=0) (by decide) B.cl M.counts.m rfl G_counts (hr.mono (by decide)) M.counts.b) (zAF (dtp (dac (zAa 4) (dac (zAh zAY (zAa 2) (zAa 4)) zAe rfl) rfl))) (zAx _))))) (zAI (zBL (zAF zBb))) zCy))))
  (zK6 3 (zAC (zC2 (i:=4) Q1 rfl zEy.nd (by decide) (zLU rfl T.z_range (dac zAd (dac (zAh zAy (zAa 2) zAd) zAe rfl) rfl)) (zAC (zBK (xw_t (zDH (zBM (zA3 (u64 hr)) (zAA (i:=0) (j:=0) (by decide) B.cl M.forth.m rfl G_forth (hr.mono (by decide)) M.forth.b) (zAF (zAi ixd (zAa 3) (zAh zAY (zAa 2) (zAa 4)))) (zAx _)) (zDI (zBM (zA3 (u64 hr)) (zAA (i:=0) (j:=0) (by decide) B.cl M.now.m rfl G_now (hr.mono (by decide)) M.now.b) (zAF (zAi ixd (zAa 1) (zAa 4))) (zAx _))))) (zAI (zBL (zAF zBb))) zCy)
  (zAI (zBK (zBM (zA3 (u64 hr)) (zAA (i:=0) (j:=0) (by decide) B.cl M.counts.m rfl G_counts (hr.mono (by decide)) M.counts.b) (zAF (dtp (dac (zAa 4) (dac (zAh zAY (zAa 2) (zAa 4)) zAe rfl) rfl))) (zAx _)) (zAI (zBL (zAF zBb))) zCy))))
  (zAI (zBL (zAF (zEW (zCn (u64 hr)) (zCM rfl (zBB (N':=zHT) (inner:=[none]) (zAg s_qf) N_qf rfl rfl (by decide +kernel)) (zBo 0) (zBD (zAa 3)) (fun _ _ _ _ _=>(zAP (i:=0) zNv)) (fun _ _ _ _ _=>(zDi (zAU (zG8 (u65 hr)) (zAa 0) (dtp (dac zEY (dac zEY (dac zEY (dac zEY zAe rfl) rfl) rfl) rfl)) (by with_unfolding_all rfl)))) (fun _ _ _ _ _=>(zAa 0))) (@zEX _ _ _ _ zAe) (zAx _))))))))))
theorem ok_qq(G_qc:FnOk P w K mg base CX0 3 (a 18) (d 18) ["_law_script","_law_at","_law_most"] (spD K 3 zC3))(G_q7:FnOk P w K mg base CX0 2 (a 15) (d 15) ["_law_script","_law_k","_law_many"] (spD K 3 zAX))(G_qb:FnOk P w K mg base CX0 9 (a 21) (d 21) ["_law_script","_law_builder"] (spO (bK K C) 2 zCA))(G_qf:FnOk P w K mg base CX0 3 (a 10) (d 10) ["_law_builder","_law_rows"] (spO (bK K C) 2 zDK))(G_qd:FnOk P w K mg base CX0 8 (a 19) (d 19) ["_law_script","_law_at","_law_builder"] (spO (bK K C) 3 zBm))(G_back:FnOk P w K mg base CX0 2 (b 8) (e 8) ["self"] (spO (bK K C) 1 zBA))(G_counts:FnOk P w K mg base CX0 1 (b 10) (e 10) ["self"] (spO (bK K C) 1 zBa))(G_forth:FnOk P w K mg base CX0 2 (b 9) (e 9) ["self"] (spO (bK K C) 1 zBX))(G_now:FnOk P w K mg base CX0 1 (b 6) (e 6) ["self"] (spO (bK K C) 1 zAS))(G_twin:FnOk P w K mg base CX0 3 (b 11) (e 11) ["self"] (spT (bK K C) zEK))(G_init:FnOk P w K mg base CX0 1 (b 0) (e 0) ["self","floor"] (spI (bK K C) 1 zDL)):FnOk P w K mg base CX0 10 (a 26) (d 26) ["_law_script"] (spD K 1 Glaw):=by
 refine fn_L (k:=bK K C) (τ:=[(1,0),(8,1),(9,2)]) (g:=glaw) (G:=Glaw) (N:=N_qq) (kk:=9) rfl rfl rfl T.F_qq.F zBq fun cdv A outer s H E hr=>?_
 exact(zAC (zPS (i:=1) (n:=0) zBq.nd (by decide) M.M G_init (hr.mono (by decide)) rfl B.mC M.bi (dac (dcl T.F_qc G_qc hr rfl (dac (zAa 0) (dac zAd (dac zAd zAe rfl) rfl) rfl) ln3) zAe rfl) ln1)
  (zAC (zK4 (i:=2) zBq.nd (by decide) (zCh (zAA (i:=1) (j:=0) (by decide) B.cl M.now.m rfl G_now (hr.mono (by decide)) M.now.b) zDG))
  (zAC (zC2 (i:=3) Q1 rfl zBq.nd (by decide) (zB2 rfl T.z_range (dac (zAh zAy zAd (dcl T.F_q7 G_q7 hr rfl (dac (zAa 0) (dac zAd (dac zAd zAe rfl) rfl) rfl) ln3)) zAe rfl)) (zAC (zCw (zEG (j:=0) G_qd (hr.mono (by decide)) rfl T.F_qd.m T.F_qd.F.kp T.F_qd.b (zC1 (zAa 0) (zC1 (zAh zAy zAd (zAh zAZ zAd (zAa 3))) (zEI (i:=1) (by decide) zEH))) (zCT (zCT (zEm (fun _ _ h=>zEl h))))))
  (zAI (zK3 (i:=2) (zAA (i:=1) (j:=0) (by decide) B.cl M.now.m rfl G_now (hr.mono (by decide)) M.now.b)))))
  (zK6 2 (zAC (zCx (i:=4) zBq.nd (by decide) (zAF (zAh zAY (zBf zDc rfl T.z_len PySem.boot_len (dac (zAa 2) zAe rfl)) zAd)))
  (zAC (zBK (xw_t (zDH (zBM (zA3 (u64 hr)) (zAA (i:=1) (j:=0) (by decide) B.cl M.counts.m rfl G_counts (hr.mono (by decide)) M.counts.b) (zAF (dtp (dac (zAa 4) (dac zAd zAe rfl) rfl))) (zAx _)) (zDI (zPT (zPU (zEG (j:=0) G_qf (hr.mono (by decide)) rfl T.F_qf.m T.F_qf.F.kp T.F_qf.b (zEI (i:=1) (by decide) (zC1 (zAa 2) zEH)) (zEm (zCT (fun _ _ h=>zEl h))))))))) (zAI (zBL (zAF zBb))) zCy)
  (zAC (zCx (i:=5) zBq.nd (by decide) (zAF (zAh zAy zAd (dcl T.F_q7 G_q7 hr rfl (dac (zAa 0) (dac zAd (dac (zAa 4) zAe rfl) rfl) rfl) ln3))))
  (zAC (zC2 (i:=6) Q1 rfl zBq.nd (by decide) (zB2 rfl T.z_range (dac (zAa 5) zAe rfl)) (zAI (zCw (zAA (i:=1) (j:=0) (by decide) B.cl M.back.m rfl G_back (hr.mono (by decide)) M.back.b))))
  (zAC (zCx (i:=7) zBq.nd (by decide) (zFY (zCh (zAA (i:=1) (j:=0) (by decide) B.cl M.now.m rfl G_now (hr.mono (by decide)) M.now.b) (zCh (zAA (i:=1) (j:=0) (by decide) B.cl M.counts.m rfl G_counts (hr.mono (by decide)) M.counts.b) zDG))))
  (zAC (zK5 (i:=8) (i':=1) (j:=0) (n:=1) zBq.nd (by decide) (by decide) B.cl M.twin.m rfl G_twin (hr.mono (by decide)) M.twin.b)
  (zAC (zK5 (i:=9) (i':=8) (j:=1) (n:=2) zBq.nd (by decide) (by decide) B.cl M.twin.m rfl G_twin (hr.mono (by decide)) M.twin.b)
  (zAC (zBK (zEJ (zAU (zA3 (u64 hr)) (zAa 7) (dtp (dac (zAi ixd (zAa 2) (zAh zAY (zAa 4) (zAa 5))) (dac (dtp (dac (zAh zAY (zAa 4) (zAa 5)) (dac (zAa 5) zAe rfl) rfl)) zAe rfl) rfl)) (zAx _))) (zAI (zBL (zAF zBb))) zCy)
  (zAC (zCx (i:=10) zBq.nd (by decide) (zEG (j:=0) G_qb (hr.mono (by decide)) rfl T.F_qb.m T.F_qb.F.kp T.F_qb.b (zC1 (zAa 0) (zEI (i:=1) (by decide) zEH)) (zCT (zEm (fun _ _ h=>zEl h)))))
  (zAC (zBK (xw_t (zDH (zEJ (zAU (zA3 (u64 hr)) (zAi ixd (zAa 10) zAd) (dtp (dac (zAh zAy (zAh zAY (zAa 4) (zAa 5)) zAd) (dac zAd zAe rfl) rfl)) (zAx _))) (zDI (zBM (zA3 (u64 hr)) (zFY (zCh (zAA (i:=8) (j:=1) (by decide) B.cl M.now.m rfl G_now (hr.mono (by decide)) M.now.b) (zCh (zAA (i:=8) (j:=1) (by decide) B.cl M.counts.m rfl G_counts (hr.mono (by decide)) M.counts.b) zDG))) (zAF (zAa 7)) (zAx _))))) (zAI (zBL (zAF zBb))) zCy)
  (zAC (zBK (xw_t (zDH (zBM (zA3 (u64 hr)) (zEG (j:=1) G_qb (hr.mono (by decide)) rfl T.F_qb.m T.F_qb.F.kp T.F_qb.b (zC1 (zAa 0) (zEI (i:=8) (by decide) zEH)) (zCT (zEm (fun _ _ h=>zEl h)))) (zAF (zAa 10)) (zAx _)) (zDI (zBM (zA3 (u64 hr)) (zFY (zCh (zAA (i:=9) (j:=2) (by decide) B.cl M.now.m rfl G_now (hr.mono (by decide)) M.now.b) (zCh (zAA (i:=9) (j:=2) (by decide) B.cl M.counts.m rfl G_counts (hr.mono (by decide)) M.counts.b) zDG))) (zAF (zAa 7)) (zAx _))))) (zAI (zBL (zAF zBb))) zCy)
  (zAC (zC2 (i:=6) Q1 rfl zBq.nd (by decide) (zB2 rfl T.z_range (dac (zAa 5) zAe rfl)) (zAI (zCw (zAA (i:=9) (j:=2) (by decide) B.cl M.forth.m rfl G_forth (hr.mono (by decide)) M.forth.b))))
  (zAC (zC2 (i:=6) Q1 rfl zBq.nd (by decide) (zB2 rfl T.z_range (dac (zAh zAy (zAh zAY (zAa 4) (zAa 5)) zAd) zAe rfl)) (zAI (zBK (xw_t (zDH (zBM (zA3 (u64 hr)) (zAA (i:=8) (j:=1) (by decide) B.cl M.back.m rfl G_back (hr.mono (by decide)) M.back.b) (zAA (i:=1) (j:=0) (by decide) B.cl M.back.m rfl G_back (hr.mono (by decide)) M.back.b) (zAx _)) (zDI (zBM (zA3 (u64 hr)) (zAA (i:=8) (j:=1) (by decide) B.cl M.now.m rfl G_now (hr.mono (by decide)) M.now.b) (zAA (i:=1) (j:=0) (by decide) B.cl M.now.m rfl G_now (hr.mono (by decide)) M.now.b) (zAx _))))) (zAI (zBL (zAF zBb))) zCy)))
  (zAI (zBL (zK1 (zHI (zCn (u64 hr)) (zAA (i:=9) (j:=2) (by decide) B.cl M.now.m rfl G_now (hr.mono (by decide)) M.now.b) (zAF (zAi ixd (zAa 2) (zDf zDE zAd))) (zAx _)) (zK1 (zHI (zCn (u64 hr)) (zAA (i:=8) (j:=1) (by decide) B.cl M.now.m rfl G_now (hr.mono (by decide)) M.now.b) (zAF (zAi ixd (zAa 2) zAd)) (zAx _)) (zPR (zHI (zCn (u64 hr)) (zAA (i:=9) (j:=2) (by decide) B.cl M.counts.m rfl G_counts (hr.mono (by decide)) M.counts.b) (zAF (dtp (dac (zAa 4) (dac zAd zAe rfl) rfl))) (zAx _))))))))))))))))))))))))
end
end My
namespace My
open PySem PySem.SeqAt L2 DL SD SL EL DC
abbrev C:=Int × Int
def zAb(c:C):D:=.tuple [.int c.1,.int c.2]
theorem zED(i j:Int):dSub (.int i) (.int j)=some (.int (i-j)):=id rfl
theorem zJk(l:List D):dLen [.list l]=some (.int l.length):=id rfl
theorem zBi{i j:Int}(h:zCb i j=true):zAt (.int i) (.int j)=some (.int (i * j)):=by
 show(if zCb i j=true then _ else _)=_
 rw [if_pos h]
theorem zIx{i j:Int}(h:zDp i j=true):zCK (.int i) (.int j)=some (.int (i / j)):=by
 show(if zDp i j=true then _ else _)=_
 rw [if_pos h]
theorem zDm{i j:Int}(h:0<j):dMod (.int i) (.int j)=some (.int (i % j)):=by
 show(if decide (0<j)=true then _ else _)=_
 rw [if_pos (decide_eq_true h)]
theorem okS{i j:Int}(h1:-18446744073709551616<i)(h2:i<18446744073709551616):zCb i j=true:=by
 unfold zCb
 rw [decide_eq_true h1,decide_eq_true h2]
 rfl
theorem okT{i j:Int}(h1:-18446744073709551616<j)(h2:j<18446744073709551616):zCb i j=true:=by
 unfold zCb
 rw [decide_eq_true h1,decide_eq_true h2]
 simp
theorem okD{i j:Int}(h1:0<j)(h2:j<1073741824):zDp i j=true:=by
 unfold zDp
 rw [decide_eq_true h1,decide_eq_true h2]
 rfl
section
variable {α β:Type}
theorem zDZ{s:D->Rho->Option Rho}{t:Rho->Option Bool}{ge:Rho->Option D}(item:α->D)(p:α->Bool)(f:α->D)(I:Rho->Prop):∀{xs:List α}{ρ:Rho},I ρ->
  (∀ a∈xs,∀ ρ,I ρ->∃ ρ',s (item a) ρ=some ρ'/\I ρ'/\t ρ'=some (p a)/\(p a=true->ge ρ'=some (f a)))->zDe s t ge (xs.map item) ρ=some ((xs.filter p).map f)
 | [],_,_,_=>rfl
 | x::xs,ρ,h0,h=>by
  obtain⟨ρ',e1,i1,e2,e3⟩:=h x Qj ρ h0
  have ih:=zDZ item p f I i1 fun y hy=>h y (Qe _ hy)
  rw [Qq]
  unfold zDe
  rw [e1,Qf,e2,Qf]
  cases q:p x with
  | true=>rw [if_pos rfl,e3 q,Qf,ih,List.filter_cons_of_pos q];rfl
  | false=>rw [if_neg Qr,ih,List.filter_cons_of_neg (by rw [q];exact Qr)]
theorem zJi{gi:Rho->Option (List D)}{s:D->Rho->Option Rho}{t:Rho->Option Bool}{ge:Rho->Option D}{inner:List (Option Nat)}{ρ:Rho}{xs:List α}(item:α->D)(p:α->Bool)(f:α->D)(I:Rho->Prop)(h1:gi ρ=some (xs.map item))(hl:xs.length<=1000)(h0:I (zB6 inner ρ))
  (h:∀ a∈xs,∀ ρ,I ρ->∃ ρ',s (item a) ρ=some ρ'/\I ρ'/\t ρ'=some (p a)/\(p a=true->ge ρ'=some (f a))):eLc (zA2 gi s t ge inner) ρ=some (.list ((xs.filter p).map f)):=by
 have q:=zDZ item p f I h0 h
 unfold eLc zA2
 rw [h1,Qf,q,Qf,if_pos (by rw [Ql];exact QI (Q7 _ _) hl)]
 rfl
theorem zBS{gi:Rho->Option (List D)}{s:D->Rho->Option Rho}{t:Rho->Option Bool}{ge:Rho->Option D}{inner:List (Option Nat)}{ρ:Rho}{xs:List α}{out:List D}(item:α->D)(p:α->Bool)(f:α->D)(I:Rho->Prop)(h1:gi ρ=some (xs.map item))(hl:xs.length<=1000)(h0:I (zB6 inner ρ))
  (h:∀ a∈xs,∀ ρ,I ρ->∃ ρ',s (item a) ρ=some ρ'/\I ρ'/\t ρ'=some (p a)/\(p a=true->ge ρ'=some (f a))) (ho:(xs.filter p).map f=out):eLc (zA2 gi s t ge inner) ρ=some (.list out):=by
 rw [<- ho]
 exact zJi item p f I h1 hl h0 h
theorem zD8(l:List α):l.filter (fun _=>true)=l:=by induction l with
 | nil=>rfl
 | cons a l ih=>simp [ih]
theorem zD9{s:D->Rho->Option Rho}{g:Rho->Option Out}(item:α->D)(env:β->Rho)(step:β->α->β)(P:Nat->β->Prop)(n:Nat):∀(xs:List α) (i:Nat) (b:β),i+xs.length<=n->P i b->
  (∀ a∈xs,∀ i b,i<n->P i b->(∃ ρ1,s (item a) (env b)=some ρ1/\g ρ1=some (.nx (env (step b a))))/\P (i+1) (step b a))->forN s g (xs.map item) (env b)=some (.nx (env (xs.foldl step b)))
 | [],_,b,_,_,_=>rfl
 | x::xs,i,b,hi,hp,h=>by
  rw [Qw]at hi
  obtain⟨⟨ρ1,e1,e2⟩,p2⟩:=h x Qj i b (by lia) hp
  rw [Qq]
  unfold forN
  rw [e1,Qf,e2,Qf]
  exact zD9 item env step P n xs (i+1) _ (by lia) p2 fun a ha=>h a (Qe _ ha)
theorem zGu{s:D->Rho->Option Rho}{g:Rho->Option Out}(item:α->D)(I:Rho->Prop)(p:α->Bool)(d:D):∀(xs:List α) (ρ:Rho),I ρ->
  (∀ a∈xs,∀ ρ,I ρ->∃ ρ1,s (item a) ρ=some ρ1/\if p a=true then g ρ1=some (.rt d)else ∃ ρ2,g ρ1=some (.nx ρ2)/\I ρ2)->
  if xs.any p=true then forN s g (xs.map item) ρ=some (.rt d)else ∃ ρ',forN s g (xs.map item) ρ=some (.nx ρ')/\I ρ'
 | [],ρ,h0,_=>by rw [if_neg (by simp)];exact⟨ρ,rfl,h0⟩
 | x::xs,ρ,h0,h=>by
  obtain⟨ρ1,e1,e2⟩:=h x Qj ρ h0
  rw [Qq,Ji]
  unfold forN
  rw [e1,Qf]
  cases q:p x with
  | true=>
   rw [q,if_pos rfl]at e2
   rw [Bool.true_or,if_pos rfl,e2]
   rfl
  | false=>
   rw [q,if_neg Qr]at e2
   obtain⟨ρ2,e2,i2⟩:=e2
   rw [Bool.false_or,e2,Qf]
   exact zGu item I p d xs ρ2 i2 fun a ha=>h a (Qe _ ha)
end
theorem zKc(h:Nat)(h2:h<1000):rng1 [.int h]=some ((List.range h).map fun(k:Nat)=>.int (k:Int)):=by
 show(if -4611686018427387904<=(h:Int)/\(h:Int)<4611686018427387904 then some ((List.range (h:Int).toNat).map fun(k:Nat)=>PyData.int (0+(k:Int)))else none)=_
 rw [if_pos ⟨by lia,by lia⟩,Jd]
 congr 2
 funext k
 rw [Int.zero_add]
section
variable {g g1 g2:Rho->Option Out}{t u:Rho->Option Bool}{ga gb gc:Rho->Option D}{gr:Rho->Option (List D)}{ρ:Rho}{d:D}
theorem zF1(b:Bool):asB (.bool b)=some b:=id rfl
end
section
variable {α β:Type}(a:α)(l m:List α)(n:Nat)(f:α->β)
end
def zEe{β:Type}(cond:β->Bool)(step:β->β):Nat->β->Option β
 | 0,_=>none
 | n+1,b=>if cond b=true then zEe cond step n (step b)else some b
theorem zKW{β:Type}{t:Rho->Option Bool}{g:Rho->Option Out}(env:β->Rho)(cond:β->Bool)(step:β->β)(P:Nat->β->Prop)(hT:∀ n b,P n b->t ((env b).map frz)=some (cond b))
  (hB:∀ n b,P (n+1) b->cond b=true->g (env b)=some (.nx (env (step b)))/\P n (step b)):∀ n b b',P n b->zEe cond step n b=some b'->zCv t g n (env b)=some (.nx (env b'))
 | 0,_,_,_,h=>by cases h
 | n+1,b,b',p,h=>by
  unfold zEe at h
  unfold zCv
  rw [hT _ b p,Qf]
  by_cases c:cond b=true
  ·rw [if_pos c]at h ⊢
   obtain⟨h1,h2⟩:=hB n b p c
   rw [h1,Qf]
   exact zKW env cond step P hT hB n _ b' h2 h
  ·rw [if_neg c]at h ⊢
   cases h
   rfl
theorem zAo{g1 g2:Rho->Option Out}{ρ ρ':Rho}{r:Option Out}(h:g1 ρ=some (.nx ρ'))(h2:g2 ρ'=r):sSeq g1 g2 ρ=r:=by
 unfold sSeq
 rw [h]
 exact h2
theorem zEx{g1 g2:Rho->Option Out}{ρ:Rho}{d:D}(h:g1 ρ=some (.rt d)):sSeq g1 g2 ρ=some (.rt d):=by
 unfold sSeq
 rw [h]
 rfl
theorem zAJ{n:Nat}{g:Rho->Option Out}{ds:List D}{d:D}(h:g (zAH n ds)=some (.rt d)):fnD n g ds=some d:=by
 unfold fnD
 rw [h]
theorem zDx{gi:Rho->Option (List D)}{s:D->Rho->Option Rho}{g:Rho->Option Out}{ρ:Rho}{xs:List D}{r:Option Out}(h1:gi ρ=some xs)(h2:forN s g xs ρ=r):sFor gi s g ρ=r:=by
 unfold sFor
 rw [h1]
 exact h2
theorem zCp{t:Rho->Option Bool}{g1 g2:Rho->Option Out}{ρ:Rho}{b:Bool}{r:Option Out}(h:t (ρ.map frz)=some b)(h1:b=true->g1 ρ=r)(h2:b=false->g2 ρ=r):sIf t g1 g2 ρ=r:=by
 unfold sIf
 rw [h]
 cases b with
 | true=>exact h1 rfl
 | false=>exact h2 rfl
theorem zAL{ga:Rho->Option D}{ρ:Rho}{d:D}(h:ga (ρ.map frz)=some d):sRet ga ρ=some (.rt d):=by
 unfold sRet
 rw [h]
 rfl
theorem zAM{i:Nat}{ga:Rho->Option D}{ρ:Rho}{d:D}(h:ga ρ=some d):sSet i ga ρ=some (.nx (ρ.set i (.dat d))):=by
 unfold sSet
 rw [h]
 rfl
theorem zAk{G:List D->Option D}{gr:Rho->Option (List D)}{ρ:Rho}{ds:List D}{r:Option D}(h:gr ρ=some ds)(h2:G ds=r):zAj G gr ρ=r:=by
 unfold zAj
 rw [h]
 exact h2
theorem zKh{gr:Rho->Option (List D)}{s:D->Rho->Option Rho}{g:Rho->Option Out}{ρ:Rho}{n:Nat}{r:Option Out}(h1:gr ρ=some [.int (n:Nat)])(hn:n<1000)(h2:forN s g ((List.range n).map fun(k:Nat)=>.int (k:Int)) ρ=r):sFor (iRng1 gr) s g ρ=r:=by
 show((gr ρ).bind rng1).bind (fun xs=>forN s g xs ρ)=r
 rw [h1,Qf,zKc n hn,Qf]
 exact h2
theorem zCP{gr:Rho->Option (List D)}{ρ:Rho}{n:Nat}(h1:gr ρ=some [.int (n:Nat)])(hn:n<1000):iRng1 gr ρ=some ((List.range n).map fun(k:Nat)=>.int (k:Int)):=by
 show(gr ρ).bind rng1=_
 rw [h1,Qf,zKc n hn]
theorem oo{f:D->D->Option D}{ga gb:Rho->Option D}{ρ:Rho}{x y:D}{r:Option D}(h1:ga ρ=some x)(h2:gb ρ=some y)(h3:f x y=r):eOp f ga gb ρ=r:=by
 unfold eOp
 rw [h1,Qf,h2]
 exact h3
theorem oB{ga:Rho->Option D}{ρ:Rho}{b:Bool}(h:ga ρ=some (.bool b)):eB ga ρ=some b:=by
 unfold eB
 rw [h]
 rfl
theorem zKg{i:Nat}{ga:Rho->Option D}{ρ:Rho}{ds:List D}{d:D}(h1:ρ[i]?=some (.own ds))(h2:ga ρ=some d)(h3:ds.length<1000):sApp i ga ρ=some (.nx (ρ.set i (.own (ds++[d])))):=by
 unfold sApp
 rw [h1]
 show(ga ρ).bind _=_
 rw [h2,Qf,if_pos h3]
theorem zHr{ga:Rho->Option D}{ρ:Rho}{d:D}(h:ga ρ=some d):zDy ga ρ=some (.nx ρ):=by
 unfold zDy
 rw [h]
 rfl
theorem zAG{ga:Rho->Option D}{gr:Rho->Option (List D)}{ρ:Rho}{d:D}{ds:List D}(h:ga ρ=some d)(h2:gr ρ=some ds):zAc ga gr ρ=some (d::ds):=by
 unfold zAc
 rw [h,Qf,h2]
 rfl
theorem zBy{t:Rho->Option Bool}{g1:Rho->Option Out}{ρ:Rho}(h:t (ρ.map frz)=some false):sIf t g1 zBj ρ=some (.nx ρ):=by
 unfold sIf
 rw [h]
 rfl
theorem oN{t:Rho->Option Bool}{ρ:Rho}{b:Bool}(h:t ρ=some b):eNot t ρ=some (!b):=by
 unfold eNot
 rw [h]
 rfl
theorem oA1{t u:Rho->Option Bool}{ρ:Rho}{r:Option Bool}(h:t ρ=some true)(h2:u ρ=r):eAnd t u ρ=r:=by
 unfold eAnd
 rw [h]
 exact h2
theorem oA0{t u:Rho->Option Bool}{ρ:Rho}(h:t ρ=some false):eAnd t u ρ=some false:=by
 unfold eAnd
 rw [h]
 rfl
theorem fn_nx{n:Nat}{g:Rho->Option Out}{ds:List D}{ρ:Rho}(h:g (zAH n ds)=some (.nx ρ)):fnD n g ds=some .none:=by
 unfold fnD
 rw [h]
theorem oAV{ga gb:Rho->Option D}{ρ:Rho}{r:Option D}(h:ga ρ=some (.bool true))(h2:gb ρ=r):zB4 ga gb ρ=r:=by
 unfold zB4
 rw [h]
 exact h2
theorem oT2{ga gb:Rho->Option D}{ρ:Rho}{x y:D}(h1:ga ρ=some x)(h2:gb ρ=some y):eTup (zAc ga (zAc gb eNil)) ρ=some (.tuple [x,y]):=by
 unfold eTup
 rw [zAG h1 (zAG h2 rfl)]
 rfl
theorem oT1{ga:Rho->Option D}{ρ:Rho}{x:D}(h1:ga ρ=some x):eTup (zAc ga eNil) ρ=some (.tuple [x]):=by
 unfold eTup
 rw [zAG h1 rfl]
 rfl
theorem oT3{ga gb gc:Rho->Option D}{ρ:Rho}{x y z:D}(h1:ga ρ=some x)(h2:gb ρ=some y)(h3:gc ρ=some z):eTup (zAc ga (zAc gb (zAc gc eNil))) ρ=some (.tuple [x,y,z]):=by
 unfold eTup
 rw [zAG h1 (zAG h2 (zAG h3 rfl))]
 rfl
theorem oO0{t u:Rho->Option Bool}{ρ:Rho}{r:Option Bool}(h:t ρ=some false)(h2:u ρ=r):eOr t u ρ=r:=by
 unfold eOr
 rw [h]
 exact h2
theorem oAV0{ga gb:Rho->Option D}{ρ:Rho}(h:ga ρ=some (.bool false)):zB4 ga gb ρ=some (.bool false):=by
 unfold zB4
 rw [h]
 rfl
theorem zB8{ga:Rho->Option D}{ρ:Rho}{d:D}{l:List D}(h1:ga ρ=some d)(h2:seqD d=some l):iSeq ga ρ=some l:=by
 show(ga ρ).bind seqD=_
 rw [h1,Qf,h2]
end My
namespace My
open PySem PySem.SeqAt L2 DL SD SL EL DC
abbrev Row:=List Int
def insL(p:Row):List Row->List Row
 | []=>[p]
 | q::r=>if HT.lexLt q p=true then q::insL p r else p::q::r
def zBr:List Row->List Row
 | []=>[]
 | p::r=>insL p (zBr r)
def fK(k:Row):KD:=(k,tupI k)
theorem zI5(p:Row):∀ l:List Row,insK (fK p) (l.map fK)=(insL p l).map fK
 | []=>rfl
 | q::r=>by
  show(if HT.lexLt q p=true then fK q::insK (fK p) (r.map fK)else fK p::fK q::r.map fK)=(if HT.lexLt q p=true then q::insL p r else p::q::r).map fK
  split
  ·rw [zI5 p r];rfl
  ·rfl
theorem zHA:∀ l:List Row,zA6 (l.map fK)=(zBr l).map fK
 | []=>rfl
 | p::r=>by
  show insK (fK p) (zA6 (r.map fK))=(insL p (zBr r)).map fK
  rw [zHA r,zI5]
theorem zI6(p:Row):∀ l:List Row,(insL p l).Perm (p::l)
 | []=>.refl _
 | q::r=>by
  unfold insL
  split
  ·exact((zI6 p r).cons q).trans (.swap _ _ _)
  ·exact .refl _
theorem zHB:∀ l:List Row,(zBr l).Perm l
 | []=>.refl _
 | p::r=>(zI6 p (zBr r)).trans ((zHB r).cons p)
theorem zPi(l:List Row):(zBr l).Pairwise fun a b=>HT.lexLt b a=false:=by
 have:=zEB (l.map fK)
 rw [zHA,QW]at this
 exact this
theorem zIh:∀ l:List Row,l.Nodup->dd l=l
 | [],_=>rfl
 | k::r,h=>by
  obtain⟨h1,h2⟩:=Yc.mp h
  unfold dd
  rw [if_neg h1,zIh r h2]
theorem zJq:∀{k m:Row},k.length=m.length->zBg (k.map PyData.int) (m.map PyData.int)=true
 | [],[],_=>rfl
 | x::k,y::m,h=>by
  show(zBv (.int x) (.int y) && zBg (k.map PyData.int) (m.map PyData.int))=true
  rw [zJq (by simpa using h)]
  rfl
 | [],_::_,h=>by cases h
 | _::_,[],h=>by cases h
theorem zIB:∀ k:Row,zBt (k.map PyData.int)=some k
 | []=>rfl
 | x::k=>by
  have:=zIB k
  show(some [x]).bind (fun a=>(zBt (k.map PyData.int)).bind fun b=>some (a++b))=_
  rw [this]
  rfl
theorem zKf{d0:Row}(h0:d0≠[]):∀{l:List Row},(∀ k∈l,k.length=d0.length)->zA9 (d0.map PyData.int) (l.map tupI)=some (l.map fK)
 | [],_=>rfl
 | k::l,h=>by
  have hk:=h k Qj
  have e1:rowK (d0.map PyData.int) (tupI k)=some k:=by
   cases k with
   | nil=>exact absurd (Y5 hk.symm) h0
   | cons x k=>
    show(if zBg (d0.map PyData.int) ((x::k).map PyData.int)=true then zBt ((x::k).map PyData.int)else none)=_
    rw [if_pos (zJq hk.symm),zIB]
  show(rowK (d0.map PyData.int) (tupI k)).bind _=_
  rw [e1,Qf,zKf h0 fun k hk=>h k (Qe _ hk)]
  rfl
theorem zEC{l:List Row}(h:∀ k∈l,k.length=2)(hl:l.length<=63):zBC [.list (l.map tupI)]=some (.list ((zBr l).map tupI)):=by
 cases l with
 | nil=>rfl
 | cons k0 kr=>
  have h0:k0.length=2:=h k0 Qj
  have e2:=zKf (d0:=k0) (fun q=>by rw [q]at h0;cases h0) (l:=k0::kr) fun k hk=>(h k hk).trans h0.symm
  show(if(kr.map tupI).length<63 then(zA9 (k0.map PyData.int) ((k0::kr).map tupI)).bind fun l=>some (PyData.list ((zA6 l).map (·.2)))else none)=_
  rw [if_pos (by rw [Ql];simp only [Qw]at hl;lia),e2]
  show some (PyData.list ((zA6 ((k0::kr).map fK)).map (·.2)))=_
  rw [zHA,YB]
  rfl
def row(c:C):Row:=[c.1,c.2]
def ltC(a b:C):Bool:=HT.lexLt (row a) (row b)
theorem zCQ(a b:C):ltC a b=true ↔ a.1<b.1 ∨ (a.1=b.1/\a.2<b.2):=by
 unfold ltC row
 rw [HT.lexLt_cons]
 by_cases h:a.1=b.1
 ·rw [if_pos h,HT.lexLt_cons]
  by_cases h':a.2=b.2
  ·rw [if_pos h'];simp [HT.lexLt];lia
  ·rw [if_neg h'];simp;lia
 ·rw [if_neg h];simp;lia
def Up(l:List C):Prop:=l.Pairwise fun a b=>ltC a b=true
theorem zKP:∀{l m:List C},Up l->Up m->(∀ c,c∈l ↔ c∈m)->l=m
 | [],[],_,_,_=>rfl
 | [],b::m,_,_,h=>nomatch (h b).mpr Qj
 | a::l,[],_,_,h=>nomatch (h a).mp Qj
 | a::l,b::m,h1,h2,h=>by
  obtain⟨a1,a2⟩:=QV.mp h1
  obtain⟨b1,b2⟩:=QV.mp h2
  have irr:∀ c:C,ltC c c=true->False:=fun c q=>by rw [zCQ]at q;lia
  have e:a=b:=by
   rcases Qh.mp ((h a).mp Qj)with q | q
   ·exact q
   ·rcases Qh.mp ((h b).mpr Qj)with r | r
    ·exact r.symm
    ·have x:=b1 a q
     have y:=a1 b r
     rw [zCQ]at x y
     lia
  subst e
  congr 1
  refine zKP a2 b2 fun c=>⟨fun q=>?_,fun q=>?_⟩
  ·rcases Qh.mp ((h c).mp (Qe _ q))with r | r
   ·subst r;exact(irr _ (a1 _ q)).elim
   ·exact r
  ·rcases Qh.mp ((h c).mpr (Qe _ q))with r | r
   ·subst r;exact(irr _ (b1 _ q)).elim
   ·exact r
theorem zEE{l:List C}(h:Up l):l.Nodup:=h.imp fun{a b} q e=>by subst e;rw [zCQ]at q;lia
theorem zPh{l:List C}(hn:l.Nodup):∃ m:List C,zBr (l.map row)=m.map row/\Up m/\∀ c,c∈m ↔ c∈l:=by
 obtain⟨m,hm⟩:∃ m:List C,m=(zBr (l.map row)).map fun r=>(r.getD 0 0,r.getD 1 0):=⟨_,rfl⟩
 have mem:∀ r,r∈zBr (l.map row) ↔ r∈l.map row:=fun r=>(zHB _).mem_iff
 have e:zBr (l.map row)=m.map row:=by
  rw [hm,YB]
  conv=>lhs;rw [<- List.map_id (zBr (l.map row))]
  refine List.map_congr_left fun r hr=>?_
  obtain⟨c,_,rfl⟩:=QK.mp ((mem r).mp hr)
  rfl
 have inj:∀ a b:C,row a=row b->a=b:=fun a b q=>by
  unfold row at q
  injection q with q1 q2
  injection q2 with q2 _
  exact Prod.ext q1 q2
 have mm:∀ c,c∈m ↔ c∈l:=fun c=>by
  constructor
  ·intro h
   have:row c∈l.map row:=(mem _).mp (by rw [e];exact List.mem_map_of_mem h)
   obtain⟨d,hd,q⟩:=QK.mp this
   rw [<- inj _ _ q];exact hd
  ·intro h
   have:row c∈m.map row:=by rw [<- e];exact(mem _).mpr (List.mem_map_of_mem h)
   obtain⟨d,hd,q⟩:=QK.mp this
   rw [<- inj _ _ q];exact hd
 refine⟨m,e,?_,mm⟩
 have s:=zPi (l.map row)
 have n:(zBr (l.map row)).Nodup:=(zHB _).nodup_iff.mpr (by
  rw [List.Nodup,QW]
  exact hn.imp fun{a b} q r=>q (inj _ _ r))
 rw [e]at s n
 rw [QW]at s
 rw [List.Nodup,QW]at n
 refine(s.and n).imp fun{a b} h=>?_
 cases q:ltC a b with
 | true=>rfl
 | false=>exact absurd (zEf _ _ q h.1) h.2
theorem zFH(l:List C):(l.map row).map tupI=l.map zAb:=by rw [YB];rfl
theorem zFS{l m:List C}(hn:l.Nodup)(hl:l.length<=63)(hm:Up m)(h:∀ c,c∈m ↔ c∈l):zBC [.list (l.map zAb)]=some (.list (m.map zAb)):=by
 rw [<- zFH l,zEC (fun k hk=>by obtain⟨c,_,rfl⟩:=QK.mp hk;rfl) (by rw [Ql];exact hl)]
 obtain⟨m',e1,e2,e3⟩:=zPh hn
 rw [e1,zFH,zKP e2 hm fun c=>(e3 c).trans (h c).symm]
def cells(w h:Nat):List C:=(List.range w).flatMap fun(x:Nat)=>(List.range h).map fun(y:Nat)=>((x:Int),(y:Int))
def inR(w h:Nat)(c:C):Bool:=decide (0<=c.1) && decide (c.1<w) && decide (0<=c.2) && decide (c.2<h)
theorem zCl{w h:Nat}{c:C}:inR w h c=true ↔ 0<=c.1/\c.1<w/\0<=c.2/\c.2<h:=by
 unfold inR
 simp only [QQ,decide_eq_true_eq]
 constructor
 ·intro q;exact⟨q.1.1.1,q.1.1.2,q.1.2,q.2⟩
 ·intro q;exact⟨⟨⟨q.1,q.2.1⟩,q.2.2.1⟩,q.2.2.2⟩
theorem zCa{w h:Nat}{c:C}:c∈cells w h ↔ inR w h c=true:=by
 unfold cells
 rw [List.mem_flatMap,zCl]
 constructor
 ·rintro⟨x,hx,hc⟩
  obtain⟨y,hy,rfl⟩:=QK.mp hc
  exact⟨Int.natCast_nonneg _,Int.ofNat_lt.mpr (QO.mp hx),Int.natCast_nonneg _,Int.ofNat_lt.mpr (QO.mp hy)⟩
 ·rintro⟨q1,q2,q3,q4⟩
  exact⟨c.1.toNat,QO.mpr ((Int.toNat_lt q1).mpr q2),QK.mpr ⟨c.2.toNat,QO.mpr ((Int.toNat_lt q3).mpr q4),Prod.ext (Int.toNat_of_nonneg q1) (Int.toNat_of_nonneg q3)⟩⟩
theorem zPN(h:Nat)(x:Nat):Up ((List.range h).map fun(y:Nat)=>((x:Int),(y:Int))):=by
 unfold Up
 rw [QW]
 refine List.pairwise_lt_range.imp fun{a b} q=>?_
 rw [zCQ]
 dsimp only
 lia
theorem zCr(w h:Nat):Up (cells w h):=by
 unfold Up cells
 rw [List.pairwise_flatMap]
 refine⟨fun x _=>zPN h x,List.pairwise_lt_range.imp fun{a b} q c hc d hd=>?_⟩
 obtain⟨y,_,rfl⟩:=QK.mp hc
 obtain⟨z,_,rfl⟩:=QK.mp hd
 rw [zCQ]
 dsimp only
 lia
theorem zCs{l:List C}(h:Up l)(p:C->Bool):Up (l.filter p):=List.Pairwise.filter p h
theorem zKE(h:Nat):∀ l:List Nat,(l.map fun _=>h).sum=l.length * h
 | []=>by simp
 | _::l=>by rw [Qq,List.sum_cons,zKE h l,Qw,Nat.succ_mul,Nat.add_comm]
theorem zER(w h:Nat):(cells w h).length=w * h:=by
 unfold cells
 rw [List.length_flatMap]
 simp only [Ql,QP]
 rw [zKE,QP]
end My
namespace My
open PySem PySem.SeqAt L2 DL SD SL EL DC
def zFX(fx fy:Int):Nat->Int->Int->Option (List C)
 | 0,_,_=>none
 | n+1,gx,gy=>if gx<fx ∨ gy<fy then
   (zFX fx fy n (if(2 * gx+1) * fy<=(2 * gy+1) * fx then gx+1 else gx) (if(2 * gy+1) * fx<=(2 * gx+1) * fy then gy+1 else gy)).bind fun r=>
    some ((if(2 * gx+1) * fy<=(2 * gy+1) * fx then gx+1 else gx,if(2 * gy+1) * fx<=(2 * gx+1) * fy then gy+1 else gy)::r)
  else some []
def iabs(i:Int):Int:=if i<0 then -i else i
def sgn(a:Int):Int:=if 0<a then 1 else -1
def rel(a b:Int):Option (List C):=(zFX (iabs a) (iabs b) 900 0 0).bind fun st=>some ((0,0)::st.map fun g=>(sgn a * g.1,sgn b * g.2))
def relT(a b:Int):List C:=(rel a b).getD []
def sub(d:C)(g:C):C:=(g.1-d.1,g.2-d.2)
def add(d:C)(g:C):C:=(d.1+g.1,d.2+g.2)
def eqL:List C->List C->Bool
 | [],[]=>true
 | a::l,b::m=>a.1 == b.1 && a.2 == b.2 && eqL l m
 | _,_=>false
theorem zD6:∀{l m:List C},eqL l m=true->l=m
 | [],[],_=>rfl
 | a::l,b::m,h=>by
  unfold eqL at h
  simp only [QQ,beq_iff_eq]at h
  rw [zD6 h.2,Prod.ext h.1.1 h.1.2]
 | [],_::_,h=>by cases h
 | _::_,[],h=>by cases h
def chk(a b:Int):Bool:=match rel a b with
 | some ((0,0)::st)=>decide (st.length<=8) && eqL (relT (-a) (-b)) ((((0,0)::st).reverse).map (sub (a,b))) && eqL (relT (-a) b) (((0,0)::st).map fun g=>(-g.1,g.2)) && eqL (relT b a) (((0,0)::st).map fun g=>(g.2,g.1))
   && eqL ((((0,0)::st).dropLast++[(a,b)])) ((0,0)::st) && ((0,0)::st).all (fun g=>decide (0<=sgn a * g.1) && decide (sgn a * g.1<=iabs a) && decide (0<=sgn b * g.2) && decide (sgn b * g.2<=iabs b))
 | _=>false
def rng4:List Int:=[-4,-3,-2,-1,0,1,2,3,4]
theorem zLy:(rng4.all fun a=>rng4.all fun b=>chk a b)=true:=by decide +kernel
theorem zJx{a:Int}(h:-4<=a)(h':a<=4):a∈rng4:=by
 have k:∀ n:Fin 9,((n.val:Int)-4)∈rng4:=by decide
 have e:(((a+4).toNat:Nat):Int)-4=a:=by lia
 have:=k ⟨(a+4).toNat,by lia⟩
 rw [e]at this
 exact this
structure zHL(a b:Int):Prop where
 some:rel a b=some (relT a b)
 len:(relT a b).length<=9
 first:∃ st,relT a b=(0,0)::st
 back:relT (-a) (-b)=(relT a b).reverse.map (sub (a,b))
 mir:relT (-a) b=(relT a b).map fun g=>(-g.1,g.2)
 flip:relT b a=(relT a b).map fun g=>(g.2,g.1)
 last:(relT a b).dropLast++[(a,b)]=relT a b
 box:∀ g∈relT a b,0<=sgn a * g.1/\sgn a * g.1<=iabs a/\0<=sgn b * g.2/\sgn b * g.2<=iabs b
theorem zM7{a b:Int}(ha:-4<=a)(ha':a<=4)(hb:-4<=b)(hb':b<=4):zHL a b:=by
 have c:=Ye.mp (Ye.mp zLy a (zJx ha ha')) b (zJx hb hb')
 unfold chk at c
 split at c
 ·rename_i st e
  have r:relT a b=(0,0)::st:=by unfold relT;rw [e];rfl
  simp only [QQ,decide_eq_true_eq]at c
  obtain⟨⟨⟨⟨⟨c1,c2⟩,c3⟩,c4⟩,c5⟩,c6⟩:=c
  refine⟨by rw [e,r],by rw [r,Qw];lia,⟨st,r⟩,by rw [r];exact zD6 c2,by rw [r];exact zD6 c3,by rw [r];exact zD6 c4,by rw [r];exact zD6 c5,fun g hg=>?_⟩
  rw [r]at hg
  have:=Ye.mp c6 g hg
  simp only [QQ,decide_eq_true_eq]at this
  exact⟨this.1.1.1,this.1.1.2,this.1.2,this.2⟩
 ·cases c
def diag(g h:C):Bool := !(g.1 == h.1) && !(g.2 == h.2)
def zEu(S:C->Bool):List C->Bool
 | g::h::r=>(!diag g h || !(S (g.1,h.2) && S (h.1,g.2))) && zEu S (h::r)
 | _=>true
theorem zOq(S:C->Bool)(g h:C)(r:List C):zEu S (g::h::r)=((!diag g h || !(S (g.1,h.2) && S (h.1,g.2))) && zEu S (h::r)):=rfl
def line(a b:C):List C:=(relT (b.1-a.1) (b.2-a.2)).map (add a)
def clear(S:C->Bool)(a b:C):Bool:=(line a b).dropLast.all (fun c => !S c) && zEu S (line a b)
def seeB(S:C->Bool)(a b:C):Bool := !S b && clear S a b
structure Near(a b:C):Prop where
 x0:-4<=b.1-a.1
 x1:b.1-a.1<=4
 y0:-4<=b.2-a.2
 y1:b.2-a.2<=4
theorem Near.ok{a b:C}(n:Near a b):zHL (b.1-a.1) (b.2-a.2):=zM7 n.x0 n.x1 n.y0 n.y1
def mir(m:Int)(c:C):C:=(m-c.1,c.2)
def swp(c:C):C:=(c.2,c.1)
end My
namespace My
open PySem PySem.SeqAt L2 DL SD SL EL DC
def scr(ns:List Int):D:=.list (ns.map PyData.int)
theorem zFa:∀ ns:List Int,PyData.canLayAll0 (ns.map PyData.int)=true/\PyData.depthAll (ns.map PyData.int)=0
 | []=>⟨rfl,rfl⟩
 | _::r=>⟨by simp [PyData.canLayAll0,PyData.canLay0,(zFa r).1],by simp [PyData.depthAll,PyData.depth,(zFa r).2]⟩
theorem zO8(ns:List Int):SeqAt.shaped (scr ns)=true:=by
 simp [SeqAt.shaped,scr,PyData.canLay0,PyData.depth,(zFa ns).1,(zFa ns).2]
theorem zLc{ns:List Int}{i:Int}(h0:0<=i)(h1:i<ns.length):∃ r,dIx (scr ns) (.int i)=some (.int r):=by
 show ∃ r,L2.atI (ns.map PyData.int) i=some (.int r)
 unfold L2.atI L2.ixN
 rw [Ql,if_pos h0,if_pos h1]
 have:i.toNat<ns.length:=by lia
 exact⟨ns[i.toNat],by simp [this]⟩
theorem zLx(ns:List Int)(hn:ns.length<=63)(k:Int):∃ r,zDM [scr ns,.int k]=some (.int r):=by
 cases ns with
 | nil=>
  have e:dEq (scr []) (.list [])=some (.bool true):=rfl
  have m:zAt (.int 7) (.int k)=some (.int (7 * k)):=zBi (okS (by decide) (by decide))
  exact⟨7 * k,zAJ (zEx (zCp (b:=true) rfl (fun _=>zAL (oo rfl rfl m)) fun z=>by cases z))⟩
 | cons n ns=>
  have hl:(0:Int)<((n::ns).length:Int):=by rw [Qw];lia
  have e:dEq (scr (n::ns)) (.list [])=some (.bool false):=by
   unfold dEq
   rw [zO8]
   rfl
  have ln:dLen [scr (n::ns)]=some (.int ((n::ns).length:Int)):=by
   show some (PyData.int (((n::ns).map PyData.int).length:Int))=_
   rw [Ql]
  obtain⟨r,hr⟩:=zLc (ns:=n::ns) (i:=k % ((n::ns).length:Int)) (Int.emod_nonneg _ (by lia)) (Y9 _ hl)
  have hl':((n::ns).length:Int)<1073741824:=by lia
  generalize ((n::ns).length:Int)=L at *
  generalize scr (n::ns)=S at *
  have m1:=zDm (i:=k) hl
  have m2:=zIx (i:=k) (okD hl hl')
  have m3:zAt (.int 6553) (.int (k / L))=some (.int (6553 * (k / L))):=zBi (okS (by decide) (by decide))
  exact⟨r+6553 * (k / L),zAJ (zAo (zBy (oB (oo rfl rfl e))) (zAL (oo (oo rfl (oo rfl (zAk rfl ln) m1) hr) (oo rfl (oo rfl (zAk rfl ln) m2) m3) rfl)))⟩
def dr(ns:List Int)(k m:Int):Int:=match zAX [scr ns,.int k,.int m]with
 | some (.int r)=>r
 | _=>0
theorem zB3(ns:List Int)(hn:ns.length<=63)(k m:Int)(hm:0<m):zAX [scr ns,.int k,.int m]=some (.int (dr ns k m))/\0<=dr ns k m/\dr ns k m<m:=by
 have key:∃ r,zAX [scr ns,.int k,.int m]=some (.int r)/\0<=r/\r<m:=by
  obtain⟨c,hc⟩:=zLx ns hn k
  obtain⟨u,hu⟩:∃ u,u=((c % 2147483563) * 69069+104723 * (k+1)) % 2147483563:=⟨_,rfl⟩
  have u0:0<=u:=by rw [hu];exact Int.emod_nonneg _ (by decide)
  have u1:u<2147483563:=by rw [hu];exact Y9 _ (by decide)
  obtain⟨v,hv⟩:∃ v,v=(u * u+u / 3) % 2147483399:=⟨_,rfl⟩
  have v0:0<=v:=by rw [hv];exact Int.emod_nonneg _ (by decide)
  have v1:v<2147483399:=by rw [hv];exact Y9 _ (by decide)
  have a1:dMod (.int ((c % 2147483563) * 69069+104723 * (k+1))) (.int 2147483563)=some (.int u):=by rw [hu];exact zDm (by decide)
  have a0:dMod (.int c) (.int 2147483563)=some (.int (c % 2147483563)):=zDm (by decide)
  have a2:zAt (.int (c % 2147483563)) (.int 69069)=some (.int (c % 2147483563 * 69069)):=zBi (okT (by decide) (by decide))
  have a3:zAt (.int 104723) (.int (k+1))=some (.int (104723 * (k+1))):=zBi (okS (by decide) (by decide))
  have a4:zAt (.int u) (.int u)=some (.int (u * u)):=zBi (okS (Int.lt_of_lt_of_le (by decide) u0) (Int.lt_trans u1 (by decide)))
  have a5:∀ i j:Int,0<j->j<1073741824->zCK (.int i) (.int j)=some (.int (i / j)):=fun i j h h2=>zIx (okD h h2)
  have a6:dMod (.int (u * u+u / 3)) (.int 2147483399)=some (.int v):=by rw [hv];exact zDm (by decide)
  have a7:zAt (.int v) (.int v)=some (.int (v * v)):=zBi (okS (Int.lt_of_lt_of_le (by decide) v0) (Int.lt_trans v1 (by decide)))
  refine⟨(v * v+v / 7) % 2147483647 / 11 % m,?_,Int.emod_nonneg _ (Int.ne_of_gt hm),Y9 _ hm⟩
  exact zAJ (zAo (zAM (oo (oo (oo (oo (zAk rfl hc) rfl a0) rfl a2) (oo rfl rfl a3) rfl) rfl a1)) (zAo (zAM (oo (oo (oo rfl rfl a4) (oo rfl rfl (a5 _ _ (by decide) (by decide))) rfl) rfl a6)) (zAL (oo (oo (oo (oo (oo rfl rfl a7) (oo rfl rfl (a5 _ _ (by decide) (by decide))) rfl) rfl (zDm (by decide))) rfl (a5 _ _ (by decide) (by decide))) rfl (zDm hm)))))
 obtain⟨r,h1,h2,h3⟩:=key
 have:dr ns k m=r:=by unfold dr;rw [h1]
 rw [this]
 exact⟨h1,h2,h3⟩
def zCg(w h:Nat)(W:C->Bool):D:=.tuple (((cells w h).filter W).map zAb)
def flD(w h:Nat)(W:C->Bool):D:=.tuple [.int w,.int h,zCg w h W]
theorem zMj(w h:Nat)(p:Nat->Nat->Bool):((List.range w).flatMap fun(x:Nat)=>((List.range h).filter (p x)).map fun(y:Nat)=>((x:Int),(y:Int)))=(cells w h).filter fun c=>p c.1.toNat c.2.toNat:=by
 unfold cells
 rw [List.filter_flatMap]
 congr 1
 funext x
 rw [List.filter_map]
 rfl
theorem zGq{i:Nat}{ga:Rho->Option D}{ρ:Rho}{ds es:List D}(h1:ρ[i]?=some (.own ds))(h2:ga ρ=some (.list es))(h3:ds.length+es.length<=1000):sExt i ga ρ=some (.nx (ρ.set i (.own (ds++es)))):=by
 unfold sExt
 rw [h1]
 show(ga ρ).bind _=_
 rw [h2]
 show(if ds.length+es.length<=1000 then _ else _)=_
 rw [if_pos h3]
theorem zGs{α:Type}(f:Nat->List α):∀(l:List Nat) (acc:List α),l.foldl (fun a x=>a++f x) acc=acc++l.flatMap f
 | [],acc=>by simp
 | x::l,acc=>by rw [YF,zGs f l,List.flatMap_cons,Yi]
theorem zGt{α:Type}(f:Nat->List α)(g:Nat->Sl):∀(l:List Nat) (acc:List α) (s:Sl),l.foldl (fun(b:List α × Sl) x=>(b.1++f x,g x)) (acc,s)=(l.foldl (fun a x=>a++f x) acc,l.foldl (fun _ x=>g x) s)
 | [],acc,s=>rfl
 | x::l,acc,s=>by rw [YF,YF,YF];exact zGt f g l _ _
def zHm(q:Int):Int:=if q=0 then 2 else if q=1 then 3 else if q=2 then 3 else if q=3 then 5 else 9
theorem zOI(q:Int)(h0:0<=q)(h1:q<5):dIx (.list [.int 2,.int 3,.int 3,.int 5,.int 9]) (.int q)=some (.int (zHm q))/\0<zHm q:=by
 obtain⟨n,rfl⟩:=Int.eq_ofNat_of_zero_le h0
 rcases n with _ | _ | _ | _ | _ | n
 ·exact⟨rfl,by decide⟩
 ·exact⟨rfl,by decide⟩
 ·exact⟨rfl,by decide⟩
 ·exact⟨rfl,by decide⟩
 ·exact⟨rfl,by decide⟩
 ·exact absurd h1 (by lia)
theorem zMn(ns:List Int)(hn:ns.length<=63)(at':Int)(m:Nat)(hm:0<m)(hm':m<=5):∃(w h:Nat) (W:C->Bool),zC3 [scr ns,.int at',.int m]=some (flD w h W)/\1<=w/\w<=m/\1<=h/\h<=m:=by
 have mp:(0:Int)<m:=Int.ofNat_lt.mpr hm
 obtain⟨e1,w0,w1⟩:=zB3 ns hn at' m mp
 obtain⟨e2,h0,h1⟩:=zB3 ns hn (at'+1) m mp
 obtain⟨e3,q0,q1⟩:=zB3 ns hn (at'+2) 5 (by decide)
 obtain⟨e4,r0⟩:=zOI _ q0 q1
 generalize dr ns at' m=dw at *
 generalize dr ns (at'+1) m=dh at *
 generalize zHm (dr ns (at'+2) 5)=rate at *
 have one:∀{x:Int},0<=x->x<m->∃ w:Nat,1+x=w/\1<=w/\w<=m:=fun{x} g1 g2=>⟨(1+x).toNat,by lia,by lia,by lia⟩
 obtain⟨w,hw,w2,w3⟩:=one w0 w1
 obtain⟨h,hh,h2,h3⟩:=one h0 h1
 clear one
 have w5:w<=5:=QI w3 hm'
 have h5:h<=5:=QI h3 hm'
 refine⟨w,h,fun c=>dr ns (at'+3+8 * (c.1.toNat:Int)+(c.2.toNat:Int)) rate == 0,?_,w2,w3,h2,h3⟩
 refine zAJ ?_
 unfold zGv
 rw [show zAH 8 [scr ns,.int at',.int m]=[.dat (scr ns),.dat (.int at'),.dat (.int m),.no,.no,.no,.no,.no]from rfl]
 refine zAo (zAM (d:=.int (w:Int)) (oo rfl (zAk rfl e1) (by rw [<- hw];rfl))) (zAo (zAM (d:=.int (h:Int)) (oo rfl (zAk rfl e2) (by rw [<- hh];rfl))) (zAo (zAM (oo rfl (zAk rfl e3) e4)) (zAo (ρ':=[.dat (scr ns),.dat (.int at'),.dat (.int m),.dat (.int w),.dat (.int h),.dat (.int rate),.own [],.no]) rfl ?_)))
 obtain⟨f,hf⟩:∃ f:Nat->List C,f=fun(x:Nat)=>((List.range h).filter fun(y:Nat)=>dr ns (at'+3+8 * (x:Int)+(y:Int)) rate == 0).map fun(y:Nat)=>((x:Int),(y:Int)):=⟨_,rfl⟩
 have fl:∀ x,(f x).length<=5:=fun x=>by
  rw [hf,Ql]
  refine QI (Q7 _ _) ?_
  rw [QP];exact h5
 refine zAo (zKh (n:=w) rfl (Yk w5 (by decide)) (zD9 (fun(k:Nat)=>.int (k:Int)) (fun(b:List C × Sl)=>[.dat (scr ns),.dat (.int at'),.dat (.int m),.dat (.int w),.dat (.int h),.dat (.int rate),.own (b.1.map zAb),b.2])
  (fun b x=>(b.1++f x,.dat (.int (x:Int)))) (fun i b=>b.1.length<=5 * i) 5 (List.range w) 0 ([],.no) (by rw [QP,Y7];exact w5) (Qi _) fun x hx i b hi hp=>?_)) ?_
 ·obtain⟨acc,s7⟩:=b
  have hp':acc.length<=5 * i:=hp
  have hfx:=fl x
  refine⟨⟨[.dat (scr ns),.dat (.int at'),.dat (.int m),.dat (.int w),.dat (.int h),.dat (.int rate),.own (acc.map zAb),.dat (.int (x:Int))],rfl,?_⟩,by show(acc++f x).length<=5 * (i+1);rw [Qv];lia⟩
  refine(zGq (ds:=acc.map zAb) (es:=(f x).map zAb) rfl ?_ (by rw [Ql,Ql];lia)).trans ?_
  ·have:=zJi (gi:=iRng1 (zAc (eV 4) eNil)) (s:=zAz 0) (t:=eB (eOp dEq (zAj zAX (zAc (eV 2) (zAc (eOp zAr (eOp zAr (eOp zAr (eV 4) (eC (.int 3))) (eOp zAt (eC (.int 8)) (eV 1))) (eV 0)) (zAc (eV 3) eNil)))) (eC (.int 0))))
    (ge:=eTup (zAc (eV 1) (zAc (eV 0) eNil))) (inner:=[none,some 7,some 0,some 5,some 1]) (xs:=List.range h) (ρ:=[.dat (scr ns),.dat (.int at'),.dat (.int m),.dat (.int w),.dat (.int h),.dat (.int rate),.own (acc.map zAb),.dat (.int (x:Int))])
    (fun(k:Nat)=>.int (k:Int)) (fun(y:Nat)=>dr ns (at'+3+8 * (x:Int)+(y:Int)) rate == 0) (fun(y:Nat)=>zAb ((x:Int),(y:Int)))
    (fun ρ=>∃ s0,ρ=[s0,.dat (.int (x:Int)),.dat (scr ns),.dat (.int rate),.dat (.int at')]) (zCP (n:=h) rfl (Yk h5 (by decide))) (by rw [QP];exact QI h5 (by decide)) ⟨.no,rfl⟩ (by
     rintro y hy ρ ⟨s0,rfl⟩
     have e:=(zB3 ns hn (at'+3+8 * (x:Int)+(y:Int)) rate r0).1
     have m8:zAt (.int 8) (.int (x:Int))=some (.int (8 * (x:Int))):=zBi (okS (by decide) (by decide))
     exact⟨[.dat (.int (y:Int)),.dat (.int (x:Int)),.dat (scr ns),.dat (.int rate),.dat (.int at')],rfl,⟨_,rfl⟩,oB (oo (zAk (zAG rfl (zAG (oo (oo rfl (oo rfl rfl m8) rfl) rfl rfl) rfl)) e) rfl rfl),fun _=>rfl⟩)
   refine this.trans ?_
   rw [hf,YB]
   rfl
  ·show some (Out.nx _)=some (Out.nx _)
   rw [Q0]
   rfl
 ·refine zAL ?_
  rw [zGt,zGs]
  have ff:(List.range w).flatMap f=(cells w h).filter fun c=>dr ns (at'+3+8 * (c.1.toNat:Int)+(c.2.toNat:Int)) rate == 0:=by
   rw [hf]
   exact zMj w h fun x y=>dr ns (at'+3+8 * (x:Int)+(y:Int)) rate == 0
  rw [List.nil_append,ff]
  rfl
end My
namespace My
open PySem PySem.SeqAt L2 DL SD SL EL DC
theorem zE9:∀ l:List C,PyData.canLayAll0 (l.map zAb)=true/\PyData.depthAll (l.map zAb)<=1
 | []=>⟨rfl,QN _⟩
 | c::l=>by
  obtain⟨h1,h2⟩:=zE9 l
  refine⟨by rw [Qq,PyData.canLayAll0,h1];rfl,?_⟩
  rw [Qq,PyData.depthAll]
  exact Nat.max_le.mpr ⟨Qi _,h2⟩
theorem zO6(l:List C):SeqAt.shaped (.tuple (l.map zAb))=true:=by
 obtain⟨h1,h2⟩:=zE9 l
 have:PyData.depth (.tuple (l.map zAb))<=64:=by show PyData.depthAll (l.map zAb)+1<=64;lia
 simp [SeqAt.shaped,PyData.canLay0,h1,this]
theorem zHz(c:C):SeqAt.shaped (zAb c)=true:=id rfl
theorem zIv(a b:C):PyData.eqv (zAb a) (zAb b)=(a == b):=by
 show((a.1 == b.1) && ((a.2 == b.2) && true))=_
 rw [Bool.and_true]
 obtain⟨x,y⟩:=a
 obtain⟨u,v⟩:=b
 rfl
theorem any_c(l:List C)(c:C):((l.map zAb).any fun y=>PyData.eqv y (zAb c))=l.contains c:=by
 induction l with
 | nil=>rfl
 | cons a l ih=>rw [Qq,Ji,ih,zIv,List.contains_cons,Bool.beq_comm]
theorem in_T(neg:Bool)(c:C)(l:List C):dIn neg (zAb c) (.tuple (l.map zAb))=some (.bool (if neg then !l.contains c else l.contains c)):=by
 show(if(SeqAt.shaped (zAb c) && SeqAt.shaped (.tuple (l.map zAb)))=true then _ else _)=_
 rw [zHz,zO6,Bool.and_self,if_pos rfl,any_c]
def sol(w h:Nat)(W:C->Bool)(c:C):Bool:=inR w h c && W c
theorem zGN(w h:Nat)(W:C->Bool)(c:C):((cells w h).filter W).contains c=sol w h W c:=by
 rw [Jm,Yy,QT,zCa]
 unfold sol
 rw [QQ]
theorem in_W(neg:Bool)(c:C)(w h:Nat)(W:C->Bool):dIn neg (zAb c) (zCg w h W)=some (.bool (if neg then !sol w h W c else sol w h W c)):=by
 unfold zCg
 rw [in_T,zGN]
theorem zKX(i:Int):zC6 [.int i]=some (.bool true):=zAJ (zAL rfl)
theorem zLB(c:C):zDS [zAb c]=some (.bool true):=zAJ (zAo (zBy rfl) (zAL (oAV (zAk rfl (zKX c.1)) (zAk rfl (zKX c.2)))))
theorem zLw(w h:Nat)(W:C->Bool)(c:C):zDR [flD w h W,zAb c]=some (.bool (inR w h c)):=by
 refine zAJ (zAo (zBy (oN (oB (zAk rfl (zLB c))))) (zAL ?_))
 show((if decide (0<=c.1)=true then some (PyData.bool (decide (c.1<w)))else some (.bool false)).bind fun x=>(asB x).bind fun k=>if k=true then(if decide (0<=c.2)=true then some (PyData.bool (decide (c.2<h)))else some (.bool false))else some (.bool false))=_
 unfold inR
 cases decide (0<=c.1) <;> cases decide (c.1<w) <;> cases decide (0<=c.2) <;> cases decide (c.2<h) <;> rfl
theorem zHn{w h:Nat}{W:C->Bool}{c:C}(hc:inR w h c=true):zBZ [flD w h W,zAb c]=some .none:=by
 have q:=zLw w h W c
 rw [hc]at q
 exact fn_nx (zBy (oN (oB (zAk rfl q))))
theorem zKz{w h:Nat}{W:C->Bool}{c:C}(hc:inR w h c=true):zCF [flD w h W,zAb c]=some (.bool (W c)):=by
 have q:=in_W false c w h W
 unfold sol at q
 rw [hc,Bool.true_and]at q
 exact zAJ (zAo (zHr (zAk rfl (zHn hc))) (zAL (oo rfl rfl q)))
end My
namespace My
open PySem PySem.SeqAt L2 DL SD SL EL DC
theorem zK9{w h:Nat}{W:C->Bool}(hw:w<=5)(hh':h<=5):zDN [flD w h W]=some (.list ((cells w h).map zAb)):=by
 obtain⟨f,hf⟩:∃ f:Nat->List C,f=fun(x:Nat)=>(List.range h).map fun(y:Nat)=>((x:Int),(y:Int)):=⟨_,rfl⟩
 refine zAJ ?_
 unfold zGz
 rw [show zAH 3 [flD w h W]=[.dat (flD w h W),.no,.no]from rfl]
 refine zAo (ρ':=[.dat (flD w h W),.own [],.no]) rfl ?_
 refine zAo (zKh (n:=w) rfl (Yk hw (by decide)) (zD9 (fun(k:Nat)=>.int (k:Int)) (fun(b:List C × Sl)=>[.dat (flD w h W),.own (b.1.map zAb),b.2])
  (fun b x=>(b.1++f x,.dat (.int (x:Int)))) (fun i b=>b.1.length<=5 * i) 5 (List.range w) 0 ([],.no) (by rw [QP,Y7];exact hw) (Qi _) fun x hx i b hi hp=>?_)) ?_
 ·obtain⟨acc,s7⟩:=b
  have hp':acc.length<=5 * i:=hp
  have hfx:(f x).length<=5:=by rw [hf,Ql,QP];exact hh'
  refine⟨⟨[.dat (flD w h W),.own (acc.map zAb),.dat (.int (x:Int))],rfl,?_⟩,by show(acc++f x).length<=5 * (i+1);rw [Qv];exact Nat.add_le_add hp' hfx⟩
  refine(zGq (ds:=acc.map zAb) (es:=(f x).map zAb) rfl (zBS (xs:=List.range h) (fun(k:Nat)=>.int (k:Int)) (fun _=>true) (fun(y:Nat)=>zAb ((x:Int),(y:Int))) (fun ρ=>∃ s0,ρ=[s0,.dat (.int (x:Int))]) (zCP (n:=h) rfl (Yk hh' (by decide))) (by rw [QP];exact QI hh' (by decide)) ⟨.no,rfl⟩ ?_ ?_) (by rw [Ql,Ql];lia)).trans ?_
  ·rintro y hy ρ ⟨s0,rfl⟩
   exact⟨[.dat (.int (y:Int)),.dat (.int (x:Int))],rfl,⟨_,rfl⟩,rfl,fun _=>rfl⟩
  ·rw [zD8,hf,YB]
   rfl
  ·show some (Out.nx _)=some (Out.nx _)
   rw [Q0]
   rfl
 ·refine zAL ?_
  rw [zGt,zGs,List.nil_append,hf]
  rfl
theorem zFF:∀ l:List C,zDw (l.map zAb)=some (l.map row)
 | []=>rfl
 | c::l=>by
  show(zAK [.int c.1,.int c.2]).bind (fun is=>(zDw (l.map zAb)).bind fun rs=>some (is::rs))=_
  rw [zFF l]
  rfl
theorem zDv{a b:C}(q:row a=row b):a=b:=by
 unfold row at q
 injection q with q1 q2
 injection q2 with q2 _
 exact Prod.ext q1 q2
theorem zNF{l:List C}(h:l.Nodup):(l.map row).Nodup:=by
 rw [List.Nodup,QW]
 exact h.imp fun{a b} q r=>q (zDv r)
theorem zI0(l:List C)(c:C):(l.map row).contains (row c)=l.contains c:=by
 rw [Jm,Yy,Yy,QK]
 constructor
 ·rintro⟨d,hd,e⟩;rw [<- zDv e];exact hd
 ·intro h;exact⟨c,h,rfl⟩
theorem zN5{w h:Nat}{W:C->Bool}(hw:w<=5)(hh':h<=5):zDW [flD w h W]=some (.list (((cells w h).filter fun c => !W c).map zAb)):=by
 have hwh:(cells w h).length<=25:=by rw [zER];exact Nat.mul_le_mul hw hh'
 have lf:=Q7 W (cells w h)
 have lg:=Q7 (fun c => !W c) (cells w h)
 have s1:setD [.list ((cells w h).map zAb)]=some ((cells w h).map row):=by
  show(if _ then _ else _)=_
  rw [if_pos (by rw [Ql];lia),zFF]
 have s2:setD [zCg w h W]=some (((cells w h).filter W).map row):=by
  show(if _ then _ else _)=_
  rw [if_pos (by rw [Ql];lia),zFF]
 have fe:((cells w h).map row).filter (fun k => !(((cells w h).filter W).map row).contains k)=((cells w h).filter fun c => !W c).map row:=by
  rw [List.filter_map]
  congr 1
  refine List.filter_congr fun c hc=>?_
  show(!(((cells w h).filter W).map row).contains (row c))=_
  rw [zI0,zGN]
  unfold sol
  rw [zCa.mp hc,Bool.true_and]
 have up:=zCs (zCr w h) fun c => !W c
 refine zAJ (zAL ?_)
 unfold zCN zGn eSet
 rw [zAG (zAk rfl (zK9 (W:=W) hw hh')) rfl,Qf,s1,Qf,show zAc (eOp dIx (eV 0) (eC (.int 2))) eNil (List.map frz (zAH 1 [flD w h W]))=some [zCg w h W]from rfl,Qf,s2,Qf]
 rw [if_pos (by rw [Ql];lia),Qf,fe,zIh _ (zNF (zEE up)),zFH]
 exact zFS (zEE up) (by lia) up fun c=>Iff.rfl
def mkD(l:List C):D:=.dict (l.map fun c=>(zAb c,.bool true))
theorem zIk(c:C):decT (zAb c)=some (row c):=id rfl
theorem zIZ(l:List C)(c:C):hasD (l.map fun c=>(zAb c,PyData.bool true)) (row c)=l.contains c:=by
 unfold hasD
 rw [List.any_map]
 induction l with
 | nil=>rfl
 | cons a l ih=>
  rw [Ji,ih,List.contains_cons]
  congr 1
  show(decT (zAb a) == some (row c))=_
  rw [zIk,Jm,beq_iff_eq,beq_iff_eq]
  constructor
  ·intro q;exact(zDv (Qy q)).symm
  ·intro q;rw [q]
theorem zMk(l:List C):zB5 (l.map fun c=>(zAb c,PyData.bool true))=true:=by
 unfold zB5
 rw [List.all_map,Ye]
 intro c _
 rfl
theorem in_mk(neg:Bool)(c:C)(l:List C):dIn2 neg (zAb c) (mkD l)=some (.bool (if neg then !l.contains c else l.contains c)):=by
 show(decT (zAb c)).bind (fun k=>if zB5 (l.map fun c=>(zAb c,PyData.bool true))=true then some (PyData.bool (if neg then !hasD (l.map fun c=>(zAb c,PyData.bool true)) k else hasD (l.map fun c=>(zAb c,PyData.bool true)) k))else none)=_
 rw [zIk,Qf,zMk,if_pos rfl,zIZ]
theorem zJR:∀ l:List C,zDt (l.map fun c=>PyData.tuple [zAb c,.bool true])=some (l.map fun c=>(row c,.bool true))
 | []=>rfl
 | c::l=>by
  show(zFz (.tuple [zAb c,.bool true])).bind (fun p=>(zDt (l.map fun c=>PyData.tuple [zAb c,.bool true])).bind fun ps=>some (p::ps))=_
  rw [zJR l]
  rfl
theorem zOC(l:List C)(c:C)(h:c∉l):putD (l.map fun c=>(zAb c,PyData.bool true)) (row c) (.bool true)=(l++[c]).map fun c=>(zAb c,PyData.bool true):=by
 unfold putD
 rw [zIZ,if_neg (by rw [Yy];exact h),Q0]
 rfl
theorem zIl:∀(l acc:List C),(acc++l).Nodup->(l.map fun c=>(row c,PyData.bool true)).foldl (fun kvs p=>putD kvs p.1 p.2) (acc.map fun c=>(zAb c,PyData.bool true))=(acc++l).map fun c=>(zAb c,PyData.bool true)
 | [],acc,_=>by rw [Q8];rfl
 | c::l,acc,h=>by
  have hc:c∉acc:=by
   rw [List.nodup_append]at h
   exact fun q=>h.2.2 c q c Qj rfl
  rw [Qq,YF]
  show(l.map _).foldl _ (putD _ (row c) (.bool true))=_
  rw [zOC acc c hc,zIl l (acc++[c]) (by rw [Yi];exact h),Yi]
  rfl
theorem zNc{l:List C}{d:D}(hd:seqD d=some (l.map zAb))(hl:l.length<=1000)(hn:l.Nodup):zBY [d]=some (mkD l):=by
 refine zAJ (zAL (zAk (ds:=[.list (l.map fun c=>PyData.tuple [zAb c,.bool true])]) ?_ ?_))
 ·have lc:=zBS (gi:=iSeq (eV 0)) (s:=zAz 0) (t:=eT) (ge:=eTup (zAc (eV 0) (zAc (eC (.bool true)) eNil))) (inner:=[none]) (ρ:=(zAH 1 [d]).map frz) (xs:=l) zAb (fun _=>true) (fun c=>PyData.tuple [zAb c,.bool true]) (fun ρ=>∃ s0,ρ=[s0]) (zB8 rfl hd) hl ⟨_,rfl⟩ (by
   rintro c _ ρ ⟨s0,rfl⟩
   exact⟨[.dat (zAb c)],rfl,⟨_,rfl⟩,rfl,fun _=>rfl⟩) (by rw [zD8])
  exact zAG lc rfl
 ·show(if _ then _ else _)=_
  rw [if_pos (by rw [Ql];exact hl),zJR,Qf]
  have:=zIl l [] (by simpa using hn)
  rw [List.nil_append]at this
  unfold zD3 mkD
  rw [<- this]
  rfl
theorem zJs{w h:Nat}{W:C->Bool}(hw:w<=5)(hh':h<=5):zBY [zCg w h W]=some (mkD ((cells w h).filter W)):=by
 have hwh:(cells w h).length<=25:=by rw [zER];exact Nat.mul_le_mul hw hh'
 have lf:=Q7 W (cells w h)
 exact zNc rfl (by lia) (zEE (zCs (zCr w h) W))
def solD(w h:Nat)(W:C->Bool):D:=mkD ((cells w h).filter W)
theorem zI4(neg:Bool)(c:C)(w h:Nat)(W:C->Bool):dIn2 neg (zAb c) (solD w h W)=some (.bool (if neg then !sol w h W c else sol w h W c)):=by
 unfold solD
 rw [in_mk,zGN]
end My
namespace My
open PySem PySem.SeqAt L2 DL SD SL EL DC
structure WS where
 gx:Int
 gy:Int
 cs:List C
 s9:Sl
 s10:Sl
def envC(a b:C)(fx fy wx wy:Int)(s:WS):Rho:=[.dat (zAb a),.dat (zAb b),.dat (.int fx),.dat (.int fy),.dat (.int wx),.dat (.int wy),.dat (.int s.gx),.dat (.int s.gy),.own (s.cs.map zAb),s.s9,s.s10]
def zES(fx fy:Int)(s:WS):Bool:=decide (s.gx<fx) || decide (s.gy<fy)
def nxX(fx fy:Int)(s:WS):Int:=if(2 * s.gx+1) * fy<=(2 * s.gy+1) * fx then s.gx+1 else s.gx
def nxY(fx fy:Int)(s:WS):Int:=if(2 * s.gy+1) * fx<=(2 * s.gx+1) * fy then s.gy+1 else s.gy
def zFU(a:C)(fx fy wx wy:Int)(s:WS):WS:=⟨nxX fx fy s,nxY fx fy s,s.cs++[(a.1+wx * nxX fx fy s,a.2+wy * nxY fx fy s)],.dat (.int ((2 * s.gx+1) * fy)),.dat (.int ((2 * s.gy+1) * fx))⟩
theorem zJd(a:C)(fx fy wx wy:Int):∀(n:Nat) (s:WS) (st:List C),zFX fx fy n s.gx s.gy=some st->∃ s',zEe (zES fx fy) (zFU a fx fy wx wy) n s=some s'/\s'.cs=s.cs++st.map fun g=>(a.1+wx * g.1,a.2+wy * g.2)
 | 0,_,_,h=>by cases h
 | n+1,s,st,h=>by
  unfold zFX at h
  unfold zEe
  by_cases c:s.gx<fx ∨ s.gy<fy
  ·rw [if_pos c]at h
   obtain⟨r,e,h⟩:=bnd h
   cases h
   rw [if_pos (by unfold zES;rw [Jl,decide_eq_true_eq,decide_eq_true_eq];exact c)]
   obtain⟨s',e1,e2⟩:=zJd a fx fy wx wy n (zFU a fx fy wx wy s) r e
   refine⟨s',e1,?_⟩
   rw [e2]
   show(s.cs++[_])++_=_
   rw [Yi]
   rfl
  ·rw [if_neg c]at h
   cases h
   rw [if_neg (by unfold zES;rw [Jl,decide_eq_true_eq,decide_eq_true_eq];exact c)]
   exact⟨s,rfl,by simp⟩
theorem zLE{a b:C}(n:Near a b):zDP [zAb a,zAb b]=some (.list ((line a b).map zAb)):=by
 have O:=n.ok
 obtain⟨st,e,h⟩:=bnd O.some
 have sg:∀ x,-100<sgn x/\sgn x<100:=fun x=>by unfold sgn;split <;> decide
 have sa:=sg (b.1-a.1)
 have sb:=sg (b.2-a.2)
 clear sg
 obtain⟨n1,n2,n3,n4⟩:=n
 have ab:∀ x,-4<=x->x<=4->0<=iabs x/\iabs x<100:=fun x h h2=>by unfold iabs;split <;> lia
 have ia:=ab _ n1 n2
 have ib:=ab _ n3 n4
 clear ab
 have hlen:st.length<=8:=by
  have:=O.len
  rw [<- Qy h,Qw,Ql]at this
  lia
 have ii:∀ x y:Int,(if decide (x<y)=true then some (PyData.int 1)else some (.int (-1)))=some (.int (sgn (y-x))):=fun x y=>by
  unfold sgn
  by_cases c:x<y
  ·rw [if_pos (decide_eq_true c),if_pos (by lia)]
  ·rw [if_neg (by simpa using c),if_neg (by lia)]
 have i1:=ii a.1 b.1
 have i2:=ii a.2 b.2
 clear ii
 obtain⟨s',it,cs'⟩:=zJd a (iabs (b.1-a.1)) (iabs (b.2-a.2)) (sgn (b.1-a.1)) (sgn (b.2-a.2)) 900 ⟨0,0,[a],.no,.no⟩ st e
 have hline:line a b=s'.cs:=by
  rw [cs']
  unfold line
  rw [<- Qy h,Qq,YB]
  show _::_=_::_
  congr 1
  exact Prod.ext (by show a.1+0=a.1;lia) (by show a.2+0=a.2;lia)
 rw [hline]
 refine zAJ ?_
 unfold zGC
 refine zAo (zAM (d:=.int (iabs (b.1-a.1))) rfl) (zAo (zAM (d:=.int (iabs (b.2-a.2))) rfl) (zAo (zAM i1) (zAo (zAM i2) (zAo (zAM rfl) (zAo (zAM rfl) (zAo (ρ':=envC a b (iabs (b.1-a.1)) (iabs (b.2-a.2)) (sgn (b.1-a.1)) (sgn (b.2-a.2)) ⟨0,0,[a],.no,.no⟩) rfl ?_))))))
 generalize iabs (b.1-a.1)=fx at *
 generalize iabs (b.2-a.2)=fy at *
 generalize sgn (b.1-a.1)=wx at *
 generalize sgn (b.2-a.2)=wy at *
 clear i1 i2
 have mS:∀ k,-100<k/\k<100->∀ i:Int,zAt (.int k) (.int i)=some (.int (k * i)):=fun k h i=>zBi (okS (by lia) (by lia))
 have mT:∀ k,0<=k/\k<100->∀ i:Int,zAt (.int i) (.int k)=some (.int (i * k)):=fun k h i=>zBi (okT (by lia) (by lia))
 refine zAo (zKW (envC a b fx fy wx wy) (zES fx fy) (zFU a fx fy wx wy) (fun n s=>s.cs.length+n<=901) (fun n s hp=>?_) (fun n s hp hc=>⟨?_,?_⟩) 900 ⟨0,0,[a],.no,.no⟩ s' (by show 1+900<=901;decide) it) (zAL rfl)
 ·show(if decide (s.gx<fx)=true then some true else some (decide (s.gy<fy)))=some (decide (s.gx<fx) || decide (s.gy<fy))
  cases decide (s.gx<fx) <;> rfl
 ·have hl:(s.cs.map zAb).length<1000:=by rw [Ql];lia
  refine zAo (zAM (oo (oo (oo rfl rfl (mS 2 (by decide) s.gx)) rfl rfl) rfl (mT fy ib _))) (zAo (zAM (oo (oo (oo rfl rfl (mS 2 (by decide) s.gy)) rfl rfl) rfl (mT fx ia _))) ?_)
  refine zAo (ρ':=[.dat (zAb a),.dat (zAb b),.dat (.int fx),.dat (.int fy),.dat (.int wx),.dat (.int wy),.dat (.int (nxX fx fy s)),.dat (.int s.gy),.own (s.cs.map zAb),.dat (.int ((2 * s.gx+1) * fy)),.dat (.int ((2 * s.gy+1) * fx))]) ?_ ?_
  ·unfold nxX
   by_cases c:(2 * s.gx+1) * fy<=(2 * s.gy+1) * fx
   ·rw [if_pos c]
    exact zCp (b:=true) (congrArg some (decide_eq_true c)) (fun _=>rfl) fun z=>by cases z
   ·rw [if_neg c]
    exact zBy (congrArg some (decide_eq_false c))
  refine zAo (ρ':=[.dat (zAb a),.dat (zAb b),.dat (.int fx),.dat (.int fy),.dat (.int wx),.dat (.int wy),.dat (.int (nxX fx fy s)),.dat (.int (nxY fx fy s)),.own (s.cs.map zAb),.dat (.int ((2 * s.gx+1) * fy)),.dat (.int ((2 * s.gy+1) * fx))]) ?_ ?_
  ·unfold nxY
   by_cases c:(2 * s.gy+1) * fx<=(2 * s.gx+1) * fy
   ·rw [if_pos c]
    exact zCp (b:=true) (congrArg some (decide_eq_true c)) (fun _=>rfl) fun z=>by cases z
   ·rw [if_neg c]
    exact zBy (congrArg some (decide_eq_false c))
  refine(zKg (ds:=s.cs.map zAb) (d:=zAb (a.1+wx * nxX fx fy s,a.2+wy * nxY fx fy s)) rfl ?_ hl).trans ?_
  ·unfold eTup
   rw [zAG (oo rfl (oo rfl rfl (mS wx sa _)) rfl) (zAG (oo rfl (oo rfl rfl (mS wy sb _)) rfl) rfl)]
   rfl
  ·unfold envC zFU
   rw [Q0]
   rfl
 ·show(s.cs++[_]).length+n<=901
  rw [Qv,Yg]
  lia
end My
namespace My
open PySem PySem.SeqAt L2 DL SD SL EL DC
abbrev Cp:=C × C
def cpD(p:Cp):D:=.tuple [zAb p.1,zAb p.2]
def two(p q:C):Cp:=if ltC q p=true then(q,p)else(p,q)
def pinC(p:Cp):Cp:=two (p.1.1,p.2.2) (p.2.1,p.1.2)
def prs(l:List C):List Cp:=((l.zip l.tail).filter fun p=>diag p.1 p.2).map pinC
theorem zPJ(S:C->Bool)(p q:C):(S (two p q).1 && S (two p q).2)=(S p && S q):=by
 unfold two
 split
 ·exact Bool.and_comm _ _
 ·rfl
theorem zJ4(S:C->Bool):∀ l:List C,(prs l).all (fun p => !(S p.1 && S p.2))=zEu S l
 | []=>rfl
 | [a]=>rfl
 | a::b::l=>by
  have ih:=zJ4 S (b::l)
  unfold prs at ih ⊢
  rw [zOq]
  show((((a,b)::(b::l).zip (b::l).tail).filter fun p=>diag p.1 p.2).map pinC).all _=_
  rw [List.filter_cons]
  dsimp only
  cases diag a b with
  | true=>
   rw [if_pos rfl,Qq,List.all_cons,ih]
   congr 1
   show(!(S (two (a.1,b.2) (b.1,a.2)).1 && S (two (a.1,b.2) (b.1,a.2)).2))=_
   rw [zPJ]
   rfl
  | false=>rw [if_neg Qr,ih];rfl
theorem zPk(p q:C):zBC [.list [zAb p,zAb q]]=some (.list [zAb (two p q).1,zAb (two p q).2]):=by
 have:=zEC (l:=[row p,row q]) (by intro k hk;rcases Qh.mp hk with rfl | hk;rfl;rcases Qh.mp hk with rfl | hk;rfl;cases hk) (by show 2<=63;decide)
 refine this.trans ?_
 show some (PyData.list ((if HT.lexLt (row q) (row p)=true then [row q,row p]else [row p,row q]).map tupI))=_
 unfold two ltC
 split <;> rfl
theorem zK7:∀ l m:List C,List.zipWith (fun x y=>PyData.tuple [x,y]) (l.map zAb) (m.map zAb)=(l.zip m).map cpD
 | [],_=>rfl
 | _::_,[]=>rfl
 | a::l,b::m=>by rw [Qq,Qq,List.zipWith_cons_cons,zK7 l m];rfl
theorem zLI(l:List C):cutD (l.map zAb) (some 1) none=l.tail.map zAb:=by
 cases l with
 | nil=>rfl
 | cons a l=>
  unfold DL.cutD
  have e1:HT.sIx ((a::l).map zAb).length 0 (some 1)=1:=by
   have:=HT.sIx_nat ((a::l).map zAb).length 0 1
   rw [show((1:Nat):Int)=1 from rfl]at this
   rw [this,Ql,Qw]
   lia
  rw [e1,HT.sIx_none]
  simp
  exact Jb (by simp)
theorem zLG(l:List C):cutD (l.map zAb) none (some (-1))=l.dropLast.map zAb:=by
 unfold DL.cutD
 rw [HT.sIx_none]
 have e1:HT.sIx (l.map zAb).length (l.map zAb).length (some (-1))=l.length-1:=by
  unfold HT.sIx
  simp
  lia
 rw [e1,List.drop_zero,Nat.sub_zero,List.dropLast_eq_take,List.map_take]
theorem zLh(l:List C)(hl:l.length<=500):zC4 [.list (l.map zAb)]=some (.list ((prs l).map cpD)):=by
 have hz:(l.zip l.tail).length<=500:=by rw [List.length_zip];lia
 refine zAJ ?_
 unfold zGB
 rw [show zAH 4 [.list (l.map zAb)]=[.dat (.list (l.map zAb)),.no,.no,.no]from rfl]
 refine zAo (ρ':=[.dat (.list (l.map zAb)),.own [],.no,.no]) rfl ?_
 have it:iZip (zAc (eV 0) (zAc (eSl2 (eV 0) (oE (eC (.int 1))) oNo) eNil)) [.dat (.list (l.map zAb)),.own [],.no,.no]=some ((l.zip l.tail).map cpD):=by
  show some (List.zipWith (fun x y=>PyData.tuple [x,y]) (l.map zAb) (cutD (l.map zAb) (some 1) none))=_
  rw [zLI,zK7]
 refine zAo (zDx it (zD9 cpD (fun(b:List Cp × Sl × Sl)=>[.dat (.list (l.map zAb)),.own (b.1.map cpD),b.2.1,b.2.2]) (fun b p=>(if diag p.1 p.2=true then b.1++[pinC p]else b.1,.dat (zAb p.1),.dat (zAb p.2))) (fun i b=>b.1.length<=i) 500 (l.zip l.tail) 0 ([],.no,.no) (by lia) (Qi _) fun p _ i b hi hp=>?_)) ?_
 ·obtain⟨acc,s2,s3⟩:=b
  have hp':acc.length<=i:=hp
  have hlt:(acc.map cpD).length<1000:=by rw [Ql];lia
  refine⟨⟨[.dat (.list (l.map zAb)),.own (acc.map cpD),.dat (zAb p.1),.dat (zAb p.2)],rfl,?_⟩,?_⟩
  ·have t:eAnd (eB (eOp dNe (eOp dIx (eV 2) (eC (.int 0))) (eOp dIx (eV 3) (eC (.int 0))))) (eB (eOp dNe (eOp dIx (eV 2) (eC (.int 1))) (eOp dIx (eV 3) (eC (.int 1))))) [.dat (.list (l.map zAb)),.dat (.list (acc.map cpD)),.dat (zAb p.1),.dat (zAb p.2)]=some (diag p.1 p.2):=by
    show(if(!(p.1.1 == p.2.1))=true then some (!(p.1.2 == p.2.2))else some false)=some (!(p.1.1 == p.2.1) && !(p.1.2 == p.2.2))
    cases p.1.1 == p.2.1 <;> rfl
   dsimp only
   cases q:diag p.1 p.2 with
   | true=>
    rw [q]at t
    refine(zCp (b:=true) t (fun _=>zKg (ds:=acc.map cpD) (d:=cpD (pinC p)) rfl (zAk (zAG (zAk rfl (zPk (p.1.1,p.2.2) (p.2.1,p.1.2))) rfl) rfl) hlt) fun z=>by cases z).trans ?_
    rw [if_pos rfl,Q0]
    rfl
   | false=>
    rw [q]at t
    exact zBy t
  ·show(if diag p.1 p.2=true then acc++[pinC p]else acc).length<=i+1
   split
   ·rw [Qv,Yg];lia
   ·lia
 ·have fold:∀(zs:List Cp) (b:List Cp × Sl × Sl),(zs.foldl (fun(b:List Cp × Sl × Sl) p=>(if diag p.1 p.2=true then b.1++[pinC p]else b.1,Sl.dat (zAb p.1),Sl.dat (zAb p.2))) b).1=b.1++(zs.filter fun p=>diag p.1 p.2).map pinC:=by
   intro zs
   induction zs with
   | nil=>intro b;simp
   | cons z zs ih=>
    intro b
    rw [YF,ih,List.filter_cons]
    dsimp only
    cases diag z.1 z.2 with
    | true=>rw [if_pos rfl,if_pos rfl,Qq,Yi];rfl
    | false=>rw [if_neg Qr,if_neg Qr]
  refine zAL ?_
  show some (PyData.list (((l.zip l.tail).foldl (fun(b:List Cp × Sl × Sl) p=>(if diag p.1 p.2=true then b.1++[pinC p]else b.1,Sl.dat (zAb p.1),Sl.dat (zAb p.2))) ([],.no,.no)).1.map cpD))=_
  rw [fold]
  rfl
theorem zO2{w h:Nat}{W:C->Bool}{a b:C}(n:Near a b):zDT [solD w h W,zAb a,zAb b]=some (.bool (clear (sol w h W) a b)):=by
 have ll:(line a b).length<=9:=by unfold line;rw [Ql];exact n.ok.len
 have ld:(line a b).dropLast.length<=9:=by rw [List.length_dropLast];lia
 refine zAJ ?_
 unfold zGE
 rw [show zAH 7 [solD w h W,zAb a,zAb b]=[.dat (solD w h W),.dat (zAb a),.dat (zAb b),.no,.no,.no,.no]from rfl]
 refine zAo (zAM (zAk rfl (zLE n))) ?_
 have is:∀ c,dIn2 false (zAb c) (solD w h W)=some (.bool (sol w h W c)):=fun c=>zI4 false c w h W
 have l1:=zGu (s:=zAz 4) (g:=sIf (eB (eOp (dIn2 false) (eV 4) (eV 0))) (sRet (eC (.bool false))) zBj) zAb (fun ρ=>∃ s4,ρ=[.dat (solD w h W),.dat (zAb a),.dat (zAb b),.dat (.list ((line a b).map zAb)),s4,.no,.no]) (sol w h W) (.bool false) (line a b).dropLast [.dat (solD w h W),.dat (zAb a),.dat (zAb b),.dat (.list ((line a b).map zAb)),.no,.no,.no] ⟨_,rfl⟩ (by
  rintro c _ ρ ⟨s4,rfl⟩
  refine⟨[.dat (solD w h W),.dat (zAb a),.dat (zAb b),.dat (.list ((line a b).map zAb)),.dat (zAb c),.no,.no],rfl,?_⟩
  cases q:sol w h W c with
  | true=>rw [if_pos rfl];exact zCp (b:=true) (oB (oo rfl rfl (by rw [is,q]))) (fun _=>rfl) fun z=>by cases z
  | false=>rw [if_neg Qr];exact⟨_,zBy (oB (oo rfl rfl (by rw [is,q]))),⟨_,rfl⟩⟩)
 have i1:iSeq (eSl2 (eV 3) oNo (oE (eUn dNeg (eC (.int 1))))) [.dat (solD w h W),.dat (zAb a),.dat (zAb b),.dat (.list ((line a b).map zAb)),.no,.no,.no]=some ((line a b).dropLast.map zAb):=by
  show some (cutD ((line a b).map zAb) none (some (-1)))=_
  rw [zLG]
 unfold clear
 by_cases c1:(line a b).dropLast.any (sol w h W)=true
 ·rw [if_pos c1]at l1
  refine(zEx (zDx i1 l1)).trans ?_
  have:(line a b).dropLast.all (fun c => !sol w h W c)=false:=by
   rw [Y4]
   simp only [Bool.not_not]
   rw [c1];rfl
  rw [this]
  rfl
 ·rw [if_neg c1]at l1
  obtain⟨ρ',e1,s4,rfl⟩:=l1
  refine zAo (zDx i1 e1) ?_
  have a1:(line a b).dropLast.all (fun c => !sol w h W c)=true:=by
   rw [Y4]
   simp only [Bool.not_not]
   rw [Bool.not_eq_true]at c1
   rw [c1];rfl
  rw [a1,Bool.true_and,<- zJ4]
  have l2:=zGu (s:=uTup 2 (zBk (zAz 5) (zBk (zAz 6) uNil))) (g:=sIf (eAnd (eB (eOp (dIn2 false) (eV 5) (eV 0))) (eB (eOp (dIn2 false) (eV 6) (eV 0)))) (sRet (eC (.bool false))) zBj) cpD (fun ρ=>∃ s5 s6,ρ=[.dat (solD w h W),.dat (zAb a),.dat (zAb b),.dat (.list ((line a b).map zAb)),s4,s5,s6]) (fun p=>sol w h W p.1 && sol w h W p.2) (.bool false) (prs (line a b)) [.dat (solD w h W),.dat (zAb a),.dat (zAb b),.dat (.list ((line a b).map zAb)),s4,.no,.no] ⟨_,_,rfl⟩ (by
   rintro p _ ρ ⟨s5,s6,rfl⟩
   refine⟨[.dat (solD w h W),.dat (zAb a),.dat (zAb b),.dat (.list ((line a b).map zAb)),s4,.dat (zAb p.1),.dat (zAb p.2)],rfl,?_⟩
   cases q1:sol w h W p.1 <;> cases q2:sol w h W p.2
   ·exact⟨_,zBy (oA0 (oB (oo rfl rfl (by rw [is,q1])))),⟨_,_,rfl⟩⟩
   ·exact⟨_,zBy (oA0 (oB (oo rfl rfl (by rw [is,q1])))),⟨_,_,rfl⟩⟩
   ·exact⟨_,zBy (oA1 (oB (oo rfl rfl (by rw [is,q1]))) (oB (oo rfl rfl (by rw [is,q2])))),⟨_,_,rfl⟩⟩
   ·show sIf _ _ _ _=_
    exact zCp (b:=true) (oA1 (oB (oo rfl rfl (by rw [is,q1]))) (oB (oo rfl rfl (by rw [is,q2])))) (fun _=>rfl) fun z=>by cases z)
  have i2:iSeq (zAj zC4 (zAc (eV 3) eNil)) [.dat (solD w h W),.dat (zAb a),.dat (zAb b),.dat (.list ((line a b).map zAb)),s4,.no,.no]=some ((prs (line a b)).map cpD):=
   zB8 (zAk rfl (zLh _ (by lia))) rfl
  by_cases c2:(prs (line a b)).any (fun p=>sol w h W p.1 && sol w h W p.2)=true
  ·rw [if_pos c2]at l2
   refine(zEx (zDx i2 l2)).trans ?_
   have:(prs (line a b)).all (fun p => !(sol w h W p.1 && sol w h W p.2))=false:=by
    rw [Y4]
    simp only [Bool.not_not]
    rw [c2];rfl
   rw [this]
  ·rw [if_neg c2]at l2
   obtain⟨ρ',e2,s5,s6,rfl⟩:=l2
   refine zAo (zDx i2 e2) ?_
   have:(prs (line a b)).all (fun p => !(sol w h W p.1 && sol w h W p.2))=true:=by
    rw [Y4]
    simp only [Bool.not_not]
    rw [Bool.not_eq_true]at c2
    rw [c2];rfl
   rw [this]
   exact zAL rfl
theorem zJC{w h:Nat}(hw:w<=5)(hh:h<=5){a b:C}(ha:inR w h a=true)(hb:inR w h b=true):Near a b:=by
 obtain⟨a1,a2,a3,a4⟩:=zCl.mp ha
 obtain⟨b1,b2,b3,b4⟩:=zCl.mp hb
 have d:∀{n:Nat}{x y:Int},n<=5->0<=x->x<n->0<=y->y<n->-4<=y-x/\y-x<=4:=fun h1 h2 h3 h4 h5=>by lia
 have p:=d hw a1 a2 b1 b2
 have q:=d hh a3 a4 b3 b4
 exact⟨p.1,p.2,q.1,q.2⟩
section
variable {w h:Nat}{W:C->Bool}(hw:w<=5)(hh:h<=5)
include hw hh
theorem zIr{a b:C}(ha:inR w h a=true)(hb:inR w h b=true):zC7 [solD w h W,zAb a,zAb b]=some (.bool (seeB (sol w h W) a b)):=by
 have e:=zO2 (w:=w) (h:=h) (W:=W) (zJC hw hh ha hb)
 have i:=zI4 true b w h W
 unfold seeB
 cases q:sol w h W b with
 | true=>rw [q]at i;exact zAJ (zAL (oAV0 (oo rfl rfl i)))
 | false=>rw [q]at i;exact zAJ (zAL (oAV (oo rfl rfl i) (zAk rfl e)))
end
end My
namespace My
open PySem PySem.SeqAt L2 DL SD SL EL DC
theorem ne_c(a b:C):dNe (zAb a) (zAb b)=some (.bool (!(a == b))):=by
 unfold dNe
 rw [zHz,zHz,zIv]
 rfl
theorem fl_of(w h:Nat)(l:List C)(W:C->Bool)(e:l=(cells w h).filter W):PyData.tuple [.int w,.int h,.tuple (l.map zAb)]=flD w h W:=by rw [e];rfl
theorem zDF{w h:Nat}(hw:w<=5)(hh:h<=5)(W:C->Bool):((cells w h).filter W).length<=25:=
 QI (Q7 _ _) (by rw [zER];exact Nat.mul_le_mul hw hh)
theorem zJJ{f:C->C}(hf:∀ a b,f a=f b->a=b){l:List C}(h:l.Nodup):(l.map f).Nodup:=by
 rw [List.Nodup,QW]
 exact h.imp fun{a b} q r=>q (hf _ _ r)
theorem zGY(m:Int)(c:C):mir m (mir m c)=c:=Prod.ext (by show m-(m-c.1)=c.1;lia) rfl
theorem zNf{w h:Nat}{c:C}:inR w h (mir (w-1) c)=inR w h c:=by
 rw [Jm,zCl,zCl]
 show(0<=(w:Int)-1-c.1/\(w:Int)-1-c.1<w/\0<=c.2/\c.2<h) ↔ _
 lia
theorem zJv{f:C->C}(hf:∀ c,f (f c)=c){l:List C}{c:C}:c∈l.map f ↔ f c∈l:=by
 rw [QK]
 constructor
 ·rintro⟨d,hd,rfl⟩;rw [hf];exact hd
 ·intro q;exact⟨f c,q,hf c⟩
theorem zPl{w h:Nat}(hw:w<=5)(hh:h<=5)(P:C->Bool):zBC [.list ((((cells w h).filter P).map (mir (w-1))).map zAb)]=some (.list (((cells w h).filter fun c=>P (mir (w-1) c)).map zAb)):=by
 refine zFS (zJJ (fun a b q=>by rw [<- zGY (w-1) a,q,zGY]) (zEE (zCs (zCr w h) P))) (by rw [Ql];have:=zDF hw hh P;lia) (zCs (zCr w h) _) fun c=>?_
 rw [zJv (zGY _),QT,QT,zCa,zCa,zNf]
theorem zNh{w h:Nat}{W:C->Bool}(hw:w<=5)(hh:h<=5):zDV [flD w h W]=some (flD w h fun c=>W (mir (w-1) c)):=by
 have wl:=zDF hw hh W
 refine zAJ ?_
 unfold zGG
 rw [show zAH 2 [flD w h W]=[.dat (flD w h W),.no]from rfl]
 refine zAo (zAM (zBS (xs:=(cells w h).filter W) zAb (fun _=>true) (fun c=>zAb (mir (w-1) c)) (fun ρ=>∃ s0 s1,ρ=[s0,s1,.dat (flD w h W)]) (zB8 rfl rfl) (by lia) ⟨_,_,rfl⟩ ?_ (by rw [zD8]))) ?_
 ·rintro c _ ρ ⟨s0,s1,rfl⟩
  refine⟨[.dat (.int c.1),.dat (.int c.2),.dat (flD w h W)],rfl,⟨_,_,rfl⟩,rfl,fun _=>?_⟩
  rfl
 ·have e:(((cells w h).filter W).map fun c=>zAb (mir (w-1) c))=(((cells w h).filter W).map (mir (w-1))).map zAb:=by rw [YB];rfl
  refine zAL ?_
  rw [e]
  exact oT3 rfl rfl (zAk (zAG (zAk rfl (zPl hw hh W)) rfl) rfl)
theorem zHF(c:C):swp (swp c)=c:=rfl
theorem zPw{w h:Nat}{c:C}:inR h w (swp c)=inR w h c:=by
 rw [Jm,zCl,zCl]
 show(0<=c.2/\c.2<h/\0<=c.1/\c.1<w) ↔ _
 lia
theorem zPm{w h:Nat}(hw:w<=5)(hh:h<=5)(P:C->Bool):zBC [.list ((((cells w h).filter P).map swp).map zAb)]=some (.list (((cells h w).filter fun c=>P (swp c)).map zAb)):=by
 refine zFS (zJJ (fun a b q=>by rw [<- zHF a,q,zHF]) (zEE (zCs (zCr w h) P))) (by rw [Ql];have:=zDF hw hh P;lia) (zCs (zCr h w) _) fun c=>?_
 rw [zJv zHF,QT,QT,zCa,zCa,<- zPw (w:=h) (h:=w) (c:=c)]
theorem zMm{w h:Nat}{W:C->Bool}(hw:w<=5)(hh:h<=5):zDQ [flD w h W]=some (flD h w fun c=>W (swp c)):=by
 have wl:=zDF hw hh W
 refine zAJ ?_
 unfold zGD
 rw [show zAH 2 [flD w h W]=[.dat (flD w h W),.no]from rfl]
 refine zAo (zAM (zBS (xs:=(cells w h).filter W) zAb (fun _=>true) (fun c=>zAb (swp c)) (fun ρ=>∃ s0 s1,ρ=[s0,s1]) (zB8 rfl rfl) (by lia) ⟨_,_,rfl⟩ ?_ (by rw [zD8]))) ?_
 ·rintro c _ ρ ⟨s0,s1,rfl⟩
  refine⟨[.dat (.int c.1),.dat (.int c.2)],rfl,⟨_,_,rfl⟩,rfl,fun _=>?_⟩
  rfl
 ·have e:(((cells w h).filter W).map fun c=>zAb (swp c))=(((cells w h).filter W).map swp).map zAb:=by rw [YB];rfl
  refine zAL ?_
  rw [e]
  exact oT3 rfl rfl (zAk (zAG (zAk rfl (zPm hw hh W)) rfl) rfl)
theorem zKZ{w h:Nat}{W:C->Bool}(hw:w<=5)(hh:h<=5){c:C}(hc:inR w h c=true):zCI [flD w h W,zAb c]=some (flD w h fun x=>W x && !(x == c)):=by
 have wl:=zDF hw hh W
 refine zAJ ?_
 unfold zGL
 rw [show zAH 2 [flD w h W,zAb c]=[.dat (flD w h W),.dat (zAb c)]from rfl]
 refine zAo (zHr (zAk rfl (zHn hc))) (zAL ?_)
 have lc:=zBS (gi:=iSeq (eOp dIx (eV 0) (eC (.int 2)))) (s:=zAz 0) (t:=eB (eOp dNe (eV 0) (eV 1))) (ge:=eV 0) (inner:=[none,some 1]) (ρ:=[.dat (flD w h W),.dat (zAb c)]) (xs:=(cells w h).filter W) zAb (fun x => !(x == c)) zAb (fun ρ=>∃ s0,ρ=[s0,.dat (zAb c)]) (zB8 rfl rfl) (by lia) ⟨_,rfl⟩ (by
  rintro x _ ρ ⟨s0,rfl⟩
  exact⟨[.dat (zAb x),.dat (zAb c)],rfl,⟨_,rfl⟩,oB (oo rfl rfl (ne_c x c)),fun _=>rfl⟩) rfl
 refine(oT3 rfl rfl (zAk (zAG lc rfl) rfl)).trans ?_
 exact congrArg some (fl_of w h (((cells w h).filter W).filter fun x => !(x == c)) (fun x=>W x && !(x == c)) (by rw [List.filter_filter];exact List.filter_congr fun x _=>Bool.and_comm _ _))
end My
namespace My
open PySem PySem.SeqAt L2 DL SD SL EL DC
def ddc:List C->List C
 | []=>[]
 | a::r=>if a∈r then ddc r else a::ddc r
theorem zFs{c:C}:∀{l:List C},c∈ddc l ↔ c∈l
 | []=>Iff.rfl
 | a::r=>by
  unfold ddc
  by_cases e:a∈r
  ·rw [if_pos e,zFs,Qh]
   exact⟨.inr,fun q=>q.elim (fun z=>by rw [z];exact e) id⟩
  ·rw [if_neg e,Qh,Qh,zFs]
theorem zG2:∀ l:List C,(ddc l).Nodup
 | []=>Y3
 | a::r=>by
  unfold ddc
  by_cases e:a∈r
  ·rw [if_pos e];exact zG2 r
  ·rw [if_neg e,Yc,zFs];exact⟨e,zG2 r⟩
theorem zJl:∀ l:List C,(ddc l).length<=l.length
 | []=>Qi _
 | a::r=>by
  have:=zJl r
  unfold ddc
  split
  ·rw [Qw];lia
  ·rw [Qw,Qw];lia
theorem zGa:∀ l:List C,dd (l.map row)=(ddc l).map row
 | []=>rfl
 | a::r=>by
  rw [Qq]
  unfold dd ddc
  have:row a∈r.map row ↔ a∈r:=by
   rw [<- Yy,zI0,Yy]
  by_cases e:a∈r
  ·rw [if_pos (this.mpr e),if_pos e,zGa r]
  ·rw [if_neg (fun z=>e (this.mp z)),if_neg e,zGa r,Qq]
theorem zPn{l m:List C}{ga:Rho->Option D}{ρ:Rho}(hl:l.length<=63)(hm:Up m)(h:∀ c,c∈m ↔ c∈l)(hd:ga ρ=some (.tuple (l.map zAb))):zCN (eSet (zAc ga eNil)) ρ=some (.list (m.map zAb)):=by
 have s:setD [.tuple (l.map zAb)]=some (l.map row):=by
  show(if _ then _ else _)=_
  rw [if_pos (by rw [Ql];lia),zFF]
 unfold zCN eSet
 rw [zAG hd rfl,Qf,s,Qf,zGa,zFH]
 exact zFS (zG2 l) (QI (zJl l) hl) hm fun c=>(h c).trans zFs.symm
theorem add_T(l m:List C)(h:l.length+m.length<=1000):zAr (.tuple (l.map zAb)) (.tuple (m.map zAb))=some (.tuple ((l++m).map zAb)):=by
 show(if(l.map zAb).length+(m.map zAb).length<=1000 then _ else _)=_
 rw [if_pos (by rw [Ql,Ql];exact h),Q0]
section
variable {w h:Nat}{W:C->Bool}(hw:w<=5)(hh:h<=5){c:C}
include hw hh
theorem zNj(hc:inR w h c=true){ga gb:Rho->Option D}{ρ:Rho}(h1:ga ρ=some (zCg w h W))(h2:gb ρ=some (zAb c)):zCN (eSet (zAc (eOp zAr ga (eTup (zAc gb eNil))) eNil)) ρ=some (.list (((cells w h).filter fun x=>W x || x == c).map zAb)):=by
 have wl:=zDF hw hh W
 refine zPn (l:=(cells w h).filter W++[c]) (by rw [Qv,Yg];lia) (zCs (zCr w h) _) (fun x=>?_) ?_
 ·rw [QD,QT,QT,Jl,beq_iff_eq,QC]
  constructor
  ·rintro⟨q1,q2 | q2⟩
   ·exact .inl ⟨q1,q2⟩
   ·exact .inr q2
  ·rintro(⟨q1,q2⟩ | rfl)
   ·exact⟨q1,.inl q2⟩
   ·exact⟨zCa.mpr hc,.inr rfl⟩
 ·exact oo h1 (oT1 h2) (add_T _ [c] (by rw [Yg];lia))
theorem zKY(hc:inR w h c=true):zCH [flD w h W,zAb c]=some (flD w h fun x=>W x || x == c):=by
 refine zAJ ?_
 unfold zGK
 rw [show zAH 2 [flD w h W,zAb c]=[.dat (flD w h W),.dat (zAb c)]from rfl]
 refine zAo (zHr (zAk rfl (zHn hc))) ?_
 refine zAL ?_
 have m:=zNj (W:=W) hw hh hc (ga:=eOp dIx (eV 0) (eC (.int 2))) (gb:=eV 1) (ρ:=[.dat (flD w h W),.dat (zAb c)]) rfl rfl
 exact oT3 rfl rfl (zAk (zAG m rfl) rfl)
end
def zBp:List C->List Cp
 | []=>[]
 | a::r=>(r.map fun b=>(a,b))++zBp r
def at0(l:List C)(k:Nat):C:=l.getD k (0,0)
theorem zJT:∀ l:List C,((List.range l.length).flatMap fun k=>(l.drop (k+1)).map fun b=>(at0 l k,b))=zBp l
 | []=>rfl
 | a::r=>by
  rw [Qw,List.range_succ_eq_map,List.flatMap_cons,List.flatMap_map]
  show(r.map fun b=>(a,b))++_=(r.map fun b=>(a,b))++zBp r
  rw [<- zJT r]
  rfl
theorem zJw{x y:C}:∀{l:List C},Up l->((x,y)∈zBp l ↔ x∈l/\y∈l/\ltC x y=true)
 | [],_=>by simp [zBp]
 | a::r,u=>by
  have u1:=(QV.mp u).1
  have u2:Up r:=(QV.mp u).2
  unfold zBp
  rw [QD,QK,zJw u2]
  constructor
  ·rintro(⟨b,hb,e⟩ | ⟨h1,h2,h3⟩)
   ·cases e;exact⟨Qj,Qe _ hb,u1 _ hb⟩
   ·exact⟨Qe _ h1,Qe _ h2,h3⟩
  ·rintro⟨h1,h2,h3⟩
   rcases Qh.mp h1 with g1 | g1
   ·subst g1
    rcases Qh.mp h2 with g2 | g2
    ·subst g2;rw [zCQ]at h3;lia
    ·exact .inl ⟨y,g2,rfl⟩
   ·rcases Qh.mp h2 with g2 | g2
    ·subst g2
     have:=u1 _ g1
     rw [zCQ]at this h3;lia
    ·exact .inr ⟨g1,g2,h3⟩
def itE(l:List C)(k:Nat):D:=.tuple [.int (k:Int),zAb (at0 l k)]
theorem numb(l:List C):zBH 0 (l.map zAb)=(List.range l.length).map (itE l):=by
 refine List.ext_getElem? fun i=>?_
 rw [zG4,QB,QB,Y7]
 by_cases c:i<l.length
 ·rw [YZ c,Qg c]
  show some _=some (itE l i)
  unfold itE at0
  simp [List.getD,c]
 ·rw [List.getElem?_eq_none (by lia),List.getElem?_eq_none (by simpa using Yz c)]
  rfl
theorem zLH(l:List C)(k:Nat):cutD (l.map zAb) (some ((k:Nat):Int)) none=(l.drop k).map zAb:=by
 unfold cutD
 rw [HT.sIx_nat,HT.sIx_none,Ql]
 by_cases c:k<=l.length
 ·rw [Nat.min_eq_left c,List.map_drop]
  exact Jb (by simp)
 ·rw [Nat.min_eq_right (by lia),Y8 (show l.length<=k by lia)]
  simp
theorem zLC{l:List C}(hl:l.length<=25):zDO [.list (l.map zAb)]=some (.list ((zBp l).map cpD)):=by
 refine zAJ ?_
 unfold zGA
 rw [show zAH 4 [.list (l.map zAb)]=[.dat (.list (l.map zAb)),.no,.no,.no]from rfl]
 refine zAo (ρ':=[.dat (.list (l.map zAb)),.own [],.no,.no]) rfl ?_
 have it:zEc (zAc (eV 0) eNil) [.dat (.list (l.map zAb)),.own [],.no,.no]=some ((List.range l.length).map (itE l)):=by
  rw [<- numb];rfl
 refine zAo (zDx it (zD9 (itE l) (fun(b:List Cp × Sl × Sl)=>[.dat (.list (l.map zAb)),.own (b.1.map cpD),b.2.1,b.2.2]) (fun b k=>(b.1++(l.drop (k+1)).map (fun b=>(at0 l k,b)),.dat (.int (k:Int)),.dat (zAb (at0 l k)))) (fun i b=>b.1.length<=25 * i) 25 (List.range l.length) 0 ([],.no,.no) (by rw [QP];lia) (Qi _) fun k _ i b hi hp=>?_)) ?_
 ·obtain⟨acc,s2,s3⟩:=b
  have hp':acc.length<=25 * i:=hp
  have hd:((l.drop (k+1)).map fun b=>(at0 l k,b)).length<=25:=by rw [Ql,Yd];lia
  refine⟨⟨[.dat (.list (l.map zAb)),.own (acc.map cpD),.dat (.int (k:Int)),.dat (zAb (at0 l k))],rfl,?_⟩,by show(acc++_).length<=_;rw [Qv];lia⟩
  refine(zGq (ds:=acc.map cpD) (es:=((l.drop (k+1)).map fun b=>(at0 l k,b)).map cpD) rfl (zBS (xs:=l.drop (k+1)) zAb (fun _=>true) (fun b=>cpD (at0 l k,b)) (fun ρ=>∃ s0,ρ=[s0,.dat (zAb (at0 l k))]) ?_ (by rw [Yd];lia) ⟨_,rfl⟩ ?_ ?_) (by rw [Ql,Ql];lia)).trans ?_
  ·show some (cutD (l.map zAb) (some (((k:Nat):Int)+1)) none)=_
   rw [show((k:Nat):Int)+1=((k+1:Nat):Int)from rfl,zLH]
  ·rintro b _ ρ ⟨s0,rfl⟩
   exact⟨[.dat (zAb b),.dat (zAb (at0 l k))],rfl,⟨_,rfl⟩,rfl,fun _=>rfl⟩
  ·rw [zD8,YB];rfl
  ·show some (Out.nx _)=some (Out.nx _)
   rw [Q0]
   rfl
 ·refine zAL ?_
  have fold:∀(zs:List Nat) (b:List Cp × Sl × Sl),(zs.foldl (fun(b:List Cp × Sl × Sl) k=>(b.1++(l.drop (k+1)).map (fun b=>(at0 l k,b)),Sl.dat (.int (k:Int)),Sl.dat (zAb (at0 l k)))) b).1=b.1++zs.flatMap fun k=>(l.drop (k+1)).map fun b=>(at0 l k,b):=by
   intro zs
   induction zs with
   | nil=>intro b;simp
   | cons z zs ih=>intro b;rw [YF,ih,List.flatMap_cons,<- Yi]
  exact congrArg (fun x:List Cp=>some (PyData.list (x.map cpD))) ((fold (List.range l.length) ([],.no,.no)).trans ((List.nil_append _).trans (zJT l)))
theorem zJQ:∀{l:List C}{n:Nat},l.length<=n->(zBp l).length<=n * n
 | [],n,_=>QN _
 | a::r,0,h=>by simp at h
 | a::r,n+1,h=>by
  have h':r.length<=n:=by simpa using h
  have:=zJQ h'
  unfold zBp
  rw [Qv,Ql]
  have:(n+1) * (n+1)=n * n+n+n+1:=by rw [Nat.add_mul,Nat.mul_add];lia
  lia
end My
namespace My
open PySem PySem.SeqAt L2 DL SD SL EL DC
theorem oO1{t u:Rho->Option Bool}{ρ:Rho}(h:t ρ=some true):eOr t u ρ=some true:=by
 unfold eOr
 rw [h]
 rfl
def betw(x m y:Int):Bool:=(decide (x<=m) && decide (m<=y)) || (decide (y<=m) && decide (m<=x))
theorem zH3(x m y:Int):zC5 [.int x,.int m,.int y]=some (.bool (betw x m y)):=by
 refine zAJ (zAL ?_)
 show((if decide (x<=m)=true then some (PyData.bool (decide (m<=y)))else some (.bool false)).bind fun z=>(asB z).bind fun c=>if c=true then some (PyData.bool true)else(if decide (y<=m)=true then some (PyData.bool (decide (m<=x)))else some (.bool false)))=_
 unfold betw
 cases decide (x<=m) <;> cases decide (m<=y) <;> cases decide (y<=m) <;> cases decide (m<=x) <;> rfl
def mtB(a b c:C):Bool:=betw a.1 c.1 b.1 && betw a.2 c.2 b.2 && decide (2 * iabs ((b.1-a.1) * (c.2-a.2)-(b.2-a.2) * (c.1-a.1))<=iabs (b.1-a.1)+iabs (b.2-a.2))
theorem zNd{a b:C}(n:Near a b)(c:C):zDU [zAb a,zAb b,zAb c]=some (.bool (mtB a b c)):=by
 obtain⟨n1,n2,n3,n4⟩:=n
 have b1:=zH3 a.1 c.1 b.1
 have b2:=zH3 a.2 c.2 b.2
 have m1:zAt (.int (b.1-a.1)) (.int (c.2-a.2))=some (.int ((b.1-a.1) * (c.2-a.2))):=zBi (okS (by lia) (by lia))
 have m2:zAt (.int (b.2-a.2)) (.int (c.1-a.1))=some (.int ((b.2-a.2) * (c.1-a.1))):=zBi (okS (by lia) (by lia))
 have m3:zAt (.int 2) (.int (iabs ((b.1-a.1) * (c.2-a.2)-(b.2-a.2) * (c.1-a.1))))=some (.int (2 * iabs ((b.1-a.1) * (c.2-a.2)-(b.2-a.2) * (c.1-a.1)))):=zBi (okS (by decide) (by decide))
 unfold mtB
 refine zAJ ?_
 unfold zGF
 rw [show zAH 6 [zAb a,zAb b,zAb c]=[.dat (zAb a),.dat (zAb b),.dat (zAb c),.no,.no,.no]from rfl]
 cases q1:betw a.1 c.1 b.1 with
 | false=>rw [q1]at b1;exact zEx (zCp (b:=true) (oO1 (oN (oB (zAk rfl b1)))) (fun _=>rfl) fun z=>by cases z)
 | true=>
  rw [q1]at b1
  cases q2:betw a.2 c.2 b.2 with
  | false=>rw [q2]at b2;exact zEx (zCp (b:=true) (oO0 (oN (oB (zAk rfl b1))) (oN (oB (zAk rfl b2)))) (fun _=>rfl) fun z=>by cases z)
  | true=>
   rw [q2]at b2
   refine zAo (zBy (oO0 (oN (oB (zAk rfl b1))) (oN (oB (zAk rfl b2))))) (zAo (zAM rfl) (zAo (zAM rfl) (zAo (zAM (zAk (zAG (oo (oo rfl rfl m1) (oo rfl rfl m2) rfl) rfl) rfl)) (zAL (oo (oo rfl rfl m3) rfl rfl)))))
theorem zNx{w h:Nat}(hw:w<=5)(hh:h<=5){P:C->Bool}{p:Cp}(hp:p∈zBp ((cells w h).filter P)):inR w h p.1=true/\inR w h p.2=true:=by
 obtain⟨x,y⟩:=p
 obtain⟨h1,h2,_⟩:=(zJw (zCs (zCr w h) P)).mp hp
 exact⟨zCa.mp (QT.mp h1).1,zCa.mp (QT.mp h2).1⟩
def thr(w h:Nat)(W:C->Bool)(c:C):List Cp:=(((zBp ((cells w h).filter fun x => !(W x && !(x == c)))).filter fun p=>mtB p.1 p.2 c).filter fun p=>seeB (sol w h fun x=>W x && !(x == c)) p.1 p.2).filter fun p => !seeB (sol w h fun x=>W x || x == c) p.1 p.2
theorem zKt{w h:Nat}{W:C->Bool}{c:C}(hw:w<=5)(hh:h<=5)(hc:inR w h c=true):zCG [flD w h W,zAb c]=some (.int ((thr w h W c).length:Int)):=by
 have e1:=zKZ (W:=W) hw hh hc
 have e2:=zKY (W:=W) hw hh hc
 have o1:=zN5 (w:=w) (h:=h) (W:=fun x=>W x && !(x == c)) hw hh
 have k1:zBY [zCg w h fun x=>W x && !(x == c)]=some (solD w h fun x=>W x && !(x == c)):=zJs hw hh
 have k2:zBY [zCg w h fun x=>W x || x == c]=some (solD w h fun x=>W x || x == c):=zJs hw hh
 unfold thr
 have cl:((cells w h).filter fun x => !(W x && !(x == c))).length<=25:=QI (Q7 _ _) (by rw [zER];exact Nat.mul_le_mul hw hh)
 have c1:=zLC cl
 have pl:=zJQ cl
 have pn:∀ p∈zBp ((cells w h).filter fun x => !(W x && !(x == c))),inR w h p.1=true/\inR w h p.2=true:=fun p hp=>zNx hw hh hp
 generalize zBp ((cells w h).filter fun x => !(W x && !(x == c)))=ps at *
 have l1:=Q7 (fun p:Cp=>mtB p.1 p.2 c) ps
 have l2:=Q7 (fun p:Cp=>seeB (sol w h fun x=>W x && !(x == c)) p.1 p.2) (ps.filter fun p:Cp=>mtB p.1 p.2 c)
 refine zAJ ?_
 unfold zGJ
 rw [show zAH 7 [flD w h W,zAb c]=[.dat (flD w h W),.dat (zAb c),.no,.no,.no,.no,.no]from rfl]
 refine zAo (zAM (zAk rfl e1)) (zAo (zAM (zBS (xs:=ps) cpD (fun p=>mtB p.1 p.2 c) cpD (fun ρ=>∃ s0,ρ=[s0,.dat (zAb c)]) (zB8 (zAk (zAG (zAk rfl o1) rfl) c1) rfl) (by lia) ⟨_,rfl⟩ ?_ rfl))
  (zAo (zAM (zAk rfl k1)) (zAo (zAM (zBS (xs:=ps.filter fun p:Cp=>mtB p.1 p.2 c) cpD (fun p=>seeB (sol w h fun x=>W x && !(x == c)) p.1 p.2) cpD (fun ρ=>∃ s0,ρ=[s0,.dat (solD w h fun x=>W x && !(x == c))]) (zB8 rfl rfl) (by lia) ⟨_,rfl⟩ ?_ rfl))
  (zAo (zAM (zAk (zAG (oo (zAk rfl e2) rfl rfl) rfl) k2)) (zAL (zAk (zAG (zBS (xs:=(ps.filter fun p:Cp=>mtB p.1 p.2 c).filter fun p=>seeB (sol w h fun x=>W x && !(x == c)) p.1 p.2) cpD (fun p => !seeB (sol w h fun x=>W x || x == c) p.1 p.2) cpD (fun ρ=>∃ s0,ρ=[s0,.dat (solD w h fun x=>W x || x == c)]) (zB8 rfl rfl) (by lia) ⟨_,rfl⟩ ?_ rfl) rfl) ?_))))))
 ·rintro p hp ρ ⟨s0,rfl⟩
  have g:=pn p hp
  exact⟨[.dat (cpD p),.dat (zAb c)],rfl,⟨_,rfl⟩,oB (zAk rfl (zNd (zJC hw hh g.1 g.2) c)),fun _=>rfl⟩
 ·rintro p hp ρ ⟨s0,rfl⟩
  have g:=pn p (QT.mp hp).1
  exact⟨[.dat (cpD p),.dat (solD w h fun x=>W x && !(x == c))],rfl,⟨_,rfl⟩,oB (zAk rfl (zIr hw hh g.1 g.2)),fun _=>rfl⟩
 ·rintro p hp ρ ⟨s0,rfl⟩
  have g:=pn p (QT.mp (QT.mp hp).1).1
  exact⟨[.dat (cpD p),.dat (solD w h fun x=>W x || x == c)],rfl,⟨_,rfl⟩,oN (oB (zAk rfl (zIr hw hh g.1 g.2))),fun _=>rfl⟩
 ·show some (PyData.int ((List.map cpD _).length:Int))=_
  rw [Ql]
end My
namespace My
open PySem PySem.SeqAt L2 DL OB SD SL EL DC
section
variable {B:Type}{ρ ρ':Rho}{Ω Ω1 Ω2:List B}{d x y:D}{ds:List D}{ga gb:GX B D}{gr:GX B (List D)}{t u:GX B Bool}{g g1 g2:GS B}{j i:Nat}{b:B}
theorem rP{α:Type}{a:α}{g:Rho->Option α}(h:g ρ=some a):xP g ρ Ω=some (a,Ω):=by
 unfold xP
 rw [h]
 rfl
theorem zA5{G:GM B}{gr:Rho->Option (List D)}{r:D × B}(h1:gr ρ=some ds)(h2:Ω[j]?=some b)(h3:G (none::ds.map some) b=some r):zAp j G gr ρ Ω=some (r.1,Ω.set j r.2):=by
 unfold zAp
 rw [h1,Qf,h2,Qf,h3]
 rfl
theorem rFn{G:GM B}{gr:Rho->Option (List (Option D))}{os:List (Option D)}{r:D × B}(h1:gr ρ=some os)(h2:Ω[j]?=some b)(h3:G os b=some r):xFn j G gr ρ Ω=some (r.1,Ω.set j r.2):=by
 unfold xFn
 rw [h1,Qf,h2,Qf,h3]
 rfl
theorem rOp{f:D->D->Option D}(h1:ga ρ Ω=some (x,Ω1))(h2:gb ρ Ω1=some (y,Ω2))(h3:f x y=some d):xOp f ga gb ρ Ω=some (d,Ω2):=by
 unfold xOp
 rw [h1,Qf]
 dsimp only
 rw [h2,Qf]
 dsimp only
 rw [h3]
 rfl
theorem rB{k:Bool}(h:ga ρ Ω=some (.bool k,Ω1)):xB ga ρ Ω=some (k,Ω1):=by
 unfold xB
 rw [h]
 rfl
theorem rOr0{r:Option (Bool × List B)}(h:t ρ Ω=some (false,Ω1))(h2:u ρ Ω1=r):xOr t u ρ Ω=r:=by
 unfold xOr
 rw [h]
 exact h2
theorem rNot{k:Bool}(h:t ρ Ω=some (k,Ω1)):xNot t ρ Ω=some (!k,Ω1):=by
 unfold xNot
 rw [h]
 rfl
theorem rAnd{r:Option (D × List B)}(h:ga ρ Ω=some (.bool true,Ω1))(h2:gb ρ Ω1=r):zEF ga gb ρ Ω=r:=by
 unfold zEF
 rw [h]
 exact h2
theorem zHl(h:ga ρ Ω=some (d,Ω1))(h2:gr ρ Ω1=some (ds,Ω2)):zBl ga gr ρ Ω=some (d::ds,Ω2):=by
 unfold zBl
 rw [h,Qf]
 dsimp only
 rw [h2]
 rfl
theorem zFE(h:ga ρ Ω=some (x,Ω1))(h2:gb ρ Ω1=some (y,Ω2)):xTup (zBl ga (zBl gb xNil)) ρ Ω=some (.tuple [x,y],Ω2):=by
 unfold xTup
 rw [zHl h (zHl (gr:=xNil) h2 rfl)]
 rfl
theorem wSeq{r:Option (OutX B)}(h:g1 ρ Ω=some (.nx ρ' Ω1))(h2:g2 ρ' Ω1=r):ySeq g1 g2 ρ Ω=r:=by
 unfold ySeq
 rw [h]
 exact h2
theorem wSet(h:ga ρ Ω=some (d,Ω1)):ySet i ga ρ Ω=some (.nx (ρ.set i (.dat d)) Ω1):=by
 unfold ySet
 rw [h]
 rfl
theorem zCt(h:ga ρ Ω=some (d,Ω1)):zBe ga ρ Ω=some (.nx ρ Ω1):=by
 unfold zBe
 rw [h]
 rfl
theorem wRet(h:ga ρ Ω=some (d,Ω1)):yRet ga ρ Ω=some (.rt d Ω1):=by
 unfold yRet
 rw [h]
 rfl
theorem zCu(h:t ρ Ω=some (false,Ω1)):yIf t g1 zBW ρ Ω=some (.nx ρ Ω1):=by
 unfold yIf
 rw [h]
 rfl
theorem wIf1{r:Option (OutX B)}(h:t ρ Ω=some (true,Ω1))(h2:g1 ρ Ω1=r):yIf t g1 g2 ρ Ω=r:=by
 unfold yIf
 rw [h]
 exact h2
theorem wIf0{r:Option (OutX B)}(h:t ρ Ω=some (false,Ω1))(h2:g2 ρ Ω1=r):yIf t g1 g2 ρ Ω=r:=by
 unfold yIf
 rw [h]
 exact h2
theorem wOwn(h:gr ρ Ω=some (ds,Ω1))(hl:ds.length<=1000):yOwn i gr ρ Ω=some (.nx (ρ.set i (.own ds)) Ω1):=by
 unfold yOwn
 rw [h,Qf,if_pos hl]
theorem wApp(h0:ρ[i]?=some (.own ds))(h:ga ρ Ω=some (d,Ω1))(hl:ds.length<1000):yApp i ga ρ Ω=some (.nx (ρ.set i (.own (ds++[d]))) Ω1):=by
 unfold yApp
 rw [h0]
 show(ga ρ Ω).bind _=_
 rw [h,Qf,if_pos hl]
theorem wFor{gi:Rho->Option (List D)}{xs:List D}{r:Option (OutX B)}(h:gi ρ=some xs)(h2:zDJ i g xs ρ Ω=r):yFor gi i g ρ Ω=r:=by
 unfold yFor
 rw [h]
 exact h2
theorem zKT(f:Nat->D)(St:Nat->Rho->List B->Prop)(m:Nat)(hs:∀ n ρ Ω,n<m->St n ρ Ω->∃ ρ' Ω',g (ρ.set i (.dat (f n))) Ω=some (.nx ρ' Ω')/\St (n+1) ρ' Ω'):∀(k a:Nat) (ρ:Rho) (Ω:List B),a+k=m->St a ρ Ω->∃ ρ' Ω',zDJ i g ((List.range' a k).map f) ρ Ω=some (.nx ρ' Ω')/\St m ρ' Ω'
 | 0,a,ρ,Ω,e,h=>⟨ρ,Ω,rfl,by rw [<- e];exact h⟩
 | k+1,a,ρ,Ω,e,h=>by
  obtain⟨ρ1,Ω1,e1,h1⟩:=hs a ρ Ω (by lia) h
  obtain⟨ρ2,Ω2,e2,h2⟩:=zKT f St m hs k (a+1) ρ1 Ω1 (by lia) h1
  refine⟨ρ2,Ω2,?_,h2⟩
  rw [List.range'_succ,Qq]
  unfold zDJ
  rw [e1]
  exact e2
theorem zC0{gi:Rho->Option (List D)}{rest:GS B}{r:Option (OutX B)}(f:Nat->D)(St:Nat->Rho->List B->Prop)(m:Nat)(hi:gi ρ=some ((List.range m).map f))(h0:St 0 ρ Ω)(hs:∀ n ρ Ω,n<m->St n ρ Ω->∃ ρ' Ω',g (ρ.set i (.dat (f n))) Ω=some (.nx ρ' Ω')/\St (n+1) ρ' Ω')(hr:∀ ρ' Ω',St m ρ' Ω'->rest ρ' Ω'=r):ySeq (yFor gi i g) rest ρ Ω=r:=by
 obtain⟨ρ1,Ω1,e1,h1⟩:=zKT f St m hs m 0 ρ Ω (Y7 m) h0
 rw [<- List.range_eq_range']at e1
 exact wSeq (wFor hi e1) (hr ρ1 Ω1 h1)
theorem zMo{n:Nat}{os:List (Option D)}{b':B}{Ω:List B}(h0:os[j]?=some none)(h:g (zBJ n os) [b]=some (.nx ρ (b'::Ω))):fnO j n g os b=some (.none,b'):=by
 unfold fnO
 rw [h0]
 dsimp only
 rw [h]
theorem zID{n:Nat}{os:List (Option D)}{b':B}{Ω:List B}(h0:os[j]?=some none)(h:g (zBJ n os) [b]=some (.rt d (b'::Ω))):fnO j n g os b=some (d,b'):=by
 unfold fnO
 rw [h0]
 dsimp only
 rw [h]
end
structure Sh(d:D):Prop where
 l:d.canLay0=true
 d:d.depth<=9
theorem Sh.shaped{d:D}(h:Sh d):SeqAt.shaped d=true:=by
 have:=h.d
 have e:decide (d.depth<=64)=true:=decide_eq_true (by lia)
 unfold SeqAt.shaped
 rw [h.l,e]
 rfl
theorem zFv{d:D}(h:SeqAt.shaped d=true):dNe d d=some (.bool false):=by
 unfold dNe
 rw [h,SeqAt.eqv_refl d (SeqAt.canLay_of_shaped h)]
 rfl
theorem zIu{d:D}(h:SeqAt.shaped d=true):dEq d d=some (.bool true):=by
 unfold dEq
 rw [h,SeqAt.eqv_refl d (SeqAt.canLay_of_shaped h)]
 rfl
theorem zHx:∀{l:List D},(∀ d∈l,Sh d)->PyData.canLayAll0 l=true/\PyData.depthAll l<=9
 | [],_=>⟨rfl,QN _⟩
 | d::l,h=>by
  obtain⟨h1,h2⟩:=zHx (l:=l) fun x hx=>h x (Qe _ hx)
  have hd:=h d Qj
  refine⟨by rw [PyData.canLayAll0,hd.l,h1];rfl,?_⟩
  rw [PyData.depthAll]
  exact Nat.max_le.mpr ⟨hd.d,h2⟩
theorem zO7{l:List D}(h:∀ d∈l,Sh d):SeqAt.shaped (.list l)=true:=by
 obtain⟨h1,h2⟩:=zHx h
 have:PyData.depth (.list l)<=64:=by show PyData.depthAll l+1<=64;lia
 simp [SeqAt.shaped,PyData.canLay0,h1,this]
theorem zO9{l:List D}(h:∀ d∈l,Sh d):SeqAt.shaped (.tuple l)=true:=by
 obtain⟨h1,h2⟩:=zHx h
 have:PyData.depth (.tuple l)<=64:=by show PyData.depthAll l+1<=64;lia
 simp [SeqAt.shaped,PyData.canLay0,h1,this]
theorem zHy(i j:Int):Sh (.tuple [.int i,.int j]):=⟨id rfl,by show 1<=9;decide⟩
def Fl(f:D):Prop:=∃(w h:Nat) (W:C->Bool),1<=w/\w<=4/\1<=h/\h<=4/\f=flD w h W
theorem Fl.sh{f:D}(h:Fl f):Sh f:=by
 obtain⟨w,h,W,_,_,_,_,rfl⟩:=h
 obtain⟨h1,h2⟩:=zE9 ((cells w h).filter W)
 refine⟨?_,?_⟩
 ·show(true && (true && (PyData.canLayAll0 (((cells w h).filter W).map zAb) && true)))=true
  rw [h1];rfl
 ·show max 0 (max 0 (max (PyData.depthAll (((cells w h).filter W).map zAb)+1) 0))+1<=9
  lia
def Wd(d:D):Prop:=d=.str "put" ∨ d=.str "take" ∨ d=.str "mirror" ∨ d=.str "flip"
theorem Wd.sh{d:D}(h:Wd d):Sh d:=by
 rcases h with rfl | rfl | rfl | rfl <;> exact⟨by decide +kernel,by show 0<=9;decide⟩
theorem zO5{wd f:D}(h1:Wd wd)(h2:Fl f):Sh (.tuple [wd,f]):=by
 have a:=h1.sh
 have b:=h2.sh
 refine⟨?_,?_⟩
 ·show(wd.canLay0 && (f.canLay0 && true))=true
  rw [a.l,b.l];rfl
 ·obtain⟨w,h,W,_,_,_,_,rfl⟩:=h2
  obtain⟨_,h2⟩:=zE9 ((cells w h).filter W)
  have e:wd.depth=0:=by rcases h1 with rfl | rfl | rfl | rfl <;> rfl
  show max wd.depth (max (max 0 (max 0 (max (PyData.depthAll (((cells w h).filter W).map zAb)+1) 0))+1) 0)+1<=9
  lia
theorem zEO{f wd fl:D}{dn ud:List D}(h:dn.length<1000):zBN [none,some wd,some fl] (f,dn,ud)=some (.none,(fl,dn++[.tuple [wd,f]],[])):=if_pos h
section
variable {w h:Nat}{W:C->Bool}{c:C}(hw:w<=5)(hh:h<=5)(hc:inR w h c=true){dn ud:List D}(hd:dn.length<1000)
include hw hh hc hd
theorem zOB:∃ n,zCD [none,some (zAb c)] (flD w h W,dn,ud)=some (.int n,(flD w h fun x=>W x || x == c,dn++[.tuple [.str "put",flD w h W]],[])):=by
 have e1:=zKz (W:=W) hc
 have e2:=zKt (W:=W) hw hh hc
 have e3:=zKY (W:=W) hw hh hc
 have e4:=zEO (f:=flD w h W) (wd:=.str "put") (fl:=flD w h fun x=>W x || x == c) (ud:=ud) hd
 unfold zCD
 dsimp only
 rw [e1,Qf,zF1,Qf]
 cases W c with
 | true=>rw [if_pos rfl,Qf,e3,Qf,e4];exact⟨_,rfl⟩
 | false=>rw [if_neg Qr,e2,Qf,e3,Qf,e4];exact⟨_,rfl⟩
theorem zPA:∃ n,zCE [none,some (zAb c)] (flD w h W,dn,ud)=some (.int n,(flD w h fun x=>W x && !(x == c),dn++[.tuple [.str "take",flD w h W]],[])):=by
 have e1:=zKz (W:=W) hc
 have e2:=zKt (W:=W) hw hh hc
 have e3:=zKZ (W:=W) hw hh hc
 have e4:=zEO (f:=flD w h W) (wd:=.str "take") (fl:=flD w h fun x=>W x && !(x == c)) (ud:=ud) hd
 unfold zCE
 dsimp only
 rw [e1,Qf,zF1,Qf]
 cases W c with
 | true=>rw [if_pos rfl,e2,Qf,e3,Qf,e4];exact⟨_,rfl⟩
 | false=>rw [if_neg Qr,Qf,e3,Qf,e4];exact⟨_,rfl⟩
end
section
variable {w h:Nat}{W:C->Bool}(hw:w<=5)(hh:h<=5){dn ud:List D}(hd:dn.length<1000)
include hw hh hd
theorem zNg:zCC [none] (flD w h W,dn,ud)=some (.none,(flD w h fun c=>W (mir (w-1) c),dn++[.tuple [.str "mirror",flD w h W]],[])):=by
 unfold zCC
 dsimp only
 rw [zNh hw hh,Qf,zEO hd]
 rfl
theorem zMl:zCB [none] (flD w h W,dn,ud)=some (.none,(flD h w fun c=>W (swp c),dn++[.tuple [.str "flip",flD w h W]],[])):=by
 unfold zCB
 dsimp only
 rw [zMm hw hh,Qf,zEO hd]
 rfl
end
theorem zPs(ns:List Int)(hn:ns.length<=63)(at':Int){f:D}(F:Fl f):∃ f' wd,Fl f'/\Wd wd/\∀ dn ud:List D,dn.length<1000->zBm [some (scr ns),some (.int at'),none] (f,dn,ud)=some (.none,(f',dn++[.tuple [wd,f]],[])):=by
 obtain⟨w,h,W,w1,w4,h1,h4,rfl⟩:=F
 obtain⟨e1,x0,x1⟩:=zB3 ns hn (at'+1) w (by lia)
 obtain⟨e2,y0,y1⟩:=zB3 ns hn (at'+2) h (by lia)
 obtain⟨e3,q0,q1⟩:=zB3 ns hn at' 6 (by decide)
 have w5:w<=5:=by lia
 have h5:h<=5:=by lia
 generalize dr ns (at'+1) w=x at *
 generalize dr ns (at'+2) h=y at *
 generalize dr ns at' 6=q at *
 have hc:inR w h (x,y)=true:=zCl.mpr ⟨x0,x1,y0,y1⟩
 have go:∀(dn ud:List D) (f' wd:D),(∀ Ω,(yIf (xP (eB (eOp dLt2 (eV 5) (eC (.int 2))))) (zBe (zAp 0 zCD (zAc (eV 4) eNil))) (yIf (xP (eB (eOp dLt2 (eV 5) (eC (.int 4))))) (zBe (zAp 0 zCE (zAc (eV 4) eNil))) (yIf (xP (eB (eOp dEq (eV 5) (eC (.int 4))))) (zBe (zAp 0 zCC eNil)) (zBe (zAp 0 zCB eNil))))) [.dat (scr ns),.dat (.int at'),.no,.dat (flD w h W),.dat (zAb (x,y)),.dat (.int q)] ((flD w h W,dn,ud)::Ω)=some (.nx [.dat (scr ns),.dat (.int at'),.no,.dat (flD w h W),.dat (zAb (x,y)),.dat (.int q)] ((f',dn++[.tuple [wd,flD w h W]],[])::Ω)))->
   zBm [some (scr ns),some (.int at'),none] (flD w h W,dn,ud)=some (.none,(f',dn++[.tuple [wd,flD w h W]],[])):=fun dn ud f' wd k=>by
  refine zMo rfl (Ω:=[]) (ρ:=[.dat (scr ns),.dat (.int at'),.no,.dat (flD w h W),.dat (zAb (x,y)),.dat (.int q)]) ?_
  unfold zGy
  refine wSeq (wSet (zA5 (ds:=[]) (b:=(flD w h W,dn,ud)) rfl rfl rfl)) ?_
  refine wSeq (wSet (rP (oT2 (zAk rfl e1) (zAk rfl e2)))) ?_
  exact wSeq (wSet (rP (zAk rfl e3))) (k [])
 have t2:∀(s:Int) (Ω:List B3),xP (eB (eOp dLt2 (eV 5) (eC (.int s)))) [.dat (scr ns),.dat (.int at'),.no,.dat (flD w h W),.dat (zAb (x,y)),.dat (.int q)] Ω=some (decide (q<s),Ω):=fun s Ω=>rfl
 have t4:∀(Ω:List B3),xP (eB (eOp dEq (eV 5) (eC (.int 4)))) [.dat (scr ns),.dat (.int at'),.no,.dat (flD w h W),.dat (zAb (x,y)),.dat (.int q)] Ω=some (q == 4,Ω):=fun Ω=>rfl
 by_cases c1:q<2
 ·refine⟨flD w h fun z=>W z || z == (x,y),.str "put",⟨w,h,_,w1,w4,h1,h4,rfl⟩,.inl rfl,fun dn ud hd=>go dn ud _ _ fun Ω=>?_⟩
  obtain⟨n,e⟩:=zOB (W:=W) w5 h5 hc (ud:=ud) hd
  exact wIf1 ((t2 2 _).trans (by rw [decide_eq_true c1])) (zCt (zA5 (ds:=[zAb (x,y)]) (b:=(flD w h W,dn,ud)) rfl rfl e))
 have f2:=fun Ω=>(t2 2 Ω).trans (by rw [decide_eq_false c1])
 by_cases c2:q<4
 ·refine⟨flD w h fun z=>W z && !(z == (x,y)),.str "take",⟨w,h,_,w1,w4,h1,h4,rfl⟩,.inr (.inl rfl),fun dn ud hd=>go dn ud _ _ fun Ω=>?_⟩
  obtain⟨n,e⟩:=zPA (W:=W) w5 h5 hc (ud:=ud) hd
  exact wIf0 (f2 _) (wIf1 ((t2 4 _).trans (by rw [decide_eq_true c2])) (zCt (zA5 (ds:=[zAb (x,y)]) (b:=(flD w h W,dn,ud)) rfl rfl e)))
 have f4:=fun Ω=>(t2 4 Ω).trans (by rw [decide_eq_false c2])
 by_cases c3:q=4
 ·refine⟨flD w h fun c=>W (mir (w-1) c),.str "mirror",⟨w,h,_,w1,w4,h1,h4,rfl⟩,.inr (.inr (.inl rfl)),fun dn ud hd=>go dn ud _ _ fun Ω=>?_⟩
  exact wIf0 (f2 _) (wIf0 (f4 _) (wIf1 ((t4 _).trans (by rw [c3];rfl)) (zCt (zA5 (ds:=[]) (b:=(flD w h W,dn,ud)) rfl rfl (zNg w5 h5 hd)))))
 ·refine⟨flD h w fun c=>W (swp c),.str "flip",⟨h,w,_,h1,h4,w1,w4,rfl⟩,.inr (.inr (.inr rfl)),fun dn ud hd=>go dn ud _ _ fun Ω=>?_⟩
  exact wIf0 (f2 _) (wIf0 (f4 _) (wIf0 ((t4 _).trans (by rw [beq_false_of_ne c3])) (zCt (zA5 (ds:=[]) (b:=(flD w h W,dn,ud)) rfl rfl (zMl w5 h5 hd)))))
end My
namespace My
open PySem PySem.SeqAt L2 DL OB SD SL EL DC
structure Rows where
 r:Nat->D
 w:Nat->D
 fl:∀ k,Fl (r k)
 wd:∀ k,Wd (w k)
def Rows.e(R:Rows)(i k:Nat):D:=.tuple [R.w i,R.r k]
def Rows.dn(R:Rows)(k:Nat):List D:=(List.range k).map fun i=>R.e (i+1) i
def Rows.ub(R:Rows)(m b:Nat):List D:=(List.range b).map fun i=>R.e (m-i) (m-i)
section
variable (R:Rows)
theorem zBP(k:Nat):(R.dn k).length=k:=by unfold Rows.dn;rw [Ql,QP]
theorem zDD(m b:Nat):(R.ub m b).length=b:=by unfold Rows.ub;rw [Ql,QP]
theorem zGf(k:Nat):R.dn (k+1)=R.dn k++[R.e (k+1) k]:=by unfold Rows.dn;rw [Jn,Q0];rfl
theorem zKO(m b:Nat):R.ub m (b+1)=R.ub m b++[R.e (m-b) (m-b)]:=by unfold Rows.ub;rw [Jn,Q0];rfl
theorem e_sh(i k:Nat):Sh (R.e i k):=zO5 (R.wd i) (R.fl k)
theorem full{l:List D}{d:D}(h:∀ x∈l++[d],Sh x):dEq (.list (l++[d])) (.list [])=some (.bool false):=by
 unfold dEq
 rw [zO7 h]
 cases l <;> rfl
theorem dn_sh(k:Nat):∀ x∈R.dn k,Sh x:=fun x hx=>by
 obtain⟨i,_,rfl⟩:=QK.mp hx
 exact e_sh R _ _
theorem ub_sh(m b:Nat):∀ x∈R.ub m b,Sh x:=fun x hx=>by
 obtain⟨i,_,rfl⟩:=QK.mp hx
 exact e_sh R _ _
theorem zIT{l o:List D}{wd f g:D}(h:∀ x∈l++[.tuple [wd,g]],Sh x)(ho:o.length<1000):GL f (l++[.tuple [wd,g]]) o=some (wd,g,l,o++[.tuple [wd,f]]):=by
 unfold GL
 rw [full h,Qf,zF1,Qf,if_neg Qr,List.getLast?_concat]
 dsimp only
 rw [if_pos ho,List.dropLast_concat]
theorem zLe{k:Nat}{u:List D}(hu:u.length<1000):zBA [none] (R.r (k+1),R.dn (k+1),u)=some (R.w (k+1),(R.r k,R.dn k,u++[R.e (k+1) (k+1)])):=by
 have s:=dn_sh R (k+1)
 rw [zGf]at s ⊢
 unfold zBA
 dsimp only
 unfold Rows.e
 unfold Rows.e at s
 rw [zIT s hu]
 rfl
theorem zMp{k:Nat}{u:List D}(hu:∀ x∈u,Sh x)(hk:k<1000):zBX [none] (R.r k,R.dn k,u++[R.e (k+1) (k+1)])=some (R.w (k+1),(R.r (k+1),R.dn (k+1),u)):=by
 have s:∀ x∈u++[R.e (k+1) (k+1)],Sh x:=fun x hx=>by
  rcases QD.mp hx with hx | hx
  ·exact hu x hx
  ·rw [QC.mp hx];exact e_sh R _ _
 have l:=zBP R k
 rw [zGf]
 unfold zBX
 dsimp only
 unfold Rows.e
 unfold Rows.e at s
 rw [zIT s (by lia)]
 rfl
theorem zG3(b:B3):zAS [none] b=some (b.1,b):=rfl
theorem zF8{f:D}{k n:Nat}{d u:List D}(h1:d.length=k)(h2:u.length=n):zBa [none] (f,d,u)=some (.tuple [.int (k:Int),.int (n:Int)],(f,d,u)):=by
 rw [<- h1,<- h2];rfl
theorem zF2{m b k:Nat}(h:m-b=k+1)(hb:b<1000):zBA [none] (R.r (m-b),R.dn (m-b),R.ub m b)=some (R.w (m-b),(R.r k,R.dn k,R.ub m (b+1))):=by
 rw [zKO,h]
 exact zLe R (by rw [zDD];exact hb)
theorem zIH{m b k:Nat}(h:m-b=k+1)(hk:k<1000):zBX [none] (R.r k,R.dn k,R.ub m (b+1))=some (R.w (k+1),(R.r (k+1),R.dn (k+1),R.ub m b)):=by
 rw [zKO,h]
 exact zMp R (ub_sh R m b) hk
def zAu(R:Rows)(m:Nat):List D:=(List.range (m+1)).map R.r
theorem zFI(m:Nat):(zAu R m).length=m+1:=by unfold zAu;rw [Ql,QP]
theorem zFG{m k:Nat}(h:k<=m):dIx (.list (zAu R m)) (.int (k:Int))=some (R.r k):=by
 show L2.atI (zAu R m) (k:Int)=_
 refine L2.atI_nat ?_
 unfold zAu
 rw [QB,YZ (by lia)]
 rfl
def zBd(R:Rows)(m b:Nat):List D:=(List.range b).map fun i=>R.w (m-i)
theorem zK0(m b:Nat):(zBd R m b).length=b:=by unfold zBd;rw [Ql,QP]
theorem zPQ(m b:Nat):zBd R m (b+1)=zBd R m b++[R.w (m-b)]:=by unfold zBd;rw [Jn,Q0];rfl
theorem zPP{m b k:Nat}(h:k<b):dIx (.list (zBd R m b)) (.int (k:Int))=some (R.w (m-k)):=by
 show L2.atI (zBd R m b) (k:Int)=_
 refine L2.atI_nat ?_
 unfold zBd
 rw [QB,YZ h]
 rfl
theorem zGZ(k:Nat):dNe (R.r k) (R.r k)=some (.bool false):=zFv (R.fl k).sh.shaped
theorem zJB(k:Nat):dNe (R.w k) (R.w k)=some (.bool false):=zFv (R.wd k).sh.shaped
theorem zFu(i j:Int):dNe (.tuple [.int i,.int j]) (.tuple [.int i,.int j])=some (.bool false):=zFv (zHy i j).shaped
omit R in
theorem zMI{gr:Rho->Option (List D)}{ρ:Rho}{m:Nat}(h:gr ρ=some [.int ((m:Int)-1),.int (-1),.int (-1)])(m8:m<=100):zE3 gr ρ=some ((List.range m).map fun n=>.int ((m:Int)-1-(n:Int))):=by
 unfold zE3
 rw [h,Qf]
 show(if(-1:Int)=-1/\-1000<=(m:Int)-1/\(m:Int)-1<1000/\-1000<=(-1:Int)/\(-1:Int)<1000 then some ((List.range ((m:Int)-1 - -1).toNat).map fun(k:Nat)=>PyData.int ((m:Int)-1-(k:Int)))else none)=_
 rw [if_pos ⟨rfl,by lia,by lia,by lia,by lia⟩,show((m:Int)-1 - -1).toNat=m by lia]
omit R in
theorem it_up{gr:Rho->Option (List D)}{ρ:Rho}{m:Nat}(h:gr ρ=some [.int 1,.int ((m:Int)+1)])(m8:m<=100):DC.iRng2 gr ρ=some ((List.range m).map fun n=>.int ((n:Int)+1)):=by
 unfold DC.iRng2
 rw [h,Qf]
 show(if -4611686018427387904<=(1:Int)/\(1:Int)<4611686018427387904/\-4611686018427387904<=(m:Int)+1/\(m:Int)+1<4611686018427387904 then some ((List.range ((m:Int)+1-1).toNat).map fun(k:Nat)=>PyData.int (1+(k:Int)))else none)=_
 rw [if_pos ⟨by lia,by lia,by lia,by lia⟩,show((m:Int)+1-1).toNat=m by lia]
 congr 2
 funext k
 rw [Int.add_comm]
theorem zMu{m:Nat}(m0:1<=m)(m8:m<=100):zDK [none,some (.list (zAu R m))] (R.r m,R.dn m,[])=some (.bool true,(R.r m,R.dn m,[])):=by
 refine zID (Ω:=[]) rfl ?_
 unfold zGx
 rw [show zBJ 5 [none,some (.list (zAu R m))]=[.no,.dat (.list (zAu R m)),.no,.no,.no]from rfl]
 have ln:dLen [.list (zAu R m)]=some (.int ((m:Int)+1)):=by
  rw [zJk,zFI];rfl
 refine wSeq (wSet (rP (a:=.int (m:Int)) (oo (zAk rfl ln) rfl (by rw [zED];congr 2;lia)))) ?_
 refine wSeq (wOwn (ds:=[]) rfl (by decide)) ?_
 refine zC0 (fun n=>.int ((m:Int)-1-(n:Int))) (fun n ρ Ω=>∃ s4,ρ=[.no,.dat (.list (zAu R m)),.dat (.int (m:Int)),.own (zBd R m n),s4]/\Ω=[(R.r (m-n),R.dn (m-n),R.ub m n)]) m ?_ ⟨.no,rfl,rfl⟩ ?_ ?_
 ·exact zMI (m:=m) rfl m8
 ·rintro n ρ Ω hn ⟨s4,rfl,rfl⟩
  obtain⟨k,hk⟩:∃ k,m-n=k+1:=⟨m-n-1,by lia⟩
  have ek:(m:Int)-1-(n:Int)=(k:Int):=by lia
  have b1:=zF2 R hk (by lia)
  have k1:m-(n+1)=k:=by lia
  rw [ek]
  refine⟨[.no,.dat (.list (zAu R m)),.dat (.int (m:Int)),.own (zBd R m (n+1)),.dat (.int (k:Int))],[(R.r (m-(n+1)),R.dn (m-(n+1)),R.ub m (n+1))],?_,⟨_,rfl,rfl⟩⟩
  rw [k1,zPQ]
  refine wSeq (wApp (ds:=zBd R m n) rfl (zA5 (ds:=[]) rfl rfl b1) (by rw [zK0];lia)) ?_
  refine zCu (rOr0 (rB (rOp (zA5 (ds:=[]) rfl rfl (zG3 _)) (rP (oo rfl rfl (zFG R (by lia)))) (zGZ R k))) (rB (rOp (zA5 (ds:=[]) rfl rfl (zF8 (k:=k) (n:=n+1) (zBP R k) (zDD R m (n+1)))) (rP (a:=.tuple [.int (k:Int),.int ((n+1:Nat):Int)]) (oT2 rfl (oo rfl rfl ?_))) (zFu _ _))))
  rw [zED];congr 2;lia
 ·rintro ρ Ω ⟨s4,rfl,rfl⟩
  show ySeq _ _ [.no,.dat (.list (zAu R m)),.dat (.int (m:Int)),.dat (.list (zBd R m m)),s4] _=_
  rw [Nat.sub_self]
  refine zC0 (fun n=>.int ((n:Int)+1)) (fun n ρ Ω=>∃ s4,ρ=[.no,.dat (.list (zAu R m)),.dat (.int (m:Int)),.dat (.list (zBd R m m)),s4]/\Ω=[(R.r n,R.dn n,R.ub m (m-n))]) m ?_ ⟨s4,rfl,by rw [Nat.sub_zero]⟩ ?_ ?_
  ·exact it_up (m:=m) rfl m8
  ·rintro n ρ Ω hn ⟨s4,rfl,rfl⟩
   obtain⟨b,hb⟩:∃ b,m-n=b+1:=⟨m-n-1,by lia⟩
   have b1:m-(n+1)=b:=by lia
   have f1:=zIH R (m:=m) (b:=b) (k:=n) (by lia) (by lia)
   refine⟨[.no,.dat (.list (zAu R m)),.dat (.int (m:Int)),.dat (.list (zBd R m m)),.dat (.int ((n:Int)+1))],[(R.r (n+1),R.dn (n+1),R.ub m (m-(n+1)))],?_,⟨_,rfl,rfl⟩⟩
   rw [hb,b1]
   have wa:=zPP R (m:=m) (b:=m) (k:=b) (by lia)
   rw [show m-b=n+1 by lia]at wa
   have ra:=zFG R (m:=m) (k:=n+1) (by lia)
   have e1:dSub (.int (m:Int)) (.int ((n:Int)+1))=some (.int (b:Int)):=by rw [zED];congr 2;lia
   refine wSeq (zCu (rOr0 (rB (rOp (zA5 (ds:=[]) rfl rfl f1) (rP (oo rfl (oo rfl rfl e1) wa)) (zJB R _))) (rB (rOp (zA5 (ds:=[]) rfl rfl (zG3 _)) (rP (oo rfl rfl ra)) (zGZ R _))))) ?_
   exact zCu (rB (rOp (zA5 (ds:=[]) rfl rfl (zF8 (k:=n+1) (n:=b) (zBP R (n+1)) (zDD R m b))) (rP (oT2 rfl (oo rfl rfl e1))) (zFu _ _)))
  ·rintro ρ Ω ⟨s4,rfl,rfl⟩
   rw [Nat.sub_self]
   refine wRet (rP (oo (x:=.list []) ?_ rfl rfl))
   refine zBS (xs:=zBd R m m) (fun d=>d) (fun _=>false) (fun d=>d) (fun ρ=>∃ s0,ρ=[s0]) (zB8 rfl (by show some _=some _;rw [List.map_id'])) (by rw [zK0];lia) ⟨_,rfl⟩ ?_ (by rw [List.filter_eq_nil_iff.mpr (fun _ _=>Qr)];rfl)
   rintro d hd ρ ⟨s0,rfl⟩
   refine⟨[.dat d],rfl,⟨_,rfl⟩,?_,fun z=>by cases z⟩
   obtain⟨i,_,rfl⟩:=QK.mp hd
   rcases R.wd (m-i)with e | e | e | e <;> rw [e] <;> decide +kernel
end
end My
namespace My
open PySem PySem.SeqAt L2 DL OB SD SL EL DC
theorem zHw{α:Type}{a:α}:∀{l:List α}{j:Nat},l[j]?=some a->l.set j a=l
 | [],_,h=>by cases h
 | x::l,0,h=>by cases h;rfl
 | x::l,j+1,h=>by
  have h:l[j]?=some a:=h
  rw [List.set_cons_succ,zHw h]
section
variable {ρ:Rho}
theorem rNow{Ω:List B3}{j:Nat}{f:D}{d u:List D}(h:Ω[j]?=some (f,d,u)):zAp j zAS eNil ρ Ω=some (f,Ω):=by
 refine(zA5 (ds:=[]) rfl h (zG3 (f,d,u))).trans ?_
 rw [zHw h]
theorem rCnt{Ω:List B3}{j k n:Nat}{f:D}{d u:List D}(h:Ω[j]?=some (f,d,u))(h1:d.length=k)(h2:u.length=n):zAp j zBa eNil ρ Ω=some (.tuple [.int (k:Int),.int (n:Int)],Ω):=by
 refine(zA5 (ds:=[]) rfl h (zF8 h1 h2)).trans ?_
 rw [zHw h]
theorem qDat{ga:Rho->Option D}{gr:Rho->Option (List (Option D))}{x:D}{xs:List (Option D)}(h:ga ρ=some x)(h2:gr ρ=some xs):oDat ga gr ρ=some (some x::xs):=by
 unfold oDat
 rw [h,Qf,h2]
 rfl
theorem qObj{gr:Rho->Option (List (Option D))}{xs:List (Option D)}(h2:gr ρ=some xs):oObj gr ρ=some (none::xs):=by
 unfold oObj
 rw [h2]
 rfl
end
def nx(ns:List Int)(at':Int)(f:D):D × D:=match zBm [some (scr ns),some (.int at'),none] (f,[],[])with
 | some (_,(f',[.tuple [wd,_]],_))=>(f',wd)
 | _=>(f,.str "put")
theorem zG5(ns:List Int)(hn:ns.length<=63)(at':Int){f:D}(F:Fl f):Fl (nx ns at' f).1/\Wd (nx ns at' f).2/\∀ dn ud:List D,dn.length<1000->zBm [some (scr ns),some (.int at'),none] (f,dn,ud)=some (.none,((nx ns at' f).1,dn++[.tuple [(nx ns at' f).2,f]],[])):=by
 obtain⟨f',wd,h1,h2,h3⟩:=zPs ns hn at' F
 have e:nx ns at' f=(f',wd):=by
  unfold nx
  rw [h3 [] [] (by decide)]
  rfl
 rw [e]
 exact⟨h1,h2,h3⟩
def seqR(st:Nat->D->D × D)(f:D):Nat->D × D
 | 0=>(f,.str "put")
 | k+1=>st k (seqR st f k).1
theorem zEA{st:Nat->D->D × D}{f:D}(h0:Fl f)(hs:∀ k g,Fl g->Fl (st k g).1/\Wd (st k g).2):∀ k,Fl (seqR st f k).1/\Wd (seqR st f k).2
 | 0=>⟨h0,.inl rfl⟩
 | k+1=>hs k _ (zEA h0 hs k).1
def mkR(st:Nat->D->D × D)(f:D)(h0:Fl f)(hs:∀ k g,Fl g->Fl (st k g).1/\Wd (st k g).2):Rows:=
 ⟨fun k=>(seqR st f k).1,fun k=>(seqR st f k).2,fun k=>(zEA h0 hs k).1,fun k=>(zEA h0 hs k).2⟩
theorem zKr{st st':Nat->D->D × D}{f:D}{n:Nat}(h:∀ k,k<n->st k=st' k):∀ k,k<=n->seqR st f k=seqR st' f k
 | 0,_=>rfl
 | k+1,hk=>by
  show st k (seqR st f k).1=st' k (seqR st' f k).1
  rw [zKr h k (by lia),h k (by lia)]
theorem zOH{gr:Rho->Option (List D)}{ρ:Rho}(h:gr ρ=some [.int 3]):DC.iRng1 gr ρ=some ((List.range 3).map fun(k:Nat)=>.int (k:Int)):=zCP (n:=3) h (by decide)
theorem zMv{ns:List Int}{R:Rows}{k0:Nat}(k8:k0<=100)(hs:∀(n:Nat) (u:List D),n<3->zBm [some (scr ns),some (.int (200+4 * (n:Int))),none] (R.r (k0+n),R.dn (k0+n),u)=some (.none,(R.r (k0+n+1),R.dn (k0+n+1),[])))(u:List D):
  zCA [some (scr ns),none] (R.r k0,R.dn k0,u)=some (.tuple [R.r (k0+3),.tuple [.int ((k0+3:Nat):Int),.int ((0:Nat):Int)]],(R.r (k0+3),R.dn (k0+3),[])):=by
 refine zID (Ω:=[]) rfl ?_
 unfold zGw
 rw [show zBJ 3 [some (scr ns),none]=[.dat (scr ns),.no,.no]from rfl]
 refine zC0 (fun n=>.int (n:Int)) (fun n ρ Ω=>∃ s2 u,ρ=[.dat (scr ns),.no,s2]/\Ω=[(R.r (k0+n),R.dn (k0+n),u)]/\(n=0 ∨ u=[])) 3 (zOH rfl) ⟨_,u,rfl,rfl,.inl rfl⟩ ?_ ?_
 ·rintro n ρ Ω hn ⟨s2,u,rfl,rfl,_⟩
  have m:zAt (.int 4) (.int (n:Int))=some (.int (4 * (n:Int))):=zBi (okS (by decide) (by decide))
  exact⟨_,_,zCt (rFn (qDat rfl (qDat (oo rfl (oo rfl rfl m) rfl) (qObj rfl))) rfl (hs n u hn)),_,[],rfl,rfl,.inr rfl⟩
 ·rintro ρ Ω ⟨s2,u,rfl,rfl,h⟩
  rcases h with h | rfl
  ·cases h
  exact wRet (zFE (rNow rfl) (rCnt rfl (zBP R (k0+3)) (YU)))
section
variable {ns:List Int}{R R':Rows}{m bk k0:Nat}{x y:Int}(m2:2<=m)(m8:m<=8)(b1:1<=bk)(bm:bk<=m)(hk:k0=m-bk)
theorem zFw{R:Rows}{k:Nat}(i j:Int):dNe (.tuple [R.r k,.tuple [.int i,.int j]]) (.tuple [R.r k,.tuple [.int i,.int j]])=some (.bool false):=by
 refine zFv (zO9 fun d hd=>?_)
 rcases Qh.mp hd with rfl | hd
 ·exact(R.fl k).sh
 ·rw [QC.mp hd];exact zHy i j
def fr(ns:List Int)(s2 s3 s4 s5 s6 s7 s10:Sl):Rho:=[.dat (scr ns),.no,s2,s3,s4,s5,s6,s7,.no,.no,s10]
include m2 m8 b1 bm hk in
theorem zM0(hR:∀(k:Nat) (u:List D),k<8->zBm [some (scr ns),some (.int (70+4 * (k:Int))),none] (R.r k,R.dn k,u)=some (.none,(R.r (k+1),R.dn (k+1),[])))
  (go:∀ u,zCA [some (scr ns),none] (R.r k0,R.dn k0,u)=some (.tuple [R'.r (k0+3),.tuple [.int ((k0+3:Nat):Int),.int ((0:Nat):Int)]],(R'.r (k0+3),R'.dn (k0+3),[]))) (r0:R'.r 0=R.r 0)
  (e0:zC3 [scr ns,.int 0,.int 4]=some (R.r 0)) (e60:zAX [scr ns,.int 60,.int 7]=some (.int x)) (hm:2+x=(m:Int)) (e61:zAX [scr ns,.int 61,.int (m:Int)]=some (.int y)) (hb:1+y=(bk:Int)):Glaw [scr ns]=some (.bool true):=by
 have fin:∀{Ω:List B3},glaw (zAH 11 [scr ns]) []=some (.rt (.bool true) Ω)->Glaw [scr ns]=some (.bool true):=fun h=>by
  unfold Glaw fnL
  rw [h]
 have kI:(m:Int)-(bk:Int)=(k0:Int):=by lia
 have kb:k0+bk=m:=by lia
 have sb:dSub (.int (m:Int)) (.int (bk:Int))=some (.int (k0:Int)):=by rw [zED,kI]
 refine fin (Ω:=[(R'.r 0,R'.dn 0,R'.ub (k0+3) (k0+3)),(R'.r 0,R'.dn 0,R'.ub (k0+3) (k0+3)),(R.r m,R.dn m,[])]) ?_
 clear fin
 unfold glaw
 rw [show zAH 11 [scr ns]=fr ns .no .no .no .no .no .no .no from rfl]
 refine wSeq (ρ':=fr ns .no .no .no .no .no .no .no) (Ω1:=[(R.r 0,[],[])]) ?_ ?_
 ·unfold yNew
  rw [zAG (zAk rfl e0) rfl]
  rfl
 refine wSeq (ρ':=fr ns (.own (zAu R 0)) .no .no .no .no .no .no) (wOwn (ds:=zAu R 0) (zHl (d:=R.r 0) (ds:=[]) (rNow rfl) rfl) (by rw [zFI];lia)) ?_
 refine zC0 (fun n=>.int (n:Int)) (fun n ρ Ω=>∃ s3,ρ=fr ns (.own (zAu R n)) s3 .no .no .no .no .no/\Ω=[(R.r n,R.dn n,[])]) m ?_ ⟨.no,rfl,rfl⟩ ?_ ?_
 ·exact zCP (n:=m) (zAG (oo rfl (zAk rfl e60) (by rw [<- hm];rfl)) rfl) (by lia)
 ·rintro n ρ Ω hn ⟨s3,rfl,rfl⟩
  have q:zAt (.int 4) (.int (n:Int))=some (.int (4 * (n:Int))):=zBi (okS (by decide) (by decide))
  refine⟨fr ns (.own (zAu R (n+1))) (.dat (.int (n:Int))) .no .no .no .no .no,_,?_,⟨_,rfl,rfl⟩⟩
  rw [show zAu R (n+1)=zAu R n++[R.r (n+1)] by unfold zAu;rw [Jn (n:=n+1),Q0];rfl]
  exact wSeq (zCt (rFn (qDat rfl (qDat (oo rfl (oo rfl rfl q) rfl) (qObj rfl))) rfl (hR n [] (by lia)))) (wApp (ds:=zAu R n) rfl (rNow rfl) (by rw [zFI];lia))
 rintro ρ Ω ⟨s3,rfl,rfl⟩
 show ySeq _ _ (fr ns (.dat (.list (zAu R m))) s3 .no .no .no .no .no) _=_
 have ln:dLen [.list (zAu R m)]=some (.int ((m:Int)+1)):=by
  rw [zJk,zFI];rfl
 refine wSeq (ρ':=fr ns (.dat (.list (zAu R m))) s3 (.dat (.int (m:Int))) .no .no .no .no) (wSet (rP (a:=.int (m:Int)) (oo (zAk rfl ln) rfl (by rw [zED];congr 2;lia)))) ?_
 refine wSeq (zCu (rOr0 (rB (rOp (rCnt rfl (zBP R m) (YU)) (rP (oT2 rfl rfl)) (zFu _ _))) (rNot (k:=true) (rB (rFn (qObj (qDat rfl rfl)) rfl (zMu R (by lia) (by lia))))))) ?_
 refine wSeq (ρ':=fr ns (.dat (.list (zAu R m))) s3 (.dat (.int (m:Int))) (.dat (.int (bk:Int))) .no .no .no) (wSet (rP (a:=.int (bk:Int)) (oo rfl (zAk rfl e61) (by rw [<- hb];rfl)))) ?_
 refine zC0 (fun n=>.int (n:Int)) (fun n ρ Ω=>∃ s6,ρ=fr ns (.dat (.list (zAu R m))) s3 (.dat (.int (m:Int))) (.dat (.int (bk:Int))) s6 .no .no/\Ω=[(R.r (m-n),R.dn (m-n),R.ub m n)]) bk (zCP (n:=bk) rfl (by lia)) ⟨.no,rfl,rfl⟩ ?_ ?_
 ·rintro n ρ Ω hn ⟨s6,rfl,rfl⟩
  obtain⟨k,hk⟩:∃ k,m-n=k+1:=⟨m-n-1,by lia⟩
  have b1:=zF2 R hk (by lia)
  refine⟨_,_,zCt (zA5 (ds:=[]) rfl rfl b1),_,rfl,?_⟩
  rw [show m-(n+1)=k by lia]
  rfl
 rintro ρ Ω ⟨s6,rfl,rfl⟩
 rw [<- hk]
 have hr:=zFG R (m:=m) (k:=k0) (by lia)
 refine wSeq (ρ':=fr ns (.dat (.list (zAu R m))) s3 (.dat (.int (m:Int))) (.dat (.int (bk:Int))) s6 (.dat (.tuple [R.r k0,.tuple [.int (k0:Int),.int (bk:Int)]])) .no) (wSet (zFE (rNow rfl) (rCnt rfl (zBP R k0) (zDD R m bk)))) ?_
 refine wSeq (ρ':=fr ns (.dat (.list (zAu R m))) s3 (.dat (.int (m:Int))) (.dat (.int (bk:Int))) s6 (.dat (.tuple [R.r k0,.tuple [.int (k0:Int),.int (bk:Int)]])) .no) (Ω1:=[(R.r k0,R.dn k0,R.ub m bk),(R.r k0,R.dn k0,R.ub m bk)]) rfl ?_
 refine wSeq (ρ':=fr ns (.dat (.list (zAu R m))) s3 (.dat (.int (m:Int))) (.dat (.int (bk:Int))) s6 (.dat (.tuple [R.r k0,.tuple [.int (k0:Int),.int (bk:Int)]])) .no) (Ω1:=[(R.r k0,R.dn k0,R.ub m bk),(R.r k0,R.dn k0,R.ub m bk),(R.r k0,R.dn k0,R.ub m bk)]) rfl ?_
 refine wSeq (zCu (rP (oB (oo rfl (oT2 (oo rfl (oo rfl rfl sb) hr) (oT2 (oo rfl rfl sb) rfl)) (zFw _ _))))) ?_
 refine wSeq (ρ':=fr ns (.dat (.list (zAu R m))) s3 (.dat (.int (m:Int))) (.dat (.int (bk:Int))) s6 (.dat (.tuple [R.r k0,.tuple [.int (k0:Int),.int (bk:Int)]])) (.dat (.tuple [R'.r (k0+3),.tuple [.int ((k0+3:Nat):Int),.int ((0:Nat):Int)]]))) (Ω1:=[(R'.r (k0+3),R'.dn (k0+3),[]),(R.r k0,R.dn k0,R.ub m bk),(R.r k0,R.dn k0,R.ub m bk)])
  (wSet (rFn (qDat rfl (qObj rfl)) rfl (go _))) ?_
 refine wSeq (zCu (rOr0 (rP (oB (oo (oo rfl rfl rfl) (oT2 (oo (oo rfl rfl sb) rfl rfl) rfl) (zFu _ _)))) (rB (rOp (zFE (rNow rfl) (rCnt rfl (zBP R k0) (zDD R m bk))) (rP rfl) (zFw _ _))))) ?_
 refine wSeq (Ω1:=[(R'.r (k0+3),R'.dn (k0+3),[]),(R'.r (k0+3),R'.dn (k0+3),[]),(R.r k0,R.dn k0,R.ub m bk)]) (zCu (rOr0 (rB (rOp (rFn (qDat rfl (qObj rfl)) rfl (go _)) (rP rfl) (zFw _ _))) (rB (rOp (zFE (rNow rfl) (rCnt rfl (zBP R k0) (zDD R m bk))) (rP rfl) (zFw _ _))))) ?_
 refine zC0 (fun n=>.int (n:Int)) (fun n ρ Ω=>∃ s6,ρ=fr ns (.dat (.list (zAu R m))) s3 (.dat (.int (m:Int))) (.dat (.int (bk:Int))) s6 (.dat (.tuple [R.r k0,.tuple [.int (k0:Int),.int (bk:Int)]])) (.dat (.tuple [R'.r (k0+3),.tuple [.int ((k0+3:Nat):Int),.int ((0:Nat):Int)]])) /\
  Ω=[(R'.r (k0+3),R'.dn (k0+3),[]),(R'.r (k0+3),R'.dn (k0+3),[]),(R.r (k0+n),R.dn (k0+n),R.ub m (bk-n))]) bk (zCP (n:=bk) rfl (by lia)) ⟨s6,rfl,rfl⟩ ?_ ?_
 ·rintro n ρ Ω hn ⟨s6,rfl,rfl⟩
  obtain⟨b,hb⟩:∃ b,bk-n=b+1:=⟨bk-n-1,by lia⟩
  have f1:=zIH R (m:=m) (b:=b) (k:=k0+n) (by lia) (by lia)
  rw [hb]
  refine⟨_,_,zCt (zA5 (ds:=[]) rfl rfl f1),_,rfl,?_⟩
  rw [show bk-(n+1)=b by lia]
  rfl
 rintro ρ Ω ⟨s6',rfl,rfl⟩
 rw [Nat.sub_self,kb]
 refine zC0 (fun n=>.int (n:Int)) (fun n ρ Ω=>∃ s6,ρ=fr ns (.dat (.list (zAu R m))) s3 (.dat (.int (m:Int))) (.dat (.int (bk:Int))) s6 (.dat (.tuple [R.r k0,.tuple [.int (k0:Int),.int (bk:Int)]])) (.dat (.tuple [R'.r (k0+3),.tuple [.int ((k0+3:Nat):Int),.int ((0:Nat):Int)]])) /\
  Ω=[(R'.r (k0+3-n),R'.dn (k0+3-n),R'.ub (k0+3) n),(R'.r (k0+3-n),R'.dn (k0+3-n),R'.ub (k0+3) n),(R.r m,R.dn m,[])]) (k0+3) (zCP (n:=k0+3) (zAG (oo (oo rfl rfl sb) rfl rfl) rfl) (by lia)) ⟨s6',rfl,rfl⟩ ?_ ?_
 ·rintro n ρ Ω hn ⟨s6,rfl,rfl⟩
  obtain⟨k,hk⟩:∃ k,k0+3-n=k+1:=⟨k0+3-n-1,by lia⟩
  have b1:=zF2 R' hk (by lia)
  have kk:k0+3-(n+1)=k:=by lia
  refine⟨_,_,zCu (rOr0 (rB (rOp (zA5 (ds:=[]) rfl rfl b1) (zA5 (ds:=[]) rfl rfl b1) (zJB R' _))) (rB (rOp (rNow rfl) (rNow rfl) (zGZ R' k)))),_,rfl,?_⟩
  rw [kk]
  rfl
 rintro ρ Ω ⟨s6'',rfl,rfl⟩
 rw [Nat.sub_self]
 have r1:dIx (.list (zAu R m)) (.int (-1))=some (R.r m):=by
  show L2.atI (zAu R m) (-1)=_
  unfold zAu
  rw [Jn,Q0]
  exact L2.atI_last _ _
 have r2:=zFG R (m:=m) (k:=0) (by lia)
 have ef:=fun k=>zIu (R.fl k).sh.shaped
 refine wRet (rAnd (rOp (rNow rfl) (rP (oo rfl rfl r1)) (ef m)) (rAnd (rOp (rNow rfl) (rP (oo rfl rfl r2)) (by rw [r0];exact ef 0)) (rOp (rCnt rfl (zBP R m) (YU)) (rP (oT2 rfl rfl)) (zIu (zHy _ _).shaped))))
end
theorem main:∀ ns:List Int,ns.length<=63->Glaw [.list (ns.map PyData.int)]=some (.bool true):=fun ns hn=>by
 obtain⟨w,h,W,e0,w1,w4,h1,h4⟩:=zMn ns hn 0 4 (by decide) (by decide)
 have F0:Fl (flD w h W):=⟨w,h,W,w1,w4,h1,h4,rfl⟩
 obtain⟨e60,x0,x1⟩:=zB3 ns hn 60 7 (by decide)
 obtain⟨m,hm,m2,m8⟩:∃ m:Nat,2+dr ns 60 7=(m:Int)/\2<=m/\m<=8:=⟨(2+dr ns 60 7).toNat,by lia,by lia,by lia⟩
 obtain⟨e61,y0,y1⟩:=zB3 ns hn 61 m (by lia)
 obtain⟨bk,hb,b1,bm⟩:∃ b:Nat,1+dr ns 61 m=(b:Int)/\1<=b/\b<=m:=⟨(1+dr ns 61 m).toNat,by lia,by lia,by lia⟩
 obtain⟨k0,hk⟩:∃ k0,k0=m-bk:=⟨_,rfl⟩
 have ok:∀(at':Int) (g:D),Fl g->Fl (nx ns at' g).1/\Wd (nx ns at' g).2:=fun at' g F=>⟨(zG5 ns hn at' F).1,(zG5 ns hn at' F).2.1⟩
 obtain⟨st,hst⟩:∃ st:Nat->D->D × D,st=fun(k:Nat) (g:D)=>nx ns (70+4 * (k:Int)) g:=⟨_,rfl⟩
 obtain⟨st',hst'⟩:∃ st:Nat->D->D × D,st=fun(k:Nat) (g:D)=>if k<k0 then nx ns (70+4 * (k:Int)) g else nx ns (200+4 * ((k:Int)-k0)) g:=⟨_,rfl⟩
 have s1:∀ k g,Fl g->Fl (st k g).1/\Wd (st k g).2:=fun k g F=>by rw [hst];exact ok _ g F
 have s2:∀ k g,Fl g->Fl (st' k g).1/\Wd (st' k g).2:=fun k g F=>by
  rw [hst']
  dsimp only
  split
  ·exact ok _ g F
  ·exact ok _ g F
 have sm:=zKr (st:=st) (st':=st') (f:=flD w h W) (n:=k0) fun k hk=>by
  funext g
  rw [hst,hst']
  dsimp only
  rw [if_pos hk]
 have step:∀(R:Rows) (at':Int) (k:Nat) (u:List D),k<900->nx ns at' (R.r k)=(R.r (k+1),R.w (k+1))->zBm [some (scr ns),some (.int at'),none] (R.r k,R.dn k,u)=some (.none,(R.r (k+1),R.dn (k+1),[])):=fun R at' k u hk e=>by
  have l:=zBP R k
  have q:=(zG5 ns hn at' (R.fl k)).2.2 (R.dn k) u (by lia)
  rw [e]at q
  rw [q,zGf]
  rfl
 have same:∀ i,i<=k0->(mkR st' _ F0 s2).r i=(mkR st _ F0 s1).r i/\(mkR st' _ F0 s2).w i=(mkR st _ F0 s1).w i:=fun i hi=>by
  show(seqR st' _ i).1=(seqR st _ i).1/\(seqR st' _ i).2=(seqR st _ i).2
  rw [sm i hi]
  exact⟨rfl,rfl⟩
 have dns:(mkR st' _ F0 s2).dn k0=(mkR st _ F0 s1).dn k0:=by
  unfold Rows.dn Rows.e
  refine List.map_congr_left fun i hi=>?_
  have:=QO.mp hi
  rw [(same (i+1) (by lia)).2,(same i (by lia)).1]
 refine zM0 (R:=mkR st _ F0 s1) (R':=mkR st' _ F0 s2) m2 m8 b1 bm hk (fun k u hk=>?_) (fun u=>?_) rfl e0 e60 hm e61 hb
 ·refine step _ _ k u (by lia) ?_
  show _=((seqR st _ (k+1)).1,(seqR st _ (k+1)).2)
  show nx ns _ (seqR st _ k).1=st k (seqR st _ k).1
  rw [hst]
 ·rw [<- dns,<- (same k0 (Qi _)).1]
  refine zMv (by lia) (fun n u hn'=>?_) u
  refine step _ _ (k0+n) u (by lia) ?_
  show nx ns _ (seqR st' _ (k0+n)).1=st' (k0+n) (seqR st' _ (k0+n)).1
  have e:st' (k0+n)=fun g=>nx ns (200+4 * (n:Int)) g:=by
   rw [hst']
   funext g
   dsimp only
   rw [if_neg (by lia),show((k0+n:Nat):Int)-(k0:Int)=(n:Int) by lia]
  rw [e]
end My
namespace My
open PySem PySem.Spec PySem.SeqAt PyProof.Rows L2 CL DL OB SD ZL SL EL DC
theorem us1{p:List Value->Prop}{us:List Value}(h:us.length=1)(q:∀ a,p [a]):p us:=by
 rcases us with _ | ⟨a,_ | ⟨b,r⟩⟩
 ·cases h
 ·exact q a
 ·simp at h
theorem us2{p:List Value->Prop}{us:List Value}(h:us.length=2)(q:∀ a b,p [a,b]):p us:=by
 rcases us with _ | ⟨a,r⟩
 ·cases h
 ·exact us1 (p:=fun r=>p (a::r)) (us:=r) (by simpa using h) fun b=>q a b
theorem us3{p:List Value->Prop}{us:List Value}(h:us.length=3)(q:∀ a b c,p [a,b,c]):p us:=by
 rcases us with _ | ⟨a,r⟩
 ·cases h
 ·exact us2 (p:=fun r=>p (a::r)) (us:=r) (by simpa using h) fun b c=>q a b c
theorem us4{p:List Value->Prop}{us:List Value}(h:us.length=4)(q:∀ a b c d,p [a,b,c,d]):p us:=by
 rcases us with _ | ⟨a,r⟩
 ·cases h
 ·exact us3 (p:=fun r=>p (a::r)) (us:=r) (by simpa using h) fun b c d=>q a b c d
theorem all_mk(main:∀ ns:List Int,ns.length<=63->Glaw [.list (ns.map PyData.int)]=some (.bool true)){l:PySem.W.OpenLaw}{w:World}{K:PySem.W.Frag}{mg:Str->Option Value}{fa:Addr}(hfa:mg "law"=some (.ref fa))(T:∃ a d,Txt K mg a d)(BM:∃ C b e,TxB K mg C/\TxM K C b e):
  ∃ fd:FuncData,(∀(s:Shared) (v:Value),BindsTo s fd ⟨[v],[]⟩ [("_law_script",v)])/\∀ base:Heap,K.In base->base.Ns mainGlobals mg->FnOk l.prog w K mg base CX0 10 fa fd ["_law_script"] (zFT K Glaw):=by
 obtain⟨a,d,T⟩:=T
 obtain⟨C,b,ee,B,M⟩:=BM
 have e:=T.F_qq.m.symm.trans hfa
 cases e
 obtain⟨oc,od,kV,doc,pm,an,cdv,ct,osl,e,_⟩:=T.F_qq.F.ex
 refine⟨d 26,fun s v=>by rw [e];exact .of_eq rfl,fun base _ _=>?_⟩
 have G_qk:=ok_qk (P:=l.prog) (w:=w) (base:=base) T
 have G_qe:=ok_qe (P:=l.prog) (w:=w) (base:=base) T
 have G_qo:=ok_qo (P:=l.prog) (w:=w) (base:=base) T
 have G_qh:=ok_qh (P:=l.prog) (w:=w) (base:=base) T
 have G_qn:=ok_qn (P:=l.prog) (w:=w) (base:=base) T
 have G_ql:=ok_ql (P:=l.prog) (w:=w) (base:=base) T
 have G_q3:=ok_q3 (P:=l.prog) (w:=w) (base:=base) T
 have G_qa:=ok_qa (P:=l.prog) (w:=w) (base:=base) T
 have G_q6:=ok_q6 (P:=l.prog) (w:=w) (base:=base) T
 have G_qg:=ok_qg (P:=l.prog) (w:=w) (base:=base) T
 have G_q1:=ok_q1 (P:=l.prog) (w:=w) (base:=base) T G_qk
 have G_q8:=ok_q8 (P:=l.prog) (w:=w) (base:=base) T G_qe
 have G_qp:=ok_qp (P:=l.prog) (w:=w) (base:=base) T G_qa
 have G_qi:=ok_qi (P:=l.prog) (w:=w) (base:=base) T G_ql G_q3
 have G_q7:=ok_q7 (P:=l.prog) (w:=w) (base:=base) T G_qg
 have G_qm:=ok_qm (P:=l.prog) (w:=w) (base:=base) T G_q1
 have G_q4:=ok_q4 (P:=l.prog) (w:=w) (base:=base) T G_qi
 have G_qc:=ok_qc (P:=l.prog) (w:=w) (base:=base) T G_q7
 have G_q0:=ok_q0 (P:=l.prog) (w:=w) (base:=base) T G_qm
 have G_qj:=ok_qj (P:=l.prog) (w:=w) (base:=base) T G_q0
 have G_q9:=ok_q9 (P:=l.prog) (w:=w) (base:=base) T G_q0
 have G_q5:=ok_q5 (P:=l.prog) (w:=w) (base:=base) T G_q0
 have G_q2:=ok_q2 (P:=l.prog) (w:=w) (base:=base) T G_q5 G_qo G_q6 G_qp G_q4 G_q9 G_q8
 have G_init:=zNP (P:=l.prog) (w:=w) (base:=base) B M.Fi
 have G_build:=zNL (P:=l.prog) (w:=w) (base:=base) B M.build.F
 have G_mirror:=zNR (P:=l.prog) (w:=w) (base:=base) B M.build.m M.build.b G_build T.F_qh G_qh M.mirror.F
 have G_flip:=zNN (P:=l.prog) (w:=w) (base:=base) B M.build.m M.build.b G_build T.F_qn G_qn M.flip.F
 have G_put:=zNT (P:=l.prog) (w:=w) (base:=base) B M.build.m M.build.b G_build T.F_qj G_qj T.F_q9 G_q9 T.F_q2 G_q2 M.put.F
 have G_take:=zNU (P:=l.prog) (w:=w) (base:=base) B M.build.m M.build.b G_build T.F_qj G_qj T.F_q5 G_q5 T.F_q2 G_q2 M.take.F
 have G_now:=zNS (P:=l.prog) (w:=w) (base:=base) B M.now.F
 have G_counts:=zNM (P:=l.prog) (w:=w) (base:=base) B M.counts.F
 have G_lead:=zNQ (P:=l.prog) (w:=w) (base:=base) B M.lead.F
 have G_back:=zNK (P:=l.prog) (w:=w) (base:=base) B M.lead.m M.lead.b G_lead M.back.F
 have G_forth:=zNO (P:=l.prog) (w:=w) (base:=base) B M.lead.m M.lead.b G_lead M.forth.F
 have G_twin:=zNV (P:=l.prog) (w:=w) (base:=base) B M.M G_init M.bi M.twin.F
 have G_qd:=ok_qd (P:=l.prog) (w:=w) (base:=base) T B M G_q7 G_flip G_mirror G_now G_put G_take
 have G_qb:=ok_qb (P:=l.prog) (w:=w) (base:=base) T B M G_qd G_counts G_now
 have G_qf:=ok_qf (P:=l.prog) (w:=w) (base:=base) T B M G_back G_counts G_forth G_now
 have G_qq:=ok_qq (P:=l.prog) (w:=w) (base:=base) T B M G_qc G_q7 G_qb G_qf G_qd G_back G_counts G_forth G_now G_twin G_init
 exact law_D G_qq main
theorem fo1{K:PySem.W.Frag}{h:Heap}{mg:Str->Option Value}{n:Str}{st:Stmt}{ps:List Str}{f:Addr}{od an:Option Addr}{sl:Array (Option Value)}{oc kV dc pm cd ct:Value}(X:K.In h)(G:h.Ns mainGlobals mg)(hl:ps.length=1)(hb:∀ x0,bindArgs (PySem.W.fnOf n n (zAT st) (zAD st) (zAg st) .none kV dc pm an cd ct) ⟨[x0],[]⟩=pure (List.zip ps [x0]))
  (a:PySem.W.nsIn K mainGlobals n=some (some (.ref f))) (l:K.lookup f=some ⟨oc,od,.func (PySem.W.fnOf n n (zAT st) (zAD st) (zAg st) .none kV dc pm an cd ct),sl⟩) (c:PySem.W.codeIn K cd n=true) (k:PySem.W.keepIn K (.ref f)=true):Fo K mg n st ps f (PySem.W.fnOf n n (zAT st) (zAD st) (zAg st) .none kV dc pm an cd ct):=
 ⟨zDk l c k,PySem.W.mg_of X G a,.all fun us hu=>us1 (p:=fun us=>bindArgs _ ⟨us,[]⟩=pure (List.zip _ us)) (hu.trans hl) hb⟩
theorem fo2{K:PySem.W.Frag}{h:Heap}{mg:Str->Option Value}{n:Str}{st:Stmt}{ps:List Str}{f:Addr}{od an:Option Addr}{sl:Array (Option Value)}{oc kV dc pm cd ct:Value}(X:K.In h)(G:h.Ns mainGlobals mg)(hl:ps.length=2)(hb:∀ x0 x1,bindArgs (PySem.W.fnOf n n (zAT st) (zAD st) (zAg st) .none kV dc pm an cd ct) ⟨[x0,x1],[]⟩=pure (List.zip ps [x0,x1]))
  (a:PySem.W.nsIn K mainGlobals n=some (some (.ref f))) (l:K.lookup f=some ⟨oc,od,.func (PySem.W.fnOf n n (zAT st) (zAD st) (zAg st) .none kV dc pm an cd ct),sl⟩) (c:PySem.W.codeIn K cd n=true) (k:PySem.W.keepIn K (.ref f)=true):Fo K mg n st ps f (PySem.W.fnOf n n (zAT st) (zAD st) (zAg st) .none kV dc pm an cd ct):=
 ⟨zDk l c k,PySem.W.mg_of X G a,.all fun us hu=>us2 (p:=fun us=>bindArgs _ ⟨us,[]⟩=pure (List.zip _ us)) (hu.trans hl) hb⟩
theorem fo3{K:PySem.W.Frag}{h:Heap}{mg:Str->Option Value}{n:Str}{st:Stmt}{ps:List Str}{f:Addr}{od an:Option Addr}{sl:Array (Option Value)}{oc kV dc pm cd ct:Value}(X:K.In h)(G:h.Ns mainGlobals mg)(hl:ps.length=3)(hb:∀ x0 x1 x2,bindArgs (PySem.W.fnOf n n (zAT st) (zAD st) (zAg st) .none kV dc pm an cd ct) ⟨[x0,x1,x2],[]⟩=pure (List.zip ps [x0,x1,x2]))
  (a:PySem.W.nsIn K mainGlobals n=some (some (.ref f))) (l:K.lookup f=some ⟨oc,od,.func (PySem.W.fnOf n n (zAT st) (zAD st) (zAg st) .none kV dc pm an cd ct),sl⟩) (c:PySem.W.codeIn K cd n=true) (k:PySem.W.keepIn K (.ref f)=true):Fo K mg n st ps f (PySem.W.fnOf n n (zAT st) (zAD st) (zAg st) .none kV dc pm an cd ct):=
 ⟨zDk l c k,PySem.W.mg_of X G a,.all fun us hu=>us3 (p:=fun us=>bindArgs _ ⟨us,[]⟩=pure (List.zip _ us)) (hu.trans hl) hb⟩
def cn{α:Type}(x:α)(f:Nat->α):Nat->α
 | 0=>x
 | n+1=>f n
theorem fm1{K:PySem.W.Frag}{n q:Str}{st:Stmt}{ps:List Str}{C f:Addr}{od an:Option Addr}{sl:Array (Option Value)}{oc kV dc pm cd ct:Value}(hl:ps.length=1)(hb:∀ x0,bindArgs (PySem.W.fnOf n q (zAT st) (zAD st) (zAg st) .none kV dc pm an cd ct) ⟨[x0],[]⟩=pure (List.zip ps [x0]))
  (a:PySem.W.findIn K (.ref C) n=some (some (.ref f))) (i:PySem.W.isFn K (.ref f)=true) (l:K.lookup f=some ⟨oc,od,.func (PySem.W.fnOf n q (zAT st) (zAD st) (zAg st) .none kV dc pm an cd ct),sl⟩) (c:PySem.W.codeIn K cd q=true) (k:PySem.W.keepIn K (.ref f)=true):Fm K C n q st ps f (PySem.W.fnOf n q (zAT st) (zAD st) (zAg st) .none kV dc pm an cd ct):=
 ⟨zDk l c k,⟨a,i,k⟩,.all fun us hu=>us1 (p:=fun us=>bindArgs _ ⟨us,[]⟩=pure (List.zip _ us)) (hu.trans hl) hb⟩
theorem fm2{K:PySem.W.Frag}{n q:Str}{st:Stmt}{ps:List Str}{C f:Addr}{od an:Option Addr}{sl:Array (Option Value)}{oc kV dc pm cd ct:Value}(hl:ps.length=2)(hb:∀ x0 x1,bindArgs (PySem.W.fnOf n q (zAT st) (zAD st) (zAg st) .none kV dc pm an cd ct) ⟨[x0,x1],[]⟩=pure (List.zip ps [x0,x1]))
  (a:PySem.W.findIn K (.ref C) n=some (some (.ref f))) (i:PySem.W.isFn K (.ref f)=true) (l:K.lookup f=some ⟨oc,od,.func (PySem.W.fnOf n q (zAT st) (zAD st) (zAg st) .none kV dc pm an cd ct),sl⟩) (c:PySem.W.codeIn K cd q=true) (k:PySem.W.keepIn K (.ref f)=true):Fm K C n q st ps f (PySem.W.fnOf n q (zAT st) (zAD st) (zAg st) .none kV dc pm an cd ct):=
 ⟨zDk l c k,⟨a,i,k⟩,.all fun us hu=>us2 (p:=fun us=>bindArgs _ ⟨us,[]⟩=pure (List.zip _ us)) (hu.trans hl) hb⟩
theorem fm3{K:PySem.W.Frag}{n q:Str}{st:Stmt}{ps:List Str}{C f:Addr}{od an:Option Addr}{sl:Array (Option Value)}{oc kV dc pm cd ct:Value}(hl:ps.length=3)(hb:∀ x0 x1 x2,bindArgs (PySem.W.fnOf n q (zAT st) (zAD st) (zAg st) .none kV dc pm an cd ct) ⟨[x0,x1,x2],[]⟩=pure (List.zip ps [x0,x1,x2]))
  (a:PySem.W.findIn K (.ref C) n=some (some (.ref f))) (i:PySem.W.isFn K (.ref f)=true) (l:K.lookup f=some ⟨oc,od,.func (PySem.W.fnOf n q (zAT st) (zAD st) (zAg st) .none kV dc pm an cd ct),sl⟩) (c:PySem.W.codeIn K cd q=true) (k:PySem.W.keepIn K (.ref f)=true):Fm K C n q st ps f (PySem.W.fnOf n q (zAT st) (zAD st) (zAg st) .none kV dc pm an cd ct):=
 ⟨zDk l c k,⟨a,i,k⟩,.all fun us hu=>us3 (p:=fun us=>bindArgs _ ⟨us,[]⟩=pure (List.zip _ us)) (hu.trans hl) hb⟩
theorem mk_obj{K:PySem.W.Frag}{h:Heap}{mg:Str->Option Value}{C f0 f1 f2 f3 f4 f5 f6 f7 f8 f9 f10 f11:Addr}{d0 d1 d2 d3 d4 d5 d6 d7 d8 d9 d10 d11:FuncData}(X:K.In h)(G:h.Ns mainGlobals mg)(aC:PySem.W.nsIn K mainGlobals "Builder"=some (some (.ref C)))
  (pg:PySem.W.plainGet K C Str.empty=true) (hd:PySem.W.hasDictIn K C=true) (po:PySem.W.plainOver K C=true) (sa:PySem.W.findIn K (.ref C) "__setattr__"=some (some (.builtin "object.__setattr__"))) (mk:PySem.W.makesIn K C=true) (kc:PySem.W.keepIn K (.ref C)=true)
  (nF:PySem.W.findIn K (.ref C) "floor"=some none) (nD:PySem.W.findIn K (.ref C) "done"=some none) (nU:PySem.W.findIn K (.ref C) "undone"=some none) (z1:PySem.W.nsIn K mainGlobals "len"=some none) (z2:PySem.W.nsIn K mainGlobals "list"=some none)
  (F0:Fm K C "__init__" "Builder.__init__" zFk ["self","floor"] f0 d0) (F1:Fm K C "put" "Builder.put" zFo ["self","cell"] f1 d1) (F2:Fm K C "take" "Builder.take" zFp ["self","cell"] f2 d2) (F3:Fm K C "mirror" "Builder.mirror" zFm ["self"] f3 d3) (F4:Fm K C "flip" "Builder.flip" zFi ["self"] f4 d4) (F5:Fm K C "build" "Builder.build" zFg ["self","word","floor"] f5 d5) (F6:Fm K C "now" "Builder.now" zFn ["self"] f6 d6) (F7:Fm K C "lead_over" "Builder.lead_over" zFl ["self","steps","others"] f7 d7) (F8:Fm K C "back" "Builder.back" zFf ["self"] f8 d8) (F9:Fm K C "forth" "Builder.forth" zFj ["self"] f9 d9) (F10:Fm K C "counts" "Builder.counts" zFh ["self"] f10 d10) (F11:Fm K C "twin" "Builder.twin" zFq ["self"] f11 d11):∃ C b e,TxB K mg C/\TxM K C b e:=
 ⟨C,(cn f0 (cn f1 (cn f2 (cn f3 (cn f4 (cn f5 (cn f6 (cn f7 (cn f8 (cn f9 (cn f10 (fun _=>f11)))))))))))),(cn d0 (cn d1 (cn d2 (cn d3 (cn d4 (cn d5 (cn d6 (cn d7 (cn d8 (cn d9 (cn d10 (fun _=>d11)))))))))))),⟨⟨pg,hd,po,sa⟩,nF,nD,nU,PySem.W.mg_of X G aC,PySem.W.mg_none_of X G z1,PySem.W.mg_none_of X G z2⟩,⟨mk,F0.m.1,F0.m.2,kc⟩,F0.F,F0.b,F1,F2,F3,F4,F5,F6,F7,F8,F9,F10,F11⟩
theorem mk_txt{K:PySem.W.Frag}{mg:Str->Option Value}{f0 f1 f2 f3 f4 f5 f6 f7 f8 f9 f10 f11 f12 f13 f14 f15 f16 f17 f18 f19 f20 f21 f22 f23 f24 f25 f26:Addr}{d0 d1 d2 d3 d4 d5 d6 d7 d8 d9 d10 d11 d12 d13 d14 d15 d16 d17 d18 d19 d20 d21 d22 d23 d24 d25 d26:FuncData}(F0:Fo K mg "is_whole" s_qk ["thing"] f0 d0)(F1:Fo K mg "all_cells" s_qe ["floor"] f1 d1)(F2:Fo K mg "marked" s_qo ["things"] f2 d2)(F3:Fo K mg "mirrored" s_qh ["floor"] f3 d3)(F4:Fo K mg "flipped" s_qn ["floor"] f4 d4)(F5:Fo K mg "crossed" s_ql ["one","other"] f5 d5)(F6:Fo K mg "couples_beside" s_q3 ["cells"] f6 d6)(F7:Fo K mg "is_between" s_qa ["one_end","middle","other_end"] f7 d7)(F8:Fo K mg "all_couples" s_q6 ["cells"] f8 d8)(F9:Fo K mg "_law_cell" s_qg ["_law_script","_law_k"] f9 d9)(F10:Fo K mg "_law_goes" s_qf ["_law_builder","_law_rows"] f10 d10)(F11:Fo K mg "is_whole_couple" s_q1 ["thing"] f11 d11)(F12:Fo K mg "open_cells" s_q8 ["floor"] f12 d12)(F13:Fo K mg "meets" s_qp ["one","other","cell"] f13 d13)(F14:Fo K mg "lets_see" s_qi ["solids","one","other"] f14 d14)(F15:Fo K mg "_law_drawn" s_q7 ["_law_script","_law_k","_law_many"] f15 d15)(F16:Fo K mg "is_cell" s_qm ["floor","thing"] f16 d16)(F17:Fo K mg "see_each_other" s_q4 ["solids","one","other"] f17 d17)(F18:Fo K mg "_law_floor" s_qc ["_law_script","_law_at","_law_most"] f18 d18)(F19:Fo K mg "_law_step" s_qd ["_law_script","_law_at","_law_builder"] f19 d19)(F20:Fo K mg "refuse_off_floor" s_q0 ["floor","cell"] f20 d20)(F21:Fo K mg "_law_go_on" s_qb ["_law_script","_law_builder"] f21 d21)(F22:Fo K mg "is_solid" s_qj ["floor","cell"] f22 d22)(F23:Fo K mg "with_solid" s_q9 ["floor","cell"] f23 d23)(F24:Fo K mg "without_solid" s_q5 ["floor","cell"] f24 d24)(F25:Fo K mg "sights_through" s_q2 ["floor","cell"] f25 d25)(F26:Fo K mg "law" s_qq ["_law_script"] f26 d26)(z0:mg "isinstance"=none)(z1:mg "int"=none)(z2:mg "bool"=none)(z3:mg "range"=none)(z4:mg "dict"=none)(z5:mg "sorted"=none)(z6:mg "tuple"=none)(z7:mg "abs"=none)(z8:mg "zip"=none)(z9:mg "enumerate"=none)(z10:mg "len"=none)(z11:mg "set"=none)(z12:mg "list"=none):∃ a d,Txt K mg a d:=by
 exact⟨(cn f0 (cn f1 (cn f2 (cn f3 (cn f4 (cn f5 (cn f6 (cn f7 (cn f8 (cn f9 (cn f10 (cn f11 (cn f12 (cn f13 (cn f14 (cn f15 (cn f16 (cn f17 (cn f18 (cn f19 (cn f20 (cn f21 (cn f22 (cn f23 (cn f24 (cn f25 (fun _=>f26))))))))))))))))))))))))))),(cn d0 (cn d1 (cn d2 (cn d3 (cn d4 (cn d5 (cn d6 (cn d7 (cn d8 (cn d9 (cn d10 (cn d11 (cn d12 (cn d13 (cn d14 (cn d15 (cn d16 (cn d17 (cn d18 (cn d19 (cn d20 (cn d21 (cn d22 (cn d23 (cn d24 (cn d25 (fun _=>d26))))))))))))))))))))))))))),F0,F1,F2,F3,F4,F5,F6,F7,F8,F9,F10,F11,F12,F13,F14,F15,F16,F17,F18,F19,F20,F21,F22,F23,F24,F25,F26,z0,z1,z2,z3,z4,z5,z6,z7,z8,z9,z10,z11,z12⟩
theorem walkZ{q:Program}{loose:List Str}{XP:(Str->Option Value)->Heap->Prop}{K:Params->PySem.W.Frag}{as:List Addr}{n t:Nat}{r:PySem.W.RowW}{d:DefRec}{kwd:List (Str × Expr)}{run:Value->List Value->Sem Value}(e:∀ P,as=(K P).map (·.1))
  (h:PySem.W.WalkO q loose XP (fun w h=>(K w.params).In h) r d kwd run):PySem.W.WalkX q loose XP (PySem.W.X.obsZ as) (PySem.W.X.valZ K n t) r d kwd run:=
 fun w s₀ s₁ mg mb G y a o pm cd doc dV kV ho hd hcd hD hmg hg args vals as_ L=>h w s₀ s₁ mg mb G (PySem.W.InK.keeps w _ _ (PySem.W.X.z_facts e y).2.1 L.keeps) a o pm cd doc dV kV ho hd hcd hD hmg hg args vals as_
theorem walk{l:PySem.W.OpenLaw}{q:Program}{loose:List Str}{XP:(Str->Option Value)->Heap->Prop}{YP:World->Heap->Prop}{d:DefRec}{K:Params->PySem.W.Frag}(hn:l.most=some 63)(hdf:d.params.defaults=[])
  (hY:∀(w:World) (h:Heap),YP w h->(K w.params).In h)
  (F:∀(w:World) (mg:Str->Option Value) (fa:Addr) (h:Heap),(K w.params).In h->h.Ns mainGlobals mg->mg d.name=some (.ref fa)->
   ∃ fd:FuncData,(∀(s:Shared) (u:Value),BindsTo s fd ⟨[u],[]⟩ [("_law_script",u)])/\∀ base:Heap,(K w.params).In base->base.Ns mainGlobals mg->FnOk l.prog w (K w.params) mg base CX0 10 fa fd ["_law_script"] (zFT (K w.params) Glaw)):
  PySem.W.WalkO q loose XP YP l.row.toRowW d [] (fun f vs=>PySem.call f vs):=
 L2.walk_of (n:=63) (k:=10) (x:="_law_script") (CX:=fun _=>CX0) (sp:=fun w=>zFT (K w.params) Glaw) hn (by decide) hdf ⟨rfl,by decide,by decide,rfl⟩ hY F (fun _ _ a ns hl _ hS=>⟨a,ns,rfl,hS,hl,fun _=>rfl⟩) fun _ _ _ _ _ z=>z
end My
open PySem PySem.W PyProof.Rows
namespace PySem.W.Fast
def tw17564631639402268923:=0
def tw12702782531557181914:=0
def tw4897110848076033103:=0
def tw15984978143700786907:=0
def tw7636442276257867108:=0
def tw14660872479142233703:=0
def tw18398666150740735360:=0
def tw10561680341809132898:=0
def tw131083086204940623:=0
def tw17435340032119696259:=0
def tw240003757793981893:=0
def tw18228356739452383441:=0
def tw16412624723609869744:=0
def tw9541552169587532484:=0
def tw386149774573161665:=0
def tw10067642672355230716:=0
def tw9097768223228450568:=0
def tw5728994456033254737:=0
def tw10380636654630532139:=0
def tw13313568225868400553:=0
def tw17700307381317821768:=0
def tw9584048790469900699:=0
def tw11265167658649686843:=0
def tw14701352812672565033:=0
def tw11839174336188111130:=0
def tw16153889972441072892:=0
def tw11954429833098811199:=0
def tw8232496984753012696:=0
def tw18237989539025033944:=0
def tw917253778995415900:=0
def tw10734859844995498875:=0
def tw6778417669682282589:=0
def tw4216282938233124805:=0
def tw11156649215549821844:=0
def tw17356955457852698478:=0
def tw11730312176038914858:=0
def tw929679779531214593:=0
def tw9840221696463825784:=0
def tw3359468355621048594:=0
def tw12357911396758967437:=0
def tw17156914475676793268:=0
def tw121571449422531012:=0
def tw6481046951796027172:=0
def tw13644526388738043889:=0
def tw18440874299078342738:=0
def tw3404986630780388676:=0
def tw16133114603546017996:=0
def tw7909414408488411825:=0
def tw3932558553352143224:=0
def tw11645737723451308150:=0
def tw16103795117381933319:=0
def tw16775465692570228660:=0
def tw10316305846462238788:=0
def tw14947026210455676701:=0
def tw10355975136620907855:=0
def tw242777332521047237:=0
def tw12428369849834424611:=0
def tw11192901416495592536:=0
def tw8239620654300538025:=0
def tw17766333284081505432:=0
def tw6160958529873576231:=0
def tw15916658098092451571:=0
def tw12297662351634143300:=0
def tw694119355474060075:=0
def tw12413014414177309707:=0
def tw12571405670878588531:=0
def tw5949932237685901131:=0
def tw3928422442607972235:=0
def tw68425298417427240:=0
def tw594783294630084086:=0
def tw4114845243633559373:=0
def tw15561558627571022065:=0
def tw8940707911755734581:=0
def tw2056332280294405295:=0
def tw12006345290554951595:=0
def tw7703869080432889121:=0
def tw5363881713974637243:=0
def tw14297355665144059424:=0
def tw17912157053002970956:=0
def tw1021367865706636264:=0
def tw5382339964987740979:=0
def tw15116941374952898229:=0
def tw1423247456221612285:=0
def tw3673840664591124224:=0
def tw11827911863064973486:=0
def tw5672956149997078140:=0
def tw9592290842796209773:=0
def tw15949520363292490494:=0
def tw15169675349174410661:=0
def tw15966819060615176230:=0
def tw13955538662881062045:=0
def tw5044733460451450819:=0
def tw786490255075616490:=0
def tw10148587283271257789:=0
def tw13680739607226859832:=0
def tw13743163494734204249:=0
def tw10881665676953557318:=0
def tw5996794115914046661:=0
def tw12056817252519812694:=0
def tw15564268033421247752:=0
def tw13857001044758776418:=0
def tw4988479663014522715:=0
def tw8501073937054601722:=0
def tw11576495464875858982:=0
def tw13735115288256246332:=0
def tw2592975896678668945:=0
def tw11781548455912230091:=0
def tw4035971828128798968:=0
def tw2670992503613913375:=0
def tw2506569577667546048:=0
def tw15285531896625366717:=0
def tw17522121425215265383:=0
def tw5679302526143030300:=0
def tw12108761134428095372:=0
def tw18353054794774283765:=0
def tw17033569348167845304:=0
def tw9117788796629607938:=0
def tw11001257579207834434:=0
def tw17461808338052896366:=0
def tw2326727675082854249:=0
def tw9955177738134971819:=0
def tw16019137126414076362:=0
def tw16416493180808380129:=0
def tw12982196976815836319:=0
def tw4955663903135669584:=0
def tw7163589218768018786:=0
def tw18175600060637543702:=0
def tw10824705381070955909:=0
def tw4336606191108174661:=0
def tw4830160010247890829:=0
def tw15676667778354382706:=0
def tw11079500321217754075:=0
def tw11364889589614498319:=0
def tw8293935892236527097:=0
def tw15322277486041319220:=0
def tw7225072839766061351:=0
def tw422543836060519942:=0
def tw17640970968858327428:=0
def tw17293952302016283285:=0
def tw7989311538676343380:=0
def tw2276118518392571620:=0
def tw4002586232468235240:=0
def tw16396039232781739784:=0
def tw6329544067644119937:=0
def tw4676276850627437678:=0
def tw15875671854277905268:=0
def tw16397100725097911188:=0
def tw10543792000602372581:=0
def tw9301778364796620253:=0
def tw17692725730321768248:=0
def tw8306130291941116343:=0
def tw14927306777561002459:=0
def tw782338354629149752:=0
def tw2317032571658482041:=0
def tw7483524858381815437:=0
def tw5966904879498213953:=0
def tw1839965786981154811:=0
def tw6195997794988126636:=0
def tw6943451966523729969:=0
def tw8096303934540039194:=0
def tw8405884734142303075:=0
def tw17416212384805621229:=0
def tw2578356873803250863:=0
def tw9374524943669510350:=0
def tw10737983514487143451:=0
def tw4589085456744826891:=0
def tw15305022324854061386:=0
def tw5499143359126991046:=0
def tw5652142258666416305:=0
def tw632005502102637487:=0
def tw18144539877441916759:=0
def tw2337251832301020689:=0
def tw14248102142862318127:=0
def tw13180198725233414313:=0
def tw2402827718302756100:=0
def tw3551999810153253095:=0
def tw15031364572998260822:=0
def tw18070183949616847120:=0
def tw13551472392518113334:=0
def tw13747573793254455389:=0
def tw7222803276510199572:=0
def tw1671030307905558472:=0
def tw4069382364336461762:=0
def tw6206265369457583448:=0
def tw11652981744915000155:=0
def tw3245336895499384566:=0
def tw11583197161517999462:=0
def tw814062562481044056:=0
def tw17439304517248201026:=0
def tw4566743528879779145:=0
def tw8349289812394347678:=0
def tw14313907738486269244:=0
def tw10489443970261460297:=0
def tw5204327481582479541:=0
def tw3400952870433312428:=0
def tw14657016651891826095:=0
def tw4097964638775606521:=0
def tw7436440545685143079:=0
def tw5457858963557828049:=0
def tw6439752616686038898:=0
def tw16528444053595970398:=0
def tw14943533718399499802:=0
def tw4181417474768915258:=0
def tw38851739035780315:=0
def tw16678293730134246541:=0
def tw10839214431925154911:=0
def tw15068084661600995362:=0
def tw5558541440488151535:=0
def tw1435761031603986867:=0
def tw2428945977381598596:=0
def tw7925401821878686580:=0
def tw12201003305743494000:=0
def tw7314393811890826681:=0
def tw9040063003822174268:=0
def tw4316511243564722612:=0
def tw9177091585692457846:=0
def tw13210078725003236565:=0
def tw7444749182889195933:=0
def tw3845416750038942814:=0
def tw5551116581700590924:=0
def tw9786313997658112550:=0
def tw6259138744428166985:=0
def tw6574643635053954961:=0
def tw17775908574113221922:=0
def tw4000278577641928086:=0
def tw15362128758568603369:=0
def tw16753792023537488857:=0
def tw1010776901640774108:=0
def tw16639781467728483357:=0
def tw7539700345932017772:=0
def tw6810652112902135430:=0
def tw13946083088153690692:=0
def tw9675420384000371855:=0
def tw5765564714663807839:=0
def tw10294282097001919741:=0
def tw12303408570058838259:=0
def tw187276775884705403:=0
def tw11585601574441559749:=0
def tw10066615586655685621:=0
def tw7259423153354873606:=0
def tw654735328897865528:=0
def tw1528842358800311191:=0
def tw6031270855817643671:=0
def tw3585108360832415554:=0
def tw7105693617738717592:=0
def tw7610537397026289829:=0
def tw3131995189845817266:=0
def tw16645702638920779115:=0
def tw17072096436371347673:=0
def tw227131490202869108:=0
def tw13302728980548804187:=0
def tw10426895200169156587:=0
def tw16351897988421230353:=0
def tw14142739505118861521:=0
def tw9406126823219577849:=0
def tw10135626761982128341:=0
def tw12668720460980965698:=0
def tw624932800643181980:=0
def tw9121717151710885805:=0
def tw9108121382293120880:=0
def tw7926157409145960067:=0
def tw13842408340910285669:=0
def tw11718769527468060673:=0
def tw13585965999228588207:=0
def tw14535995682858854555:=0
def tw16752469224477310802:=0
def tw7050031138145779664:=0
def tw17794961803209387762:=0
def tw16303160826759090866:=0
def tw8723861261474321923:=0
def tw13420422934500853886:=0
def tw4445651696213135768:=0
def tw8989871888443791644:=0
def tw8300644626865329950:=0
def tw14844526764285058601:=0
def tw7159494390497573129:=0
def tw17035144607184525151:=0
def tw11770831996991983001:=0
def tw7734941446744404592:=0
def tw172830971632191137:=0
def tw7462265147057014437:=0
def tw10553676506833770770:=0
def tw9811274168324947461:=0
def tw13528262854428567005:=0
def tw5809340539944863286:=0
def tw16526944323621143062:=0
def tw17131299443158683505:=0
def tw18386730766897946081:=0
def tw6400143770859835186:=0
def tw15638392304481864245:=0
def tw12058357460395622567:=0
def tw15161327554806014150:=0
def tw6289286343354546462:=0
def tw15354384446887761063:=0
def tw1319741001953028896:=0
def tw18232856671898404266:=0
end PySem.W.Fast
set_option maxRecDepth 100000 in
set_option maxHeartbeats 0 in
theorem PySem.Challenge.cw_lampfloor_k44_whole_back_and_twins_holds : PySem.Challenge.rw_lampfloor_k44_whole_back_and_twins.Holds := by
 w_on;o_law;z_head;(case hw=>w_witness2)
 k_fill
 refine My.walkZ (fun _=>rfl) (My.walk (l:=PySem.Challenge.rw_lampfloor_k44_whole_back_and_twins) rfl rfl (fun w h Y=>Y) ?F)
 case F=>
  intro w mg fa h KX G hmg
  refine' My.all_mk My.main hmg (My.mk_txt (My.fo1 KX G rfl (fun _=>rfl) ?_ ?_ ?_ ?_) (My.fo1 KX G rfl (fun _=>rfl) ?_ ?_ ?_ ?_) (My.fo1 KX G rfl (fun _=>rfl) ?_ ?_ ?_ ?_) (My.fo1 KX G rfl (fun _=>rfl) ?_ ?_ ?_ ?_) (My.fo1 KX G rfl (fun _=>rfl) ?_ ?_ ?_ ?_) (My.fo2 KX G rfl (fun _ _=>rfl) ?_ ?_ ?_ ?_) (My.fo1 KX G rfl (fun _=>rfl) ?_ ?_ ?_ ?_) (My.fo3 KX G rfl (fun _ _ _=>rfl) ?_ ?_ ?_ ?_) (My.fo1 KX G rfl (fun _=>rfl) ?_ ?_ ?_ ?_) (My.fo2 KX G rfl (fun _ _=>rfl) ?_ ?_ ?_ ?_) (My.fo2 KX G rfl (fun _ _=>rfl) ?_ ?_ ?_ ?_) (My.fo1 KX G rfl (fun _=>rfl) ?_ ?_ ?_ ?_) (My.fo1 KX G rfl (fun _=>rfl) ?_ ?_ ?_ ?_) (My.fo3 KX G rfl (fun _ _ _=>rfl) ?_ ?_ ?_ ?_) (My.fo3 KX G rfl (fun _ _ _=>rfl) ?_ ?_ ?_ ?_) (My.fo3 KX G rfl (fun _ _ _=>rfl) ?_ ?_ ?_ ?_) (My.fo2 KX G rfl (fun _ _=>rfl) ?_ ?_ ?_ ?_) (My.fo3 KX G rfl (fun _ _ _=>rfl) ?_ ?_ ?_ ?_) (My.fo3 KX G rfl (fun _ _ _=>rfl) ?_ ?_ ?_ ?_) (My.fo3 KX G rfl (fun _ _ _=>rfl) ?_ ?_ ?_ ?_) (My.fo2 KX G rfl (fun _ _=>rfl) ?_ ?_ ?_ ?_) (My.fo2 KX G rfl (fun _ _=>rfl) ?_ ?_ ?_ ?_) (My.fo2 KX G rfl (fun _ _=>rfl) ?_ ?_ ?_ ?_) (My.fo2 KX G rfl (fun _ _=>rfl) ?_ ?_ ?_ ?_) (My.fo2 KX G rfl (fun _ _=>rfl) ?_ ?_ ?_ ?_) (My.fo2 KX G rfl (fun _ _=>rfl) ?_ ?_ ?_ ?_) (My.fo1 KX G rfl (fun _=>rfl) ?_ ?_ ?_ ?_) (mg_none_of KX G ?_) (mg_none_of KX G ?_) (mg_none_of KX G ?_) (mg_none_of KX G ?_) (mg_none_of KX G ?_) (mg_none_of KX G ?_) (mg_none_of KX G ?_) (mg_none_of KX G ?_) (mg_none_of KX G ?_) (mg_none_of KX G ?_) (mg_none_of KX G ?_) (mg_none_of KX G ?_) (mg_none_of KX G ?_)) (My.mk_obj KX G ?_ ?_ ?_ ?_ ?_ ?_ ?_ ?_ ?_ ?_ ?_ ?_ (My.fm2 rfl (fun _ _=>rfl) ?_ ?_ ?_ ?_ ?_) (My.fm2 rfl (fun _ _=>rfl) ?_ ?_ ?_ ?_ ?_) (My.fm2 rfl (fun _ _=>rfl) ?_ ?_ ?_ ?_ ?_) (My.fm1 rfl (fun _=>rfl) ?_ ?_ ?_ ?_ ?_) (My.fm1 rfl (fun _=>rfl) ?_ ?_ ?_ ?_ ?_) (My.fm3 rfl (fun _ _ _=>rfl) ?_ ?_ ?_ ?_ ?_) (My.fm1 rfl (fun _=>rfl) ?_ ?_ ?_ ?_ ?_) (My.fm3 rfl (fun _ _ _=>rfl) ?_ ?_ ?_ ?_ ?_) (My.fm1 rfl (fun _=>rfl) ?_ ?_ ?_ ?_ ?_) (My.fm1 rfl (fun _=>rfl) ?_ ?_ ?_ ?_ ?_) (My.fm1 rfl (fun _=>rfl) ?_ ?_ ?_ ?_ ?_) (My.fm1 rfl (fun _=>rfl) ?_ ?_ ?_ ?_ ?_))
  any_goals k_is
