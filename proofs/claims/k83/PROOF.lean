import PyProof.Rows.All
import Wide.All
import OpenK.AllK
import Wide.FinOn
import KE.KLam
import KE.KNestM
import PySem.Challenge.RW_lampfloor_k83_whole_quiet
noncomputable section
open PySem renaming wpAny_bind->Qa,wpAny_pure->Qb,wpAny_setState_of->QR,wpAny_holding->QV,wpAny_newObj_type->Q0,wpAny_call_entry->Q9,wpAny_callSpecial?_slot->Yf,codeAny_builtin->Yh,sizeLine_eq->Yj,plainId_quiet->Yq,wpAny_truthy_bool->Yv,wpAny_seqItems->Yx,wpAny_tryCatch->Yy,wpAny_mono->YO,wpAny_forIn_list->YT,wpAny_typeNameOfWhole_keyiter->YY,wpAny_updateSeq->Y3,wpAny_typeOf->Y8,wpAny_Call_Name_kw->Jc,wpAny_passesOwn->Jh,wpAny_storeSet_of->Jk,wpAny_pyIter_list->Jl,wpAny_dictEntries->Jn,wpAny_letGo->Jo,putSet_of->Jr,wpAny_setField->Jt,wpAny_isInstance->Ju,wpAny_of_eq->Jy,codeAny_mono->JA,wpAny_pyIter_tuple->JE,wpAny_specialOf->JF,getitemInPython_of_ne->JK,wpAny_letTemporaryGo->JM,wpAny_setEntries_of->JS,wpAny_rule->JW,wpAny_field->JX
open PySem.Heap renaming get?_push_of_some->Qc,get?_push_size->Qr,lt_size->Qs,get?_update_self->QQ,size_push->Yp,get?_update_other->Yr
open List renaming mem_singleton->Qd,mem_cons_self->Qe,getElem?_eq_some_iff->Qf,mem_cons_of_mem->Qg,getElem?_eq_getElem->Qh,mem_cons->Qj,mem_append_right->Qk,length_append->Qm,length_map->Qo,map_cons->Qp,mem_append->Qv,contains_iff_mem->Qy,size_toArray->QA,getElem?_set_ne->QC,length_cons->QE,getElem?_map->QF,getElem?_set_self->QG,length_singleton->QH,mem_append_left->QK,mem_of_getElem?->QM,mem_map->QN,getD_eq_getElem?_getD->QP,mem_range->QS,lookup_cons->QW,length_range->QX,all_eq_true->QZ,getElem?_of_mem->Q1,append_assoc->Q6,length_take->Q8,pairwise_map->Ya,map_append->Yb,length_filter_le->Ye,append_nil->Yg,map_map->Yk,pairwise_cons->Ym,take_append_drop->Yn,mem_filter->Yo,nodup_cons->Ys,getElem_mem->YB,getElem?_zip_eq_some->YE,drop_eq_getElem_cons->YF,foldl_cons->YI,length_drop->YL,getElem?_append_right->YQ,getElem?_append_left->YS,zip_cons_cons->YU,sum_cons->YW,pairwise_append->YX,length_nil->Y2,find?_cons->Y4,nil_append->Y5,map_congr_left->Y7,any_eq_true->Jb,nodup_append->Jm,getElem?_replicate->Jq,filter_cons->Jv,all_eq_not_any_not->Jx,eq_nil_of_length_eq_zero->Jz,find?_eq_none->JC,any_cons->JI,nodup_nil->JL,filterMap_cons->JR,mem_map_of_mem->JT
open Option renaming bind_some->Qi
open Nat renaming le_refl->Ql,ne_of_lt->Qu,le_trans->Qz,lt_of_lt_of_le->QB,zero_le->QU,lt_of_le_of_lt->Yc,le_add_right->Yi,le_of_lt->Yu,ne_of_gt->Yw,not_lt_zero->Yz,lt_succ_self->YC,lt_succ_of_lt->YG,lt_irrefl->YV,le_of_lt_succ->Y0,eq_or_lt_of_le->Jf,mul_le_mul->Jw,le_antisymm->JG,le_of_not_lt->JN,succ_pos->JO,lt_trans->JP
open Bool renaming false_eq_true->Qq,false_ne_true->Qx,and_eq_true_iff->QD,and_eq_true->QO,not_true->YN,not_eq_true'->Y1,not_eq_true->Ja,eq_iff_iff->Ji,true_and->JH
open Array renaming length_toList->Qt,getElem?_toList->QI,getElem?_eq_getElem->QJ,getElem?_eq_none->Yl,size_map->Je,toList_filterMap->JD
open Option.some renaming inj->QL
open PySem.SeqAt renaming canLay_of_shaped->QT
open PySem.Heap.SameBut renaming update->QY
open PySem.PassesOwn renaming never->Q5
open PySem.Around renaming under_plainId->Q7
open PyProof.Rows renaming wpS_bind->Yd,wpS_pure->YH,callWith_type1->YM,slot_tuple_getitem->YR,pairsOf_size->JQ,KK_mirror_equal->JV
open LawfulBEq renaming eq_of_beq->Yt
open List.Nodup renaming length_le_of_subset->YA
open Classical renaming byContradiction->YD
open PyProof.Rows.KeyOrd renaming kle_refl->YJ
open PySem.Obj renaming data_mapFields->YK,isFreed_of_fields->JJ
open Int renaming toNat_natCast->YZ,natCast_nonneg->Jd,ofNat_lt->Jp,emod_lt_of_pos->JB,toNat_of_nonneg->JU
open PySem.List renaming filterMap_getElem?_range_length->Y6
open PySem.SetTable renaming insertAt_perm->Y9
open PySem.F renaming slot_tuple_iterator_next->Jg
open Prod renaming ext->Jj
open PyProof.Rows.F renaming plain_set_update_loop->Js
open PySem renaming Shared->YP,Addr->JY,wpAny->JZ,starEach->J0,model->J1,Program->J2,World->J4,cLine->J8,compareOp->J9,mainGlobals->Za,sysModules->Zg,Stmt->Zj,bootBuiltins->Zk,backTo->Zo,argBest->Zr,eval->Zs,binaryOp->Zt,FuncData->Zu,strIterType->Zv,wpAny_loadPart'->Zx,DictEntry->Zz,swapsWith->ZB,Scope->ZK,richCompare->ZM,keywordEach->ZN,assignEach->ZP,pyNext->ZU,codeAny->ZW,attributeBase->ZY,rawInt->Z0,Keyword->Z1,firstArgMember->Z2,behindInMarks->Z7,bindArgs->Z8,sliceBounds->Uo,seqItems?->Ur,foldedSetIterable->Us,backToKw->Ut,isSubtype_type->Uu,builtinLookup_eq_fast->UE,wpAny_notOrdered_dict->UF,codeAmong->UG,wpAny_askSetting->UI,wpAny_attempt->UL,NameKind->UM,subscripted->UN,codeAny_call_builtin->UP,wpAny_execs_nil->UR,letOwnedTupleGo->US,wpAny_operating->UV,Reads->UX,wpAny_fieldsOf->U1,letTemporaryGo->U3,holding->U5,ReadsAll->U9,atKey->Vc,IsPart->Vd
open PySem.PyData renaming int->J3,bool->Zb,canLayAll0->Zd,tuple->Zf,depthAll->Zn,eqv->ZE,canLay0->ZG,eqvAll->ZT,list->Uq,depth->UA
open List renaming range->J5,Perm->Zc,filterMap_cons_some->Ud,getElem?_take->Uk,getElem?_drop->Ul,take_of_length_le->Uw,filter_congr->UB,length_pos_of_mem->UD,Nodup->UH,not_mem_nil->UJ,zip->UQ,of_mem_zip->UT,length->U6
open PyProof.Rows renaming arrOf->J6,SortedToK->Zq,IntsAre->ZH,SortSt->ZV,pendingOf->ZZ,subscriptTail->Ua,wpS_forRange->Ux,seqObj->Uz,envOfC->UZ,room_in_shaped->U2,AllBare->U4,pairsOf->U7,IsTup->U8
open PySem.NameKind renaming free->J7,cell->Uc
open PySem.SetTable renaming sizeAbove->Ze,below->Zh,insertAt->Zm,runEnd->ZR,eraseAt->ZX,fits->Ue,fill->Uf,turns->Ve
open PySem.Heap renaming SameBut->Zi
open PySem.Builtin.Builtins renaming bindParams->Zl
open Or renaming inr->Zp,inl->ZD
open PySem.Obj renaming putSet->Zw,mapSeq->ZC,cls_mapFields->Uv
open Ne renaming symm->Zy
open PySem.SeqAt renaming shaped->ZA
open False renaming elim->ZF
open PySem.Builtin.Slice renaming slicePlaces->ZI,sliceAdjust->Z5
open PySem.Builtin.SmallTypes renaming nextOf->ZJ
open List.Pairwise renaming nil->ZO
open PySem.Builtin.Tuple renaming tupleExact->ZQ
open PySem.Builtin.Frozenset renaming addrOf->ZS,isAnySet->Z3,sizeOf->Ug
open True renaming intro->Z4
open PySem.Calls renaming call_function_entry->Z6
open PySem.AutoSeq1 renaming sub_tuple_tuple->Z9
open PySem.Builtin.List renaming listTooLong->Ub
open MonadExcept renaming tryCatch->Uh
open ForInStep renaming yield->Ui
open Array renaming replicate->Uj,forIn_toList->Um,getD->U0
open PyProof.Rows.KeyOrd renaming kle_of_klt->Uy,kle_trans->UK
open Bool renaming eq_false_iff->UC
open PySem.SetTable.probe renaming go->UO
open PySem.SeqAt.ReadsAll renaming length->UU
open Int renaming emod_nonneg->UW,toNat_lt->UY
set_option Elab.async false
set_option linter.all false
set_option maxRecDepth 100000
set_option maxHeartbeats 4000000
set_option compiler.extract_closed false
set_option genInjectivity false
set_option genSizeOf false
set_option genSizeOfSpec false
set_option bootstrap.genMatcherCode false
open PySem PyProof.Rows
noncomputable section
namespace L2
open PySem.Spec
abbrev gF:=Sum Int Str
def Gd:gF->Value->Bool
 | .inl k,v=>Value.isInt k v
 | .inr x,v=>Value.isStrOf x v
def IP(w:J4):gF->Int
 | .inl k=>hashInt k
 | .inr x=>hashStr w x
theorem kU:∀{k:gF}{v:Value},Gd k v=true->(∃ i t,k=Sum.inl i/\v=Value.int i t) ∨ (∃ x t,k=Sum.inr x/\v=Value.str x t)
 | .inl i,v,h=>by
  obtain⟨t,e⟩:=Value.isInt_shape (k:=i) (v:=v) h;exact .inl ⟨i,t,rfl,e⟩
 | .inr x,v,h=>by
  obtain⟨t,e⟩:=Value.isStrOf_shape (x:=x) (v:=v) h;exact .inr ⟨x,t,rfl,e⟩
theorem Pc(a b:Int):decide ((Sum.inl a:gF)=Sum.inl b)=(a == b):=by
 by_cases e:a=b
 ·subst e;simp
 ·have h:¬ (Sum.inl a:gF)=Sum.inl b:=fun q=>e (Sum.inl.inj q);rw [decide_eq_false h]
  exact(beq_eq_false_iff_ne.mpr e).symm
theorem On(a b:Str):decide ((Sum.inr a:gF)=Sum.inr b)=decide (a=b):=by
 by_cases e:a=b
 ·subst e;simp
 ·have h:¬ (Sum.inr a:gF)=Sum.inr b:=fun q=>e (Sum.inr.inj q);rw [decide_eq_false h,decide_eq_false e]
theorem Pe(a:Int)(b:Str):decide ((Sum.inl a:gF)=Sum.inr b)=false:=decide_eq_false (fun q=>nomatch q)
theorem Pf(a:Str)(b:Int):decide ((Sum.inr a:gF)=Sum.inl b)=false:=decide_eq_false (fun q=>nomatch q)
def FD(prog:J2)(w:J4):PySem.KeyKind prog w gF where
 is:=Gd
 hash:=IP w
 inj:=fun v a b g d=>by
  rcases kU g with⟨i,t,rfl,rfl⟩ | ⟨x,t,rfl,rfl⟩
  ·rcases kU d with⟨j,u,rfl,e⟩ | ⟨y,u,rfl,e⟩
   ·injection e with e1 _;rw [e1]
   ·exact nomatch e
  ·rcases kU d with⟨j,u,rfl,e⟩ | ⟨y,u,rfl,e⟩
   ·exact nomatch e
   ·injection e with e1 _;rw [e1]
 byValue:=fun k v h=>by
  rcases kU h with⟨i,t,rfl,rfl⟩ | ⟨x,t,rfl,rfl⟩ <;> rfl
 pyHash:=fun c h=>by
  rcases kU c with⟨i,t,rfl,rfl⟩ | ⟨x,t,rfl,rfl⟩
  ·exact wpAny_pyHash_int h
  ·exact wpAny_pyHash_str h
 eqBool:=fun f c h=>by
  rcases kU f with⟨i,t,rfl,rfl⟩ | ⟨x,t,rfl,rfl⟩
  ·rcases kU c with⟨j,u,rfl,rfl⟩ | ⟨y,u,rfl,rfl⟩
   ·rw [Pc]at h;exact wpAny_eqBool_int h
   ·rw [Pe]at h;exact SeqAt.EqAt.int_str i t y u _ _ _ _ h
  ·rcases kU c with⟨j,u,rfl,rfl⟩ | ⟨y,u,rfl,rfl⟩
   ·rw [Pf]at h;exact SeqAt.EqAt.str_int x t j u _ _ _ _ h
   ·rw [On]at h;exact wpAny_eqBool_str h
 «strs»:=fun k x t v h=>by
  rcases kU h with⟨i,u,rfl,e⟩ | ⟨y,u,rfl,e⟩
  ·exact nomatch e
  ·injection e with e1 _
   subst e1
   cases v <;> rfl
inductive V where
 | non | bl (b:Bool) | int (i:Int) | str (x:Str) | byt (b:Array UInt8) | flt (b:UInt64) | ref (a:JY) | ty (n:String)
 deriving DecidableEq
def RelV:V->Value->Prop
 | .non,u=>u=Value.none
 | .bl b,u=>u=Value.bool b
 | .int i,u=>∃ t,u=Value.int i t
 | .str x,u=>∃ t,u=Value.str x t
 | .byt b,u=>∃ t,u=Value.bytes b t
 | .flt b,u=>∃ t,u=Value.float b t
 | .ref a,u=>u=Value.ref a
 | .ty n,u=>u=Value.type n
abbrev Vals:List V->List Value->Prop:=Paired RelV
theorem Vals.length{xs:List V}{us:List Value}(r:Vals xs us):xs.length=us.length:=Paired.length r
theorem Vals.get:∀{xs:List V}{us:List Value}{i:Nat}{x:V},Vals xs us->xs[i]?=some x->∃ u,us[i]?=some u/\RelV x u
 | _,_,_,_,.nil,e=>by simp at e
 | _,_,0,_,.cons r _,e=>by simp at e;subst e;exact⟨_,rfl,r⟩
 | _,_,i+1,x,.cons _ t,e=>by
  obtain⟨u,b,a⟩:=Vals.get (i:=i) (x:=x) t (by simpa using e)
  exact⟨u,by simpa using b,a⟩
theorem Vals.append:∀{xs ys:List V}{us ws:List Value},Vals xs us->Vals ys ws->Vals (xs++ys) (us++ws)
 | _,_,_,_,.nil,s=>s
 | _,_,_,_,.cons r t,s=>.cons r (Vals.append t s)
theorem Vals.take:∀{xs:List V}{us:List Value} (n:Nat),Vals xs us->Vals (xs.take n) (us.take n)
 | _,_,0,_=>.nil
 | _,_,_+1,.nil=>.nil
 | _,_,n+1,.cons r t=>.cons r (Vals.take n t)
theorem Vals.drop:∀{xs:List V}{us:List Value} (n:Nat),Vals xs us->Vals (xs.drop n) (us.drop n)
 | _,_,0,r=>r
 | _,_,_+1,.nil=>.nil
 | _,_,n+1,.cons _ t=>Vals.drop n t
def Ck:Option V->Option Value->Prop
 | some v,some u=>RelV v u
 | none,none=>True
 | _,_=>False
def KV{κ:Type}:List (κ × V)->List (κ × Value)->Prop:=Paired fun(p:κ × V) (q:κ × Value)=>p.1=q.1/\RelV p.2 q.2
def kV:gF->V
 | .inl i=>.int i
 | .inr x=>.str x
inductive HO where
 | lst (xs:List V)
 | tup (xs:List V)
 | dK (kvs:List (gF × V)) | dT (kvs:List (List gF × V))
 | set (S:Int->Bool) (n:Nat)
 | ins (C dx:JY) (fs:List (Str × V))
 | own (x:JY)
 | xd (fs:List (Str × V))
 | met (f x:JY)
 | rng (lo hi:Int)
 | frz (o:Obj) (u:HO)
 | tbl (ps:Array Value)
 | cod (q:Str)
 | ext (φ:Heap->Prop)
abbrev Hp:=JY->Option HO
def aZ(H:Hp)(a:JY)(o:HO):Hp:=fun b=>if b=a then some o else H b
theorem dY{H:Hp}{a:JY}{o:HO}:aZ H a o a=some o:=by unfold aZ;rw [if_pos rfl]
theorem bI{H:Hp}{a b:JY}{o:HO}(h:b≠a):aZ H a o b=H b:=by unfold aZ;rw [if_neg h]
theorem fV{H:Hp}{a b:JY}{o:HO}(h:H a=some o)(h':H b=none):a≠b:=by
 intro e;subst e;rw [h]at h';cases h'
section
variable (P:J2)(w:J4)
def oZ(H:Hp)(h:Heap)(a:JY)(b:Array Value):Prop:=∃ qs:Array Value,h.get? a=some { cls:=.none,data:=.fields qs }/\TriplesOk qs.toList/\∀ pos qual,b[0]?=some (Z0 pos.line)->b[1]?=some (Z0 pos.col)->b[2]?=some (.str qual 0)->
 UG pos qs.toList=none ∨ ∃ c,UG pos qs.toList=some (.ref c)/\H c=some (.cod qual)
def zJ:Sum (List V) Str->HO
 | .inl a=>.tup a
 | .inr q=>.cod q
def eY(H:Hp)(h:Heap)(a:JY):HO->Prop
 | .lst c=>c.length<=sizeLine/\∃(its:List Value) (n:Nat),Vals c its/\h.get? a=some { cls:=.type "list",data:=.seq its.toArray n }
 | .tup c=>c.length<=sizeLine/\∃ its:List Value,Vals c its/\U8 h a its.toArray
 | .dK b=>b.length<=sizeLine/\(a == Zg)=false/\∃ vs,KV b vs/\h.DictOf (FD P w) a vs
 | .dT b=>b.length<=sizeLine/\(a == Zg)=false/\∃ c:List (List gF × JY × Value),
   Paired (fun(p:List gF × V) (q:List gF × JY × Value)=>p.1=q.1/\H q.2.1=some (.tup (p.1.map kV))/\RelV p.2 q.2.2) b c /\
   ∃ o es ep,h.get? a=some o/\o.ExactDict/\o.data=.dict es ep/\es.toList=c.map (entryOfKey (tupleKind (FD P w)))/\(c.map (·.1)).Nodup
 | .set S n=>h.SetOf (intKind P w) a S n
 | .ins C d fs=>H d=some (.own a)/\fs.length<=1000/\d≠a/\h.get? a=some (PySem.W.instObj C d) /\
   ∃ mA,h.Ns1 d mA/\(∀ f,Ck (fs.lookup f) (mA f))/\PySem.Within mA (fs.map (·.1))
 | .own _=>∃ o,h.get? a=some o
 | .xd fs=>∃ mA,h.Ns1 a mA/\∀ f,Ck (fs.lookup f) (mA f)
 | .rng g i=>∃ t u v,h.get? a=some { cls:=.type "range",data:=.fields #[.int g t,.int i u,.int 1 v] }
 | .frz o u=>h.get? a=some o/\eY H h a u
 | .tbl e=>oZ H h a e
 | .cod q=>h.CodeRec (.ref a) q
 | .met f x=>h.get? a=some (PySem.W.methodObj (.ref f) (.ref x))
 | .ext φ=>φ h/\(∃ o,h.get? a=some o)/\∀ h1 h2:Heap,φ h1->(∀ o,h1.get? a=some o->h2.get? a=some o)->φ h2
def dV(H:Hp)(h:Heap):Prop:=∀ a o,H a=some o->eY P w H h a o
end
section
variable {P:J2}{w:J4}{H H':Hp}{h h':Heap}{a:JY}{o:HO}
theorem eY.lt(x:eY P w H h a o):a<h.objs.size:=by
 cases o with
 | lst c=>obtain⟨_,_,_,_,e⟩:=x;exact Qs e
 | tup c=>obtain⟨_,_,_,p⟩:=x;exact p.lt
 | dK b=>obtain⟨_,_,_,_,o,_,_,e,_⟩:=x;exact Qs e
 | dT b=>obtain⟨_,_,_,_,o,_,_,e,_⟩:=x;exact Qs e
 | set S n=>obtain⟨o,_,_,_,e,_⟩:=x;exact Qs e
 | ins C l fs=>obtain⟨_,_,_,e,_⟩:=x;exact Qs e
 | own y=>obtain⟨_,e⟩:=x;exact Qs e
 | xd fs=>obtain⟨_,⟨_,_,_,e,_⟩,_⟩:=x;exact Qs e
 | rng j k=>obtain⟨_,_,_,e⟩:=x;exact Qs e
 | frz i u=>obtain⟨e,_⟩:=x;exact Qs e
 | tbl d=>obtain⟨_,e,_⟩:=(show oZ H h a d from x);exact Qs e
 | cod q=>obtain⟨_,_,_,_,e,g,_⟩:=(show h.CodeRec (.ref a) q from x);cases e;exact Qs g
 | met f y=>exact Qs (show h.get? a=some _ from x)
 | ext φ=>obtain⟨_,⟨_,e⟩,_⟩:=x;exact Qs e
theorem Paired.mapP{d c:Type}{F G:d->c->Prop}:∀{l₁:List d}{l₂:List c},Paired F l₁ l₂->(∀ a b,F a b->G a b)->Paired G l₁ l₂
 | _,_,.nil,_=>.nil
 | _,_,.cons r t,f=>.cons (f _ _ r) (Paired.mapP t f)
theorem eY.stay(x:eY P w H h a o)(k:∀ b u,(b=a ∨ H b=some (.own a))->h.get? b=some u->h'.get? b=some u)
  (T:∀ b,H b=some (.own a)->H' b=some (.own a)) (I:∀ b xs,H b=some (zJ xs)->H' b=some (zJ xs)):eY P w H' h' a o:=by
 induction o with
 | lst xs=>obtain⟨z,m,n,r,e⟩:=x;exact⟨z,m,n,r,k _ _ (.inl rfl) e⟩
 | tup xs=>obtain⟨z,m,r,g,e,c⟩:=x;exact⟨z,m,r,g,k _ _ (.inl rfl) e,c⟩
 | dK E=>obtain⟨z,y,s,r,g,i,j,e,c⟩:=x;exact⟨z,y,s,r,g,i,j,k _ _ (.inl rfl) e,c⟩
 | dT E=>
  obtain⟨z,y,xs,r,g,i,j,e,c⟩:=x
  exact⟨z,y,xs,Paired.mapP r fun p q z=>⟨z.1,I _ (.inl _) z.2.1,z.2.2⟩,g,i,j,k _ _ (.inl rfl) e,c⟩
 | set S n=>obtain⟨g,i,j,t,e,c⟩:=x;exact⟨g,i,j,t,k _ _ (.inl rfl) e,c⟩
 | ins C dx fs=>
  obtain⟨d,z,Q,e,B,⟨od,i,j,F,c⟩,r⟩:=x
  exact⟨T _ d,z,Q,k _ _ (.inl rfl) e,B,⟨od,i,j,k _ _ (.inr d) F,c⟩,r⟩
 | own y=>obtain⟨g,e⟩:=x;exact⟨g,k _ _ (.inl rfl) e⟩
 | xd fs=>obtain⟨B,⟨od,i,j,e,c⟩,r⟩:=x;exact⟨B,⟨od,i,j,k _ _ (.inl rfl) e,c⟩,r⟩
 | rng Y Z=>obtain⟨t,u,v,e⟩:=x;exact⟨t,u,v,k _ _ (.inl rfl) e⟩
 | frz g u R=>obtain⟨e,q⟩:=x;exact⟨k _ _ (.inl rfl) e,R q⟩
 | tbl O=>
  obtain⟨J,e,t,z⟩:=(show oZ H h a O from x)
  exact⟨J,k a _ (.inl rfl) e,t,fun A l X F U=>(z A l X F U).imp id fun⟨c,y1,y2⟩=>⟨c,y1,I c (.inr l) y2⟩⟩
 | cod q=>
  obtain⟨_,g,s,t,N,M,K⟩:=(show h.CodeRec (.ref a) q from x);cases N
  exact⟨a,g,s,t,rfl,k _ _ (.inl rfl) M,K⟩
 | met f y=>
  have e:h.get? a=some (PySem.W.methodObj (.ref f) (.ref y)):=x
  show h'.get? a=some (PySem.W.methodObj (.ref f) (.ref y))
  exact k a _ (.inl rfl) e
 | ext φ=>obtain⟨p,⟨o,e⟩,G⟩:=x;exact⟨G _ _ p fun o q=>k _ _ (.inl rfl) q,⟨o,k _ _ (.inl rfl) e⟩,G⟩
theorem dV.lt(x:dV P w H h)(e:H a=some o):a<h.objs.size:=(x a o e).lt
theorem dV.fresh(x:dV P w H h)(e:h.objs.size<=a):H a=none:=by
 cases q:H a with
 | none=>rfl
 | some u=>exact absurd (QB (x.lt q) e) (YV _)
theorem dV.kept(x:dV P w H h)(k:∀ b u,h.get? b=some u->h'.get? b=some u):dV P w H h':=fun a o e=>
 (x a o e).stay (fun b u _ q=>k b u q) (fun _ q=>q) fun _ _ q=>q
theorem dV.laid(x:dV P w H h)(k:∀ b u,h.get? b=some u->h'.get? b=some u)(i:h.objs.size<=a)(d:eY P w (aZ H a o) h' a o):dV P w (aZ H a o) h':=fun b u e=>by
 have f:=x.fresh i;by_cases g:b=a
 ·subst g;rw [dY]at e;cases e;exact d
 ·rw [bI g]at e
  exact(x b u e).stay (fun c v _ q=>k c v q) (fun c q=>by rw [bI (fV q f)];exact q) fun c j q=>by rw [bI (fV q f)];exact q
end
def Rd(H:Hp)(a:JY)(u:HO):Prop:=H a=some u ∨ ∃ o,H a=some (.frz o u)
theorem Rd.ok{P:J2}{w:J4}{H:Hp}{h:Heap}{a:JY}{u:HO}(r:Rd H a u)(x:dV P w H h):eY P w H h a u:=by
 rcases r with r | ⟨o,r⟩
 ·exact x a u r
 ·obtain⟨_,q⟩:=x a _ r;exact q
def tP:Option HO->Prop
 | some (.lst _)=>True
 | some (.dK _)=>True
 | some (.dT _)=>True
 | some (.set _ _)=>True
 | some (.ins _ _ _)=>True
 | some (.ext _)=>True
 | _=>False
section
variable {P:J2}{w:J4}{H:Hp}{h h':Heap}{x e:JY}{o':HO}
theorem dV.write(ok:dV P w H h)(i:tP (H x))(he:e=x ∨ H e=some (.own x))(k:∀ b u,b≠e->h.get? b=some u->h'.get? b=some u)(n:∃ u,h'.get? e=some u)
  (m:eY P w (aZ H x o') h' x o'):dV P w (aZ H x o') h':=fun b u q=>by
 have d:∀ c y,H c=some (.own y)->c≠x:=fun c y r z=>by subst z;rw [r]at i;exact i
 have g:∀ c f,H c=some (zJ f)->c≠x:=fun c f r z=>by subst z;rw [r]at i;cases f <;> exact i
 by_cases l:b=x
 ·subst l;rw [dY]at q;cases q;exact m
 ·rw [bI l]at q;by_cases a:b=e
  ·have o:H b=some (.own x):=by
    rcases he with z | z
    ·exact absurd (a.trans z) l
    ·rw [a];exact z
   rw [q]at o;cases o;obtain⟨v,p⟩:=n
   exact⟨v,by rw [a];exact p⟩
  ·refine(ok b u q).stay (fun c v j r=>k c v ?_ r) (fun c r=>by rw [bI (d c b r)];exact r) fun c f r=>by rw [bI (g c f r)];exact r
   rcases j with rfl | j
   ·exact a
   ·rintro rfl;rcases he with z | z
    ·exact d c b j z
    ·rw [j]at z;cases z;exact l rfl
end
structure Un(fs ex:List JY)(H H':Hp)(h h':Heap):Prop where
 keep:∀ b o,h.get? b=some o->H b=none->b∉fs->b∉ex->h'.get? b=some o
 slot:∀ b o,h.get? b=some o->H b=none->b∈fs->b∉ex->∃ sl,h'.get? b=some { o with slots:=sl }
 free:∀ b o,h.get? b=some o->H b=none->b∉ex->H' b=none
 there:∀ b o,h.get? b=some o->b∉ex->∃ o',h'.get? b=some o'
 tups:∀ b xs,H b=some (.tup xs)->H' b=some (.tup xs)
 frzs:∀ b o u,H b=some (.frz o u)->H' b=some (.frz o u)
 tbls:∀ b ps,H b=some (.tbl ps)->∃ more,H' b=some (.tbl (ps++more))
section
variable {fs fs' ex ex':List JY}{H H1 H2:Hp}{h h1 h2 h':Heap}{a x e:JY}{o:HO}
theorem Un.any(u:Un fs ex H H1 h h1){b:JY}{a:Obj}(q:h.get? b=some a)(n:H b=none)(c:b∉ex):∃ sl,h1.get? b=some { a with slots:=sl }:=by
 by_cases d:b∈fs
 ·exact u.slot b a q n d c
 ·exact⟨a.slots,u.keep b a q n d c⟩
theorem Un.kept(k:∀ b u,h.get? b=some u->h'.get? b=some u):Un fs ex H H h h':=
 ⟨fun b a q _ _ _=>k b a q,fun b a q _ _ _=>⟨a.slots,k b a q⟩,fun _ _ _ n _=>n,fun b a q _=>⟨a,k b a q⟩,fun _ _ q=>q,fun _ _ _ q=>q,fun _ c q=>⟨#[],by rw [q];simp⟩⟩
theorem Un.refl:Un fs ex H H h h:=Un.kept fun _ _ q=>q
theorem Un.laid(k:∀ b u,h.get? b=some u->h'.get? b=some u)(e:h.objs.size<=a)(c:H a=none):Un fs ex H (aZ H a o) h h' where
 keep:=fun b u q _ _ _=>k b u q
 slot:=fun b u q _ _ _=>⟨u.slots,k b u q⟩
 free:=fun b u q n _=>by rw [bI (Qu (QB (Qs q) e))];exact n
 there:=fun b u q _=>⟨u,k b u q⟩
 tups:=fun b d q=>by rw [bI (fV q c)];exact q
 frzs:=fun b u d q=>by rw [bI (fV q c)];exact q
 tbls:=fun b f q=>⟨#[],by rw [bI (fV q c),q];simp⟩
theorem Un.write(c:tP (H x))(he:e=x ∨ H e=some (.own x))(k:∀ b u,b≠e->h.get? b=some u->h'.get? b=some u)(f:∃ u,h'.get? e=some u):Un fs ex H (aZ H x o) h h':=by
 have g:∀ b,H b=none->b≠x:=fun b n z=>by subst z;rw [n]at c;exact c
 have i:∀ b,H b=none->b≠e:=fun b n z=>by
  subst z;rcases he with r | r
  ·exact g b n r
  ·rw [n]at r;cases r
 have d:∀ b u,H b=some u->¬ tP (some u)->b≠x:=fun b u q l z=>by subst z;rw [q]at c;exact l c
 refine⟨fun b u q n _ _=>k b u (i b n) q,fun b u q n _ _=>⟨u.slots,k b u (i b n) q⟩,fun b u q n _=>by rw [bI (g b n)];exact n,fun b u q _=>?_,
  fun b j q=>by rw [bI (d b _ q fun z=>z)];exact q,fun b u j q=>by rw [bI (d b _ q fun z=>z)];exact q,fun b m q=>⟨#[],by rw [bI (d b _ q fun z=>z),q];simp⟩⟩
 by_cases a:b=e
 ·subst a;exact f
 ·exact⟨u,k b u a q⟩
end
def uS(h:Heap)(H:Hp):List JY:=(J5 h.objs.size).filter fun a=>(H a).isSome
def j9(h:Heap)(H:Hp):Heap:=PySem.W.hideAll h (uS h H)
theorem OP(h:Heap)(H:Hp):(j9 h H).objs.size=h.objs.size:=PySem.W.hideAll_size _ _
theorem Nk{h:Heap}{H:Hp}{b:JY}{o:Obj}(e:h.get? b=some o)(n:H b=none):(j9 h H).get? b=some o:=
 PySem.W.hideAll_get _ e fun a=>by
  have q:(H b).isSome=true:=(Yo.mp a).2;rw [n]at q;simp at q
theorem Rr{h:Heap}{H:Hp}{b:JY}{o:Obj}(e:(j9 h H).get? b=some o):h.get? b=some o/\H b=none:=by
 have a:h.get? b=some o:=PySem.W.of_hideAll (uS h H) e
 refine⟨a,?_⟩
 cases q:H b with
 | none=>rfl
 | some x=>
  have c:b∈uS h H:=Yo.mpr ⟨QS.mpr (Qs a),by simp [q]⟩;have z:(j9 h H).get? b=none:=PySem.W.hideAll_none (uS h H) c;rw [z]at e;cases e
structure Mod(K:PySem.W.Frag)(mg:Str->Option Value)(base:Heap):Prop where
 kin:K.In base
 glob:base.Ns Za mg
 blt:∃ mb,base.Ns builtinsNs mb/\∀ x:Str,x≠"__name__"->mb x=Zk x
 nolimit:base.NoLimit
structure Cx where
 prog:J2
 w:J4
 K:PySem.W.Frag
 mg:Str->Option Value
 base:Heap
 A:Around
 N:List Str
 s₀:YP
 H₀:Hp
 env:Env
 outer:List Env
 stack:List Env
 ex:List JY
 fn:Str->Bool
 calm:Bool
 pn:List (JY × Obj)
 xe:Value->YP->Prop
def jB(l:List Env):List JY:=l.filterMap (·.frame)
abbrev Cx.fs(X:Cx):List JY:=jB X.outer
def i7(a:ZK)(x:Str):Prop:=a.names.lookup x=some .local ∨ a.names.lookup x=some .cell ∨ a.names.lookup x=some .free
def i6(a:ZK)(x:Str):Prop:=a.names.lookup x=some .local ∨ a.names.lookup x=some .cell
def H7(env:Env)(h:Heap)(m:Str->Option Value)(x:Str)(u:Value):Prop:=
 (env.kindOf x=some .local/\m x=some u) ∨ ((env.kindOf x=some .cell ∨ env.kindOf x=some .free)/\∃ c,env.cells.lookup x=some c/\h.IsCell c (some u))
structure Cx.Ok(X:Cx):Prop where
 mod:Mod X.K X.mg X.base
 kind:X.env.scope.kind=.function
 glob:X.env.globals=Za
 blt:X.env.builtins=builtinsNs
 above:X.s₀.heap.objs.size<=X.env.locals
 inj:∀ x y c,X.env.cells.lookup x=some c->X.env.cells.lookup y=some c->x=y
 has:∀ x,(X.env.kindOf x=some .cell ∨ X.env.kindOf x=some .free)->∃ c,X.env.cells.lookup x=some c
 cab:∀ x c,X.fn x=true->X.env.cells.lookup x=some c->X.s₀.heap.objs.size<=c
 hd:X.calm=true->X.A.handled=none
 frames:X.A.frames=some X.stack
 stk:X.stack=X.outer ∨ (X.stack=X.env::X.outer/\X.env.frame=some X.env.locals)
 exf:∀ b∈X.ex,b≠X.env.locals/\∀ x c,X.env.cells.lookup x=some c->c≠b
 bs:∀ b o,X.base.get? b=some o->X.s₀.heap.get? b=some o/\X.H₀ b=none
 bsz:X.base.objs.size<=X.s₀.heap.objs.size
 noex:∀ b o,X.base.get? b=some o->b∉X.ex
 exfs:∀ b∈X.ex,b∉X.fs
 funs:X.s₀.heap.FunFrames X.base X.outer
 frf:∀ b∈X.fs,X.H₀ b=none
structure Inv(X:Cx)(pins:List (JY × Obj))(σ:List (Option V))(H:Hp)(s:YP):Prop where
 ok:X.Ok
 os:s.os=X.s₀.os
 bare:U4 s.gens
 base:Un X.fs X.ex X.H₀ H X.s₀.heap s.heap
 loc:∃ m,s.heap.Ns X.env.locals m/\∀(i:Nat) (x:Str) (v:V),X.N[i]?=some x->σ[i]?=some (some v)->i7 X.env.scope x->∃ u,RelV v u/\H7 X.env s.heap m x u
 cell:∀ x c,X.env.cells.lookup x=some c->∃ v,s.heap.IsCell c v
 free:H X.env.locals=none
 freeC:∀ x c,X.env.cells.lookup x=some c->H c=none
 pin:∀ p∈X.pn++pins,s.heap.get? p.1=some p.2/\H p.1=none/\p.1≠X.env.locals/\p.1∉X.fs/\∀ v,p.2.data≠.cell v
 hok:dV X.prog X.w H s.heap
 len:σ.length=X.N.length
section
variable {X:Cx}{pins:List (JY × Obj)}{σ:List (Option V)}{H H':Hp}{s:YP}{h':Heap}
theorem Cx.Ok.nofr(ok:X.Ok){b:JY}{o:Obj}(e:X.base.get? b=some o):b∉X.fs:=fun a=>by
 have:=(ok.funs.mem a).1
 rw [e]at this;cases this
theorem Inv.bs(I:Inv X pins σ H s):∀ b o,X.base.get? b=some o->s.heap.get? b=some o/\H b=none:=fun b o e=>
 ⟨I.base.keep b o (I.ok.bs b o e).1 (I.ok.bs b o e).2 (I.ok.nofr e) (I.ok.noex b o e),I.base.free b o (I.ok.bs b o e).1 (I.ok.bs b o e).2 (I.ok.noex b o e)⟩
theorem Inv.bk(I:Inv X pins σ H s):∀ b o,X.base.get? b=some o->s.heap.get? b=some o:=fun b o e=>(I.bs b o e).1
theorem Inv.mod(I:Inv X pins σ H s):Mod X.K X.mg X.base:=I.ok.mod
theorem Inv.kIn(I:Inv X pins σ H s):X.K.In s.heap:=I.ok.mod.kin.keeps I.bk
theorem Inv.lt(I:Inv X pins σ H s):X.env.locals<s.heap.objs.size:=let⟨_,hn,_⟩:=I.loc;hn.lt
theorem Inv.sz(I:Inv X pins σ H s):X.s₀.heap.objs.size<=s.heap.objs.size:=Qz I.ok.above (Yu I.lt)
theorem Inv.nofs(I:Inv X pins σ H s){a:JY}(h:s.heap.objs.size<=a):a∉X.fs:=fun c=>by
 obtain⟨_,o,b,_⟩:=I.ok.funs.mem c;exact absurd (QB (Qs b) (Qz I.sz h)) (YV _)
theorem Inv.cne(I:Inv X pins σ H s):∀ x c,X.env.cells.lookup x=some c->c≠X.env.locals:=fun x c e z=>by
 obtain⟨v,o,d,f⟩:=I.cell x c e;obtain⟨m,⟨g,h,i,a,b,_⟩,_⟩:=I.loc;rw [z,a]at d;cases d;rw [b]at f;cases f
theorem Inv.funs(I:Inv X pins σ H s):s.heap.FunFrames X.base X.outer:=by
 have all:∀(l:List Env),(∀ b∈jB l,b∈X.fs)->X.s₀.heap.FunFrames X.base l->s.heap.FunFrames X.base l:=by
  intro l
  induction l with
  | nil=>intro _ _;trivial
  | cons p r g=>
   intro f k;obtain⟨m,⟨L,o,a,j,i,n⟩,h⟩:=k;have d:L∈X.fs:=f L (by unfold jB;rw [JR,a];exact Qe);obtain⟨q,e⟩:=I.base.slot L o i (I.ok.frf L d) d fun z=>I.ok.exfs L z d
   exact⟨m,⟨L,_,a,j,e,n⟩,g (fun b c=>f b (by unfold jB;rw [JR,a];exact Qg _ c)) h⟩
 exact all X.outer (fun _ c=>c) I.ok.funs
theorem Inv.stack(I:Inv X pins σ H s):s.heap.FunFrames X.base X.stack:=by
 rcases I.ok.stk with e | ⟨e,b⟩
 ·rw [e];exact I.funs
 ·rw [e];obtain⟨m,a,_⟩:=I.loc;refine .cons (by rw [I.ok.kind];decide) b a ?_ I.funs;exact Heap.get?_none_of_le (Qz I.ok.bsz I.ok.above)
theorem Inv.stkSub(I:Inv X pins σ H s):∀ b∈jB X.stack,b∈X.env.locals::X.fs:=fun b a=>by
 rcases I.ok.stk with e | ⟨e,c⟩
 ·rw [e]at a;exact Qg _ a
 ·rw [e]at a;unfold jB at a;rw [JR,c]at a;exact a
theorem Inv.stkFree(I:Inv X pins σ H s):∀ b∈jB X.stack,H b=none:=fun b a=>by
 rcases Qj.mp (I.stkSub b a)with e | a
 ·rw [e];exact I.free
 ·obtain⟨_,o,c,_⟩:=I.ok.funs.mem a;exact I.base.free b o c (I.ok.frf b a) fun z=>I.ok.exfs b z a
theorem Inv.step{g':Array GenState}{t':Nat}{d':Drawn}{ch:List JY}(I:Inv X pins σ H s)
  (g:∀ b∈ch,(b∈X.ex ∨ X.s₀.heap.objs.size<=b)/\b≠X.env.locals/\(∀ x c,X.env.cells.lookup x=some c->c≠b)/\∀ p∈X.pn++pins,p.1≠b)
  (keep:∀ b o,b≠X.env.locals->b∉X.fs->b∉ch->s.heap.get? b=some o->H b=none->h'.get? b=some o)
  (slot:∀ b o,b≠X.env.locals->b∈X.fs->b∉ch->s.heap.get? b=some o->H b=none->∃ sl,h'.get? b=some { o with slots:=sl }) (free:∀ b o,b∉ch->s.heap.get? b=some o->H b=none->H' b=none)
  (y:∀ b o,b∉ch->s.heap.get? b=some o->∃ o',h'.get? b=some o')
  (E:∀ b xs,H b=some (.tup xs)->H' b=some (.tup xs)) (J:∀ b o u,H b=some (.frz o u)->H' b=some (.frz o u)) (F:∀ b ps,H b=some (.tbl ps)->∃ more,H' b=some (.tbl (ps++more)))
  (ns:∀ m,s.heap.Ns X.env.locals m->h'.Ns X.env.locals m) (N:dV X.prog X.w H' h') (hg:U4 g'):
  Inv X pins σ H' { s with heap:=h',gens:=g',drawn:=d',toks:=t' }:=by
 have G:∀ b o,X.s₀.heap.get? b=some o->b≠X.env.locals:=fun b o e=>Qu (QB (Qs e) I.ok.above)
 have j:∀ b o,X.s₀.heap.get? b=some o->b∉X.ex->b∉ch:=fun b o e a A=>by
  rcases(g b A).1 with z | z
  ·exact a z
  ·exact absurd (QB (Qs e) z) (YV _)
 have h:∀ x c,X.env.cells.lookup x=some c->∀ v,s.heap.IsCell c v->h'.IsCell c v:=fun x c e v U=>by
  obtain⟨o,B,O⟩:=U;have f:c∉ch:=fun z=>(g c z).2.2.1 x c e rfl;by_cases T:c∈X.fs
  ·obtain⟨sl,q⟩:=slot c o (I.cne x c e) T f B (I.freeC x c e)
   exact⟨_,q,O⟩
  ·exact⟨o,keep c o (I.cne x c e) T f B (I.freeC x c e),O⟩
 refine⟨I.ok,I.os,hg,⟨fun b o e n A a=>?_,fun b o e n A a=>?_,fun b o e n a=>?_,fun b o e a=>?_,fun b xs e=>E b xs (I.base.tups b xs e),fun b o xs e=>J b o xs (I.base.frzs b o xs e),fun b ps e=>?_⟩,?_,fun x c e=>?_,?_,fun x c e=>?_,fun p S=>?_,N,I.len⟩
 ·exact keep b o (G b o e) A (j b o e a) (I.base.keep b o e n A a) (I.base.free b o e n a)
 ·obtain⟨sl,t⟩:=I.base.slot b o e n A a;obtain⟨M,K⟩:=slot b _ (G b o e) A (j b o e a) t (I.base.free b o e n a)
  exact⟨M,K⟩
 ·obtain⟨o',t⟩:=I.base.there b o e a;exact free b o' (j b o e a) t (I.base.free b o e n a)
 ·obtain⟨o',t⟩:=I.base.there b o e a;exact y b o' (j b o e a) t
 ·obtain⟨Y,t⟩:=I.base.tbls b ps e;obtain⟨W,K⟩:=F b _ t
  exact⟨Y++W,by rw [K,Array.append_assoc]⟩
 ·obtain⟨m,Z,hl⟩:=I.loc
  refine⟨m,ns m Z,fun i x v t K e3=>?_⟩
  obtain⟨u,r,l⟩:=hl i x v t K e3
  refine⟨u,r,?_⟩
  rcases l with l | ⟨k,c,e,z⟩
  ·exact .inl l
  ·exact .inr ⟨k,c,e,h x c e _ z⟩
 ·obtain⟨v,z⟩:=I.cell x c e
  exact⟨v,h x c e v z⟩
 ·obtain⟨m,⟨o,_,_,B,_⟩,_⟩:=I.loc;exact free _ o (fun z=>(g _ z).2.1 rfl) B I.free
 ·obtain⟨v,o,B,O⟩:=I.cell x c e;exact free c o (fun z=>(g c z).2.2.1 x c e rfl) B (I.freeC x c e)
 ·obtain⟨e,n,R,Q,d⟩:=I.pin p S;have f:p.1∉ch:=fun z=>(g p.1 z).2.2.2 p S rfl
  exact⟨keep p.1 p.2 R Q f e n,free p.1 p.2 f e n,R,Q,d⟩
theorem Inv.un{t':Nat}(I:Inv X pins σ H s)(u:Un X.fs [] H H' s.heap h')(c:dV X.prog X.w H' h'):Inv X pins σ H' { s with heap:=h',toks:=t' }:=by
 obtain⟨m,⟨o,t,v,h,r⟩,_⟩:=id I.loc;obtain⟨l,k⟩:=u.any h I.free (by simp)
 exact I.step (g':=s.gens) (d':=s.drawn) (ch:=[]) (fun _ z=>nomatch z) (fun b o _ d _ e n=>u.keep b o e n d (by simp)) (fun b o _ d _ e n=>u.slot b o e n d (by simp)) (fun b o _ e n=>u.free b o e n (by simp)) (fun b o _ e=>u.there b o e (by simp)) u.tups u.frzs u.tbls (fun q j=>by
  obtain⟨p,f,g,a,i⟩:=j;rw [h]at a;cases a
  exact⟨_,f,g,k,i⟩) c I.bare
theorem Inv.call{g':Array GenState}{t':Nat}{d':Drawn}{ch:List JY}(I:Inv X pins σ H s)(u:Un (jB X.stack) ch H H' s.heap h')(g:dV X.prog X.w H' h')(t:U4 g')
  (f:∀ b∈ch,(b∈X.ex ∨ X.s₀.heap.objs.size<=b)/\b≠X.env.locals/\(∀ x c,X.env.cells.lookup x=some c->c≠b)/\∀ p∈X.pn++pins,p.1≠b):
  Inv X pins σ H' { s with heap:=h',gens:=g',drawn:=d',toks:=t' }:=by
 obtain⟨m,⟨o,E,F,k,r⟩,_⟩:=id I.loc;obtain⟨y,h⟩:=u.any k I.free fun z=>(f _ z).2.1 rfl
 exact I.step (ch:=ch) f (fun b o h v a e n=>u.keep b o e n (fun z=>(Qj.mp (I.stkSub b z)).elim h v) a) (fun b o _ _ a e n=>u.any e n a) (fun b o a e n=>u.free b o e n a) (fun b o a e=>u.there b o e a) u.tups u.frzs u.tbls (fun B q=>by
  obtain⟨A,i,j,d,l⟩:=q;rw [k]at d;cases d
  exact⟨_,i,j,h,l⟩) g t
theorem Inv.turned{t':Nat}{it:JY}(I:Inv X pins σ H s)(k:∀ b o,b≠it->s.heap.get? b=some o->h'.get? b=some o)(h:H it=none)(f:it≠X.env.locals)
  (w:it∈X.ex ∨ X.s₀.heap.objs.size<=it) (t:∀ x c,X.env.cells.lookup x=some c->c≠it) (l:∀ p∈X.pn++pins,p.1≠it):Inv X pins σ H { s with heap:=h',toks:=t' }:=by
 have d:∀ b u,H b=some u->b≠it:=fun b u e z=>by rw [z,h]at e;cases e
 refine I.step (g':=s.gens) (d':=s.drawn) (ch:=[it]) (fun b j=>?_) (fun b o _ _ a e _=>k b o (fun z=>a (by simp [z])) e) (fun b o _ _ a e _=>⟨o.slots,k b o (fun z=>a (by simp [z])) e⟩) (fun _ _ _ _ n=>n)
  (fun b o a e=>⟨o,k b o (fun z=>a (by simp [z])) e⟩) (fun _ _ e=>e) (fun _ _ _ e=>e) (fun b B e=>⟨#[],by rw [e];simp⟩) (fun m i=>?_) (fun b u e=>?_) I.bare
 ·have e:b=it:=by simpa using j
  subst e
  exact⟨w,f,t,l⟩
 ·obtain⟨o,y,A,g,r⟩:=i
  exact⟨o,y,A,k _ o (Zy f) g,r⟩
 ·refine(I.hok b u e).stay (fun c v a q=>k c v ?_ q) (fun _ q=>q) fun _ _ q=>q
  rcases a with z | z
  ·rw [z];exact d b u e
  ·exact d c _ z
theorem Inv.tok(I:Inv X pins σ H s)(t:Nat):Inv X pins σ H { s with toks:=t }:=I.un (h':=s.heap) (t':=t) Un.refl I.hok
theorem Inv.kept{t':Nat}(I:Inv X pins σ H s)(k:∀ b u,s.heap.get? b=some u->h'.get? b=some u):Inv X pins σ H { s with heap:=h',toks:=t' }:=I.un (Un.kept k) (I.hok.kept k)
theorem Inv.laid{a:JY}{o:HO}{t':Nat}(I:Inv X pins σ H s)(k:∀ b u,s.heap.get? b=some u->h'.get? b=some u)(d:s.heap.objs.size<=a)(c:eY X.prog X.w (aZ H a o) h' a o):
  Inv X pins σ (aZ H a o) { s with heap:=h',toks:=t' }:=I.un (Un.laid k d (I.hok.fresh d)) (I.hok.laid k d c)
theorem Inv.write{x e:JY}{o:HO}{t':Nat}(I:Inv X pins σ H s)(d:tP (H x))(he:e=x ∨ H e=some (.own x))(k:∀ b u,b≠e->s.heap.get? b=some u->h'.get? b=some u)(a:∃ u,h'.get? e=some u)
  (c:eY X.prog X.w (aZ H x o) h' x o):Inv X pins σ (aZ H x o) { s with heap:=h',toks:=t' }:=I.un (Un.write d he k a) (I.hok.write d he k a c)
theorem Inv.pins_of{a:List (JY × Obj)}(I:Inv X pins σ H s)(h:∀ p∈a,s.heap.get? p.1=some p.2/\H p.1=none/\p.1≠X.env.locals/\p.1∉X.fs/\∀ v,p.2.data≠.cell v):Inv X a σ H s:=
 ⟨I.ok,I.os,I.bare,I.base,I.loc,I.cell,I.free,I.freeC,fun p b=>(Qv.mp b).elim (fun z=>I.pin p (QK _ z)) (h p),I.hok,I.len⟩
theorem FQ{N:List Str}(c:N.Nodup){i j:Nat}{x:Str}(a:N[i]?=some x)(b:N[j]?=some x):i=j:=by
 obtain⟨g,e⟩:=Qf.mp a;obtain⟨f,d⟩:=Qf.mp b
 exact(List.getElem_inj c).mp (e.trans d.symm)
theorem T4{M:Model}{A:Around}{E:Value->YP->Prop}{i:Nat}{x:Str}{v:V}{u:Value}{Q:Unit->YP->Prop}(I:Inv X pins σ H s)(hN:X.N.Nodup)(W:X.N[i]?=some x)(B:i6 X.env.scope x)(r:RelV v u)
  (h:∀ s',Inv X pins (σ.set i (some v)) H s'->(∃ a,Zi a s.heap s'.heap/\(a=X.env.locals ∨ X.env.cells.lookup x=some a))->Q () s') (hf:X.fn x=true ∨ X.env.scope.names.lookup x=some .local:=by first | exact .inl rfl | exact .inr rfl | assumption):JZ M A (storeName X.env x u) Q E s:=by
 obtain⟨m,hn,hl⟩:=id I.loc
 have Y:(X.env.scope.kind == .class || (X.env.scope.kind == .module && X.env.locals != X.env.globals))=false:=by rw [I.ok.kind];rfl
 have K:i<σ.length:=by rw [I.len];exact(Qf.mp W).1
 have cne:=I.cne
 have g:∀{a:JY}{h':Heap},(∃ o,s.heap.get? a=some o/\H a=none)->Zi a s.heap h'->dV X.prog X.w H h':=fun{a h'} ha f b ob e=>by
  obtain⟨_,_,F⟩:=ha
  refine(I.hok b ob e).stay (fun c w' t q=>(f.2 c ?_).trans q) (fun _ q=>q) fun _ _ q=>q
  rintro rfl;rcases t with rfl | t
  ·rw [F]at e;cases e
  ·rw [F]at t;cases t
 rcases B with J | J
 ·refine wpAny_storeName_local J hn (fun h' a2 f=>?_) Y;obtain⟨oL,_,_,a1,_⟩:=id hn;refine h _ ⟨I.ok,I.os,I.bare,⟨fun b o e n S B=>?_,fun b o e n S B=>?_,I.base.free,fun b o e B=>?_,I.base.tups,I.base.frzs,I.base.tbls⟩,⟨_,a2,fun j y v' l G e3=>?_⟩,fun y c e=>?_,I.free,I.freeC,fun p hp=>?_,g ⟨oL,a1,I.free⟩ f,by simpa using I.len⟩ ⟨_,f,.inl rfl⟩
  ·exact(f.2 b (Qu (QB (Qs e) I.ok.above))).trans (I.base.keep b o e n S B)
  ·obtain⟨sl,l⟩:=I.base.slot b o e n S B
   exact⟨sl,(f.2 b (Qu (QB (Qs e) I.ok.above))).trans l⟩
  ·obtain⟨o',l⟩:=I.base.there b o e B
   exact⟨o',(f.2 b (Qu (QB (Qs e) I.ok.above))).trans l⟩
  ·by_cases O:j=i
   ·subst O;rw [W]at l;cases l;rw [QG K]at G;cases G
    exact⟨u,r,.inl ⟨J,by simp⟩⟩
   ·rw [QC (Zy O)]at G;obtain⟨u',r',q⟩:=hl j y v' l G e3
    refine⟨u',r',?_⟩
    rcases q with⟨k,e⟩ | ⟨k,c,e,z⟩
    ·refine .inl ⟨k,?_⟩
     have:y≠x:=fun e=>O (FQ hN l (e ▸ W))
     simp [this,e]
    ·exact .inr ⟨k,c,e,z.sameBut f (cne y c e)⟩
  ·obtain⟨w',z⟩:=I.cell y c e
   exact⟨w',z.sameBut f (cne y c e)⟩
  ·obtain⟨e,n,ne,nf,d⟩:=I.pin p hp
   exact⟨(f.2 p.1 ne).trans e,n,ne,nf,d⟩
 ·have R:X.fn x=true:=by
   rcases hf with z | z
   ·exact z
   ·rw [z]at J;cases J
  obtain⟨c,t⟩:=I.ok.has x (.inl J);obtain⟨w',z⟩:=I.cell x c t;refine wpAny_storeName_cell I.ok.kind J t z (fun h' a0 f=>?_);obtain⟨oc,U,T⟩:=id z;refine h { s with heap:=h' } ⟨I.ok,I.os,I.bare,⟨fun b o e n S B=>?_,fun b o e n S B=>?_,I.base.free,fun b o e B=>?_,I.base.tups,I.base.frzs,I.base.tbls⟩,⟨m,hn.sameBut f (Zy (cne x c t)),fun j y v' l G e3=>?_⟩,fun y c' e=>?_,I.free,I.freeC,fun p hp=>?_,g ⟨oc,U,I.freeC x c t⟩ f,by simpa using I.len⟩ ⟨c,f,.inr t⟩
  ·exact(f.2 b (Qu (QB (Qs e) (I.ok.cab x c R t)))).trans (I.base.keep b o e n S B)
  ·obtain⟨sl,l⟩:=I.base.slot b o e n S B
   exact⟨sl,(f.2 b (Qu (QB (Qs e) (I.ok.cab x c R t)))).trans l⟩
  ·obtain⟨o',l⟩:=I.base.there b o e B
   exact⟨o',(f.2 b (Qu (QB (Qs e) (I.ok.cab x c R t)))).trans l⟩
  ·by_cases O:j=i
   ·subst O;rw [W]at l;cases l;rw [QG K]at G;cases G
    exact⟨u,r,.inr ⟨.inl J,c,t,a0⟩⟩
   ·rw [QC (Zy O)]at G;obtain⟨u',r',q⟩:=hl j y v' l G e3
    refine⟨u',r',?_⟩
    rcases q with q | ⟨k,c',e,z'⟩
    ·exact .inl q
    ·refine .inr ⟨k,c',e,z'.sameBut f ?_⟩;rintro rfl;exact O (FQ hN l (I.ok.inj _ _ _ e t ▸ W))
  ·by_cases Z:c'=c
   ·subst Z;exact⟨_,a0⟩
   ·obtain⟨w2,z2⟩:=I.cell y c' e
    exact⟨w2,z2.sameBut f Z⟩
  ·obtain⟨e,n,ne,nf,d⟩:=I.pin p hp
   refine⟨(f.2 p.1 ?_).trans e,n,ne,nf,d⟩
   intro q;rw [q,U]at e;have q':oc=p.2:=QL e;exact d w' (by rw [<- q'];exact T)
theorem GB{M:Model}{A:Around}{E:Value->YP->Prop}{i:Nat}{x:Str}{v:V}{u:Value}{Q:Unit->YP->Prop}(I:Inv X pins σ H s)(d:X.N.Nodup)(b:X.N[i]?=some x)(a:i6 X.env.scope x)(r:RelV v u)
  (h:∀ s',Inv X pins (σ.set i (some v)) H s'->Q () s') (c:X.fn x=true ∨ X.env.scope.names.lookup x=some .local:=by first | exact .inl rfl | exact .inr rfl | assumption):JZ M A (storeName X.env x u) Q E s:=
 T4 I d b a r (fun s' e _=>h s' e) c
theorem Inv.call'{s':YP}{ch:List JY}(I:Inv X pins σ H s)(g:s'.os=s.os)(u:Un (jB X.stack) ch H H' s.heap s'.heap)(a:dV X.prog X.w H' s'.heap)(h:U4 s'.gens)
  (d:∀ b∈ch,(b∈X.ex ∨ X.s₀.heap.objs.size<=b)/\b≠X.env.locals/\(∀ x c,X.env.cells.lookup x=some c->c≠b)/\∀ p∈X.pn++pins,p.1≠b):Inv X pins σ H' s':=by
 obtain⟨i,g',d',t',f⟩:=s';have e:f=s.os:=g;subst e;exact I.call (g':=g') (t':=t') (d':=d') u a h d
end
abbrev XK:=Value->Option JY->Hp->Prop
abbrev St:=List (Option V)
abbrev VK:=V->Hp->Prop
abbrev TE:=St->Hp->VK->Prop
abbrev TT:=St->Hp->(Bool->Hp->Prop)->Prop
abbrev TA:=St->Hp->(List V->Hp->Prop)->Prop
structure kN where
 nx:St->Hp->Prop
 rt:VK
 bk:St->Hp->Prop:=fun _ _=>False
 ct:St->Hp->Prop:=fun _ _=>False
abbrev TS:=kN->St->Hp->Prop
def EP(X:Cx)(pins:List (JY × Obj))(σ:St)(Q:VK)(u:Value)(a:YP):Prop:=∃ v H',Inv X pins σ H' a/\RelV v u/\Q v H'
def TP(X:Cx)(pins:List (JY × Obj))(σ:St)(Q:Bool->Hp->Prop)(b:Bool)(a:YP):Prop:=∃ H',Inv X pins σ H' a/\Q b H'
def AP(X:Cx)(pins:List (JY × Obj))(σ:St)(Q:List V->Hp->Prop)(us:List Value)(a:YP):Prop:=∃ vs H',Inv X pins σ H' a/\Vals vs us/\Q vs H'
def SP(X:Cx)(pins:List (JY × Obj))(D:kN)(f:Flow)(a:YP):Prop:=
 match f with
 | .next=>∃ σ' H',Inv X pins σ' H' a/\D.nx σ' H'
 | .brk=>∃ σ' H',Inv X pins σ' H' a/\D.bk σ' H'
 | .cont=>∃ σ' H',Inv X pins σ' H' a/\D.ct σ' H'
 | .ret u=>∃ v σ' H',Inv X pins σ' H' a/\RelV v u/\D.rt v H'
def PE(X:Cx)(e:Expr)(t:TE):Prop:=
 ∀(pins:List (JY × Obj)) (s:YP) (σ:St) (H:Hp) (Q:VK),Inv X pins σ H s->t σ H Q->JZ (J1 X.prog X.w) X.A (Zs e X.env) (EP X pins σ Q) X.xe s
def PT(X:Cx)(e:Expr)(t:TT):Prop:=
 ∀(pins:List (JY × Obj)) (s:YP) (σ:St) (H:Hp) (Q:Bool->Hp->Prop),Inv X pins σ H s->t σ H Q->JZ (J1 X.prog X.w) X.A (isTrue e X.env (Zs e X.env)) (TP X pins σ Q) X.xe s
def PW(X:Cx)(e:Expr)(t:TT):Prop:=
 ∀(whole:Sem Value) (pins:List (JY × Obj)) (s:YP) (σ:St) (H:Hp) (Q:Bool->Hp->Prop),Inv X pins σ H s->t σ H Q->JZ (J1 X.prog X.w) X.A (isTrue e X.env whole) (TP X pins σ Q) X.xe s
theorem PW.pt{X:Cx}{e:Expr}{t:TT}(h:PW X e t):PT X e t:=h _
def PA(X:Cx)(es:List Expr)(t:TA):Prop:=
 ∀(pos:Pos) (pins:List (JY × Obj)) (s:YP) (σ:St) (H:Hp) (Q:List V->Hp->Prop),Inv X pins σ H s->t σ H Q->JZ (J1 X.prog X.w) X.A (spliced (Zo pos (J0 es X.env))) (AP X pins σ Q) X.xe s
def PS(X:Cx)(a:Zj)(t:TS):Prop:=
 ∀(pins:List (JY × Obj)) (s:YP) (σ:St) (H:Hp) (D:kN),Inv X pins σ H s->t D σ H->JZ (J1 X.prog X.w) X.A (exec a X.env) (SP X pins D) X.xe s
def fX(X:Cx)(a:List Zj)(t:TS):Prop:=
 ∀(pins:List (JY × Obj)) (s:YP) (σ:St) (H:Hp) (D:kN),Inv X pins σ H s->t D σ H->JZ (J1 X.prog X.w) X.A (execs a X.env) (SP X pins D) X.xe s
theorem bH{b:Type}{t:Sem b}{Q c:b->YP->Prop}{M:Model}{A:Around}{E:Value->YP->Prop}{s:YP}(h:JZ M A t Q E s)(d:∀ a s,Q a s->c a s):JZ M A t c E s:=YO h d fun _ _ x=>x
section
variable {X:Cx}
def Mn(i:Nat):TE:=fun a H Q=>∃ v,a[i]?=some (some v)/\Q v H
def tC(v:V):TE:=fun _ H Q=>Q v H
theorem mG{i:Nat}{x:Str}{pos:Pos}(t:X.N[i]?=some x)(n:i7 X.env.scope x)(f:(x == ("__debug__":Str))=false:=by decide)(g:(x == ("__classdict__":Str))=false:=by decide):PE X (.Name x pos) (Mn i):=by
 intro d s k H Q I h;obtain⟨v,e,h⟩:=h;obtain⟨m,o,q⟩:=I.loc;obtain⟨u,r,l⟩:=q i x v t e n;have fin:EP X d k Q u s:=⟨v,H,I,r,h⟩;rcases l with⟨b,p⟩ | ⟨b,c,j,a⟩
 ·exact wpAny_Name (wpAny_loadName_local I.ok.kind b o p fin) f
 ·rcases b with b | b
  ·exact wpAny_Name (wpAny_loadName_cell I.ok.kind b j a fin) f
  ·exact wpAny_Name (wpAny_loadName_free I.ok.kind b j a fin g) f
theorem Pj{i j pos}:PE X (.Constant (.int i) j pos) (tC (.int i)):=fun _ _ _ H _ I h=>wpAny_Constant_int ⟨.int i,H,I.tok _,⟨_,rfl⟩,h⟩
theorem K4{b j pos}:PE X (.Constant (.bool b) j pos) (tC (.bl b)):=fun _ _ _ H _ I h=>Constant_bool ⟨.bl b,H,I,rfl,h⟩
theorem Pl{j pos}:PE X (.Constant .none j pos) (tC .non):=fun _ _ _ H _ I h=>Constant_none ⟨.non,H,I,rfl,h⟩
theorem Hg{x j pos}:PE X (.Constant (.str x) j pos) (tC (.str x)):=fun _ _ _ H _ I h=>Calls.Constant_str ⟨.str x,H,I.tok _,⟨_,rfl⟩,h⟩
def Gl(X:Cx)(x:Str):Prop:=X.env.kindOf x=some .globalImplicit
theorem Gm{E:Value->YP->Prop}{pins:List (JY × Obj)}{s:YP}{σ:St}{H:Hp}{x:Str}{u:Value}{pos:Pos}{Q:Value->YP->Prop}(I:Inv X pins σ H s)(b:Gl X x)(a:X.mg x=some u)(h:Q u s)
  (c:(x == ("__debug__":Str))=false:=by decide):JZ (J1 X.prog X.w) X.A (Zs (.Name x pos) X.env) Q E s:=
 Calls.Name_function_global I.ok.kind b (Calls.loadGlobal_global (by rw [I.ok.glob];exact I.mod.glob.keeps I.bk) a h) c
theorem kW{E:Value->YP->Prop}{pins:List (JY × Obj)}{s:YP}{σ:St}{H:Hp}{x:Str}{u:Value}{pos:Pos}{Q:Value->YP->Prop}(I:Inv X pins σ H s)(d:Gl X x)(c:X.mg x=none)(a:Zk x=some u)(h:Q u s)
  (b:x≠"__name__":=by decide) (e:(x == ("__debug__":Str))=false:=by decide):JZ (J1 X.prog X.w) X.A (Zs (.Name x pos) X.env) Q E s:=by
 obtain⟨i,g,f⟩:=I.mod.blt;exact Calls.Name_function_global I.ok.kind d (Calls.loadGlobal_builtin (by rw [I.ok.glob];exact I.mod.glob.keeps I.bk) c (by rw [I.ok.blt];exact g.keeps I.bk) ((f x b).trans a) h) e
theorem Hd{x:Str}{v:V}{u:Value}{pos:Pos}(b:Gl X x)(a:X.mg x=some u)(r:RelV v u)(c:(x == ("__debug__":Str))=false:=by decide):PE X (.Name x pos) (tC v):=
 fun _ _ _ H _ I h=>Gm I b a ⟨v,H,I,r,h⟩ c
theorem PV{x:Str}{v:V}{u:Value}{pos:Pos}(d:Gl X x)(c:X.mg x=none)(a:Zk x=some u)(r:RelV v u)(b:x≠"__name__":=by decide)(e:(x == ("__debug__":Str))=false:=by decide):PE X (.Name x pos) (tC v):=
 fun _ _ _ H _ I h=>kW I d c a ⟨v,H,I,r,h⟩ b e
variable {a b:Expr}{ta tb:TE}{pos:Pos}
def tB(t:TE):TT:=fun a H Q=>t a H fun x b=>∃ c,x=.bl c/\Q c b
theorem RG{e:Expr}{t:TE}(h:PE X e t)(he:∀ whole,isTrue e X.env whole=(do let v <- whole;standAt e.pos;U5 [v] (truthy v)):=by intro _;rfl):PT X e (tB t):=by
 intro a s b H Q I g;refine isTrue_plain (bH (h a s b H _ I g) fun v k ⟨x,j,i,c,f⟩=>?_) (he _);obtain⟨d,rfl,q⟩:=f;cases c;exact Yv ⟨j,i,q⟩
variable {tA tB':TT}{rest:List Expr}
def LU(t u:TT):TT:=fun a H Q=>t a H fun c b=>if c=true then u a b Q else Q false b
def Me(t u:TT):TT:=fun a H Q=>t a H fun c b=>if c=true then Q true b else u a b Q
def Mb(t:TT):TT:=fun a H Q=>t a H fun c b=>Q (!c) b
theorem RO(f:PT X a tA):PW X (.BoolOp .And [a] pos) tA:=by
 intro g b s d H Q I h;refine isTrue_and (bH (f b s d H Q I h) fun c i e=>?_)
 cases c with
 | true=>exact isTrue_and_nil e
 | false=>exact e
theorem RP(f:PT X a tA):PW X (.BoolOp .Or [a] pos) tA:=by
 intro g b s d H Q I h;refine isTrue_or (bH (f b s d H Q I h) fun c i e=>?_)
 cases c with
 | false=>exact isTrue_or_nil e
 | true=>exact e
theorem RN(n:PT X a tA)(m:PW X (.BoolOp .And (b::rest) pos) tB'):PW X (.BoolOp .And (a::b::rest) pos) (LU tA tB'):=by
 intro k d s e H Q I h;refine isTrue_and (bH (n d s e H _ I h) fun c l j=>?_);obtain⟨i,g,f⟩:=j
 cases c with
 | true=>exact m k d l e i Q g f
 | false=>exact⟨i,g,f⟩
theorem La(n:PT X a tA)(m:PW X (.BoolOp .Or (b::rest) pos) tB'):PW X (.BoolOp .Or (a::b::rest) pos) (Me tA tB'):=by
 intro k d s e H Q I h;refine isTrue_or (bH (n d s e H _ I h) fun c l j=>?_);obtain⟨i,g,f⟩:=j
 cases c with
 | true=>exact⟨i,g,f⟩
 | false=>exact m k d l e i Q g f
theorem RF(e:PT X a tA):PT X (.UnaryOp .Not a pos) (Mb tA):=by
 intro b s d H Q I h;exact isTrue_not (e b s d H (fun c f=>Q (!c) f) I h)
def LV(d tb:TE):TE:=fun a H Q=>d a H fun x b=>∃ c,x=.bl c/\if c=true then tb a b Q else Q (.bl false) b
def Mc(b:TE):TE:=fun a H Q=>b a H fun x d=>∃ c,x=.bl c/\Q (.bl (!c)) d
theorem Pn{op}{t:TE}(h:PE X a t):PE X (.BoolOp op [a] pos) t:=fun b s c H Q I d=>BoolOp_one (h b s c H Q I d)
theorem PU(n:PE X a ta)(m:PE X (.BoolOp .And (b::rest) pos) tb):PE X (.BoolOp .And (a::b::rest) pos) (LV ta tb):=by
 intro d s f H Q I h;refine BoolOp_and (bH (n d s f H _ I h) fun v k j=>?_);obtain⟨x,i,g,l,e⟩:=j;obtain⟨c,rfl,e⟩:=e;cases l;refine Yv ?_
 cases c with
 | true=>exact m d k f i Q g e
 | false=>exact⟨.bl false,i,g,rfl,e⟩
theorem Pm(i:PE X a ta):PE X (.UnaryOp .Not a pos) (Mc ta):=by
 intro b s e H Q I h;refine UnaryOp_ (bH (i b s e H _ I h) fun v l f=>?_);obtain⟨x,k,j,g,d⟩:=f;obtain⟨c,rfl,d⟩:=d;cases g;exact not_of (Yv ⟨.bl (!c),k,j,rfl,d⟩)
def L5(t:TT)(d tb:TE):TE:=fun a H Q=>t a H fun c b=>if c=true then d a b Q else tb a b Q
theorem Pi{c:Expr}(m:PT X c tA)(o:PE X a ta)(n:PE X b tb):PE X (.IfExp c a b pos) (L5 tA ta tb):=by
 intro e s f H Q I h;refine wpAny_IfExp (bH (m e s f H _ I h) fun d g l=>?_);obtain⟨k,j,i⟩:=l
 cases d with
 | true=>exact o e g f k Q j i
 | false=>exact n e g f k Q j i
end
def cJ(K:PySem.W.Frag)(H:Hp)(a:JY)(xs:List V):Prop:=
 Rd H a (.lst xs) ∨
  ∃(o:Obj) (its:Array Value) (n:Nat),K.lookup a=some o/\o.cls=.type "list"/\o.dict=none/\o.data=.seq its n/\its.size<=sizeLine/\Vals xs its.toList
def bR(K:PySem.W.Frag)(H:Hp)(a:JY)(xs:List V):Prop:=
 Rd H a (.tup xs) ∨
  ∃(o:Obj) (its:Array Value) (n:Nat),K.lookup a=some o/\o.cls=.type "tuple"/\o.data=.seq its n/\its.size<=sizeLine/\Vals xs its.toList
def Ii:Value->Option V
 | .none=>some .non
 | .bool b=>some (.bl b)
 | .int i _=>some (.int i)
 | .str x _=>some (.str x)
 | .bytes b _=>some (.byt b)
 | .float b _=>some (.flt b)
 | .ref a=>some (.ref a)
 | .type n=>some (.ty n)
 | _=>none
theorem RelV.abs{x:V}{u:Value}(r:RelV x u):Ii u=some x:=by
 cases x with
 | non=>cases r;rfl
 | bl _=>cases r;rfl
 | int _=>obtain⟨t,rfl⟩:=r;rfl
 | str _=>obtain⟨t,rfl⟩:=r;rfl
 | byt _=>obtain⟨t,rfl⟩:=r;rfl
 | flt _=>obtain⟨t,rfl⟩:=r;rfl
 | ref _=>cases r;rfl
 | ty _=>cases r;rfl
theorem RelV.inj{x y:V}{u:Value}(r:RelV x u)(q:RelV y u):x=y:=QL (r.abs.symm.trans q.abs)
theorem Vals.inj{xs ys:List V}{us:List Value}(h:Vals xs us)(h':Vals ys us):xs=ys:=by
 induction h generalizing ys with
 | nil=>cases h';rfl
 | cons r t c=>
  cases h' with
  | cons b a=>rw [r.inj b,c a]
section
variable {X:Cx}{pins:List (JY × Obj)}{σ:St}{H:Hp}{s:YP}{a:JY}{xs ys:List V}
theorem cJ.of{K:PySem.W.Frag}(h:H a=some (.lst xs)):cJ K H a xs:=.inl (.inl h)
theorem Inv.list(I:Inv X pins σ H s)(h:cJ X.K H a xs):∃ its:List Value,Vals xs its/\PlainL s.heap a its.toArray/\xs.length<=sizeLine:=by
 rcases h with h | ⟨o,its,n,c,f,d,b,g,r⟩
 ·obtain⟨z,its,n,r,e⟩:=h.ok I.hok
  exact⟨its,r,⟨_,n,e,rfl,rfl,rfl⟩,z⟩
 ·refine⟨its.toList,r,⟨o,n,I.kIn a o c,f,d,by simpa using b⟩,?_⟩
  have e:=r.length;simp only [Qt]at e;lia
theorem Inv.tuple(I:Inv X pins σ H s)(h:bR X.K H a xs):∃ its:List Value,Vals xs its/\U8 s.heap a its.toArray/\xs.length<=sizeLine:=by
 rcases h with h | ⟨o,its,n,c,d,b,f,r⟩
 ·obtain⟨z,its,r,p⟩:=h.ok I.hok
  exact⟨its,r,p,z⟩
 ·refine⟨its.toList,r,⟨o,I.kIn a o c,d,n,by simpa using b⟩,?_⟩
  have e:=r.length;simp only [Qt]at e;lia
theorem Inv.list_inj(I:Inv X pins σ H s)(h:cJ X.K H a xs)(h':cJ X.K H a ys):xs=ys:=by
 obtain⟨b,r,⟨o,n,e,_,_,d⟩,_⟩:=I.list h;obtain⟨its',g,⟨i,j,c,_,_,f⟩,_⟩:=I.list h';rw [e]at c;cases c;rw [d]at f
 injection f with d1 _
 have:b=its':=by simpa using congrArg Array.toList d1
 subst this;exact r.inj g
theorem Inv.tuple_inj(I:Inv X pins σ H s)(h:bR X.K H a xs)(h':bR X.K H a ys):xs=ys:=by
 obtain⟨b,r,⟨o,e,_,n,d⟩,_⟩:=I.tuple h;obtain⟨its',g,⟨i,c,_,j,f⟩,_⟩:=I.tuple h';rw [e]at c;cases c;rw [d]at f
 injection f with d1 _
 have:b=its':=by simpa using congrArg Array.toList d1
 subst this;exact r.inj g
end
abbrev Cx.wish(X:Cx)(E:Value->YP->Prop):Cx:={ X with xe:=E }
abbrev Cx.nox(X:Cx):Cx:=X.wish fun _ _=>False
theorem Cx.Ok.wish{X:Cx}(ok:X.Ok)(E:Value->YP->Prop):(X.wish E).Ok:=
 ⟨ok.mod,ok.kind,ok.glob,ok.blt,ok.above,ok.inj,ok.has,ok.cab,ok.hd,ok.frames,ok.stk,ok.exf,ok.bs,ok.bsz,ok.noex,ok.exfs,ok.funs,ok.frf⟩
theorem Cx.Ok.unwish{X:Cx}{E:Value->YP->Prop}(ok:(X.wish E).Ok):X.Ok:=
 ⟨ok.mod,ok.kind,ok.glob,ok.blt,ok.above,ok.inj,ok.has,ok.cab,ok.hd,ok.frames,ok.stk,ok.exf,ok.bs,ok.bsz,ok.noex,ok.exfs,ok.funs,ok.frf⟩
section
variable {X:Cx}{pins:List (JY × Obj)}{σ:St}{H:Hp}{s:YP}{E:Value->YP->Prop}
theorem Inv.wish(I:Inv X pins σ H s)(E:Value->YP->Prop):Inv (X.wish E) pins σ H s:=⟨I.ok.wish E,I.os,I.bare,I.base,I.loc,I.cell,I.free,I.freeC,I.pin,I.hok,I.len⟩
theorem Inv.unwish(I:Inv (X.wish E) pins σ H s):Inv X pins σ H s:=⟨I.ok.unwish,I.os,I.bare,I.base,I.loc,I.cell,I.free,I.freeC,I.pin,I.hok,I.len⟩
theorem SP.unwish{D:kN}{f:Flow}{s':YP}(h:SP (X.wish E) pins D f s'):SP X pins D f s':=by
 cases f with
 | next=>obtain⟨a,b,I,q⟩:=h;exact⟨a,b,I.unwish,q⟩
 | brk=>obtain⟨a,b,I,q⟩:=h;exact⟨a,b,I.unwish,q⟩
 | cont=>obtain⟨a,b,I,q⟩:=h;exact⟨a,b,I.unwish,q⟩
 | ret u=>obtain⟨v,a,b,I,r,q⟩:=h;exact⟨v,a,b,I.unwish,r,q⟩
theorem fX.nox{b:List Zj}{t:TS}(h:fX X.nox b t):fX X b t:=fun a s c H D I d=>
 YO (h a s c H D (I.wish _) d) (fun _ _ q=>q.unwish) fun _ _ z=>ZF z
end
section
variable {X:Cx}{st:Zj}{rest:List Zj}{t u:TS}{e:Expr}{te:TE}{pos:Pos}
def L9:TS:=fun D a H=>D.nx a H
def Mi(t u:TS):TS:=fun D a H=>t { D with nx:=u D } a H
theorem SH:fX X [] L9:=fun _ _ a H _ I h=>UR ⟨a,H,I,h⟩
theorem SF(g:PS X st t)(e:fX X rest u):fX X (st::rest) (Mi t u):=by
 intro a s c H D I h;refine wpAny_execs_cons (bH (g a s c H { D with nx:=u D } I h) fun f d q=>?_)
 cases f with
 | next=>
  obtain⟨b,j,i,q⟩:=q;exact e a d b j D i q
 | ret v=>exact q
 | brk=>exact q
 | cont=>exact q
theorem SI(c:PS X st t):fX X [st] t:=by
 intro a s b H D I h;refine wpAny_execs_cons (bH (c a s b H D I h) fun f d q=>?_)
 cases f with
 | next=>exact UR q
 | ret v=>exact q
 | brk=>exact q
 | cont=>exact q
theorem Inv.quiet{pins:List (JY × Obj)}{σ:St}{H:Hp}{s:YP}(I:Inv X pins σ H s):interactive X.env=false:=by simp [interactive,I.ok.kind]
def L3(te:TE):TS:=fun D a H=>te a H fun _ b=>D.nx a b
theorem wG(he:PE X e te)(hs:ZB e none pos.line X.env=pure false:=by rfl):PS X (.Expr e pos) (L3 te):=by
 intro a s b H D I h;exact wpAny_Expr_any (bH (he a s b H _ I h) fun v g ⟨x,f,d,i,c⟩=>⟨b,f,d,c⟩) I.quiet hs
def Mh(te:TE):TS:=fun D a H=>te a H D.rt
theorem Sz(he:PE X e te):PS X (.Return (some e) pos) (Mh te):=by
 intro a s b H D I h;exact wpAny_Return_some (bH (he a s b H _ I h) fun v i ⟨x,g,f,c,d⟩=>⟨x,b,g,f,c,d⟩)
def L6(c:TT)(t u:TS):TS:=fun D a H=>c a H fun b d=>if b=true then t D a d else u D a d
theorem K8{c:Expr}{a b:List Zj}{g:TT}(n:PT X c g)(p:fX X a t)(o:fX X b u):PS X (.If c a b pos) (L6 g t u):=by
 intro e s f H D I h;refine wpAny_If (bH (n e s f H _ I h) fun d i m=>?_);obtain⟨l,k,j⟩:=m
 cases d with
 | true=>exact p e i f l D k j
 | false=>exact o e i f l D k j
end
abbrev TG:=V->St->Hp->(St->Hp->Prop)->Prop
abbrev kP:=List V->St->Hp->(St->Hp->Prop)->Prop
def PG(X:Cx)(a:Expr)(t:TG):Prop:=
 ∀(pins:List (JY × Obj)) (s:YP) (σ:St) (H:Hp) (v:V) (u:Value) (Q:St->Hp->Prop),Inv X pins σ H s->RelV v u->t v σ H Q->
  JZ (J1 X.prog X.w) X.A (assign a X.env u) (fun _ b=>∃ σ' H',Inv X pins σ' H' b/\Q σ' H') X.xe s
def mM(X:Cx)(a:List Expr)(t:kP):Prop:=
 ∀(pins:List (JY × Obj)) (s:YP) (σ:St) (H:Hp) (vs:List V) (us:List Value) (Q:St->Hp->Prop),Inv X pins σ H s->Vals vs us->t vs σ H Q->
  JZ (J1 X.prog X.w) X.A (assignInOrder ((ZP a X.env).map (·.2)) us) (fun _ b=>∃ σ' H',Inv X pins σ' H' b/\Q σ' H') X.xe s
section
variable {X:Cx}{pos:Pos}
def Fg(i:Nat):TG:=fun v a H Q=>Q (a.set i (some v)) H
theorem Se{i:Nat}{x:Str}(e:X.N.Nodup)(c:X.N[i]?=some x)(b:i6 X.env.scope x)(d:X.fn x=true ∨ X.env.scope.names.lookup x=some .local:=by first | exact .inl rfl | exact .inr rfl | assumption):PG X (.Name x pos) (Fg i):=by
 intro a s g H v u Q I r h;exact wpAny_assign_Name (GB I e c b r (fun j f=>⟨_,H,f,h⟩) d)
def IK:kP:=fun b a H Q=>b=[]/\Q a H
def IJ(t:TG)(u:kP):kP:=fun c b H Q=>∃ v r,c=v::r/\t v b H fun a d=>u r a d Q
theorem Sh:mM X [] IK:=by
 intro a s b H c d Q I r h;obtain⟨e,h⟩:=h;subst e;cases r;exact assignInOrder_nil ⟨b,H,I,h⟩
theorem Sg{e:Expr}{es:List Expr}{t:TG}{u:kP}(k:PG X e t)(j:mM X es u)
  (hs:(ZP (e::es) X.env).map (·.2)=assign e X.env::(ZP es X.env).map (·.2):=by rfl):mM X (e::es) (IJ t u):=by
 intro a s c H o q Q I r h;obtain⟨v,p,l,h⟩:=h;subst l
 cases r with
 | cons r g=>
  rw [hs];refine assignInOrder_cons (bH (k a s c H _ _ _ I r h) fun _ f d=>?_);obtain⟨b,n,m,i⟩:=d;exact j a f b n _ _ Q m g i
def IL(K:PySem.W.Frag)(n:Nat)(t:kP):TG:=fun v b H Q=>∃ a xs,v=.ref a/\bR K H a xs/\xs.length=n/\t xs b H Q
theorem Sf{es:List Expr}{k:Nat}{t:kP}{n:Nat}(y:X.calm=true)(h:mM X es t)
  (w:(ZP es X.env).length=n:=by rfl) (f:(ZP es X.env).findIdx? (·.1)=none:=by rfl):PG X (.Tuple es k pos) (IL X.K n t):=by
 intro c s g H v u Q I r d;obtain⟨a,j,A,q,x,d⟩:=d;subst A;cases r;obtain⟨l,i,p,E⟩:=I.tuple q;refine assign_Tuple_tuple (I.ok.hd y) p (by simp [w,<- x,i.length]) f fun z m=>?_;have B:Inv X c g H { s with heap:=z }:=I.kept (t':=s.toks) fun b o e=>m b o (Qu (Qs e)) e;exact h c _ g H j _ Q B (by simpa using i) d
def CG(te:TE)(g:TG):TS:=fun D a H=>te a H fun x b=>g x a b D.nx
theorem Sx{b e:Expr}{te:TE}{g:TG}(he:PE X e te)(k:PG X b g)(hs:swapsWithSole [b] e pos.line X.env=pure false:=by rfl)(j:swappedStores [b] e X.env=pure none:=by rfl)
  (l:(ZP [b] X.env).map (·.2)=[assign b X.env]:=by rfl):PS X (.Assign [b] e pos) (CG te g):=by
 intro a s c H D I h;refine wpAny_Assign_stores (bH (he a s c H _ I h) fun v d ⟨x,n,m,f,i⟩=>?_) hs j;rw [l];exact bH (k a d c n x v _ m f i) fun _ o q=>q
theorem k6{i:Nat}{x:Str}{e:Expr}{te:TE}{a:Pos}(l:X.N.Nodup)(j:X.N[i]?=some x)(g:i6 X.env.scope x)(he:PE X e te)(hs:ZB e (some (.Name x a)) pos.line X.env=pure false:=by rfl)(k:X.fn x=true ∨ X.env.scope.names.lookup x=some .local:=by first | exact .inl rfl | exact .inr rfl | assumption):
  PS X (.Assign [.Name x a] e pos) (CG te (Fg i)):=by
 intro b s c H D I h;refine wpAny_Assign_Name (bH (he b s c H _ I h) fun v q ⟨y,o,n,d,f⟩=>?_) hs;exact GB n l j g d (fun p m=>⟨_,o,m,f⟩) k
def SU(c:TT)(tb:TS):TS:=fun D a H=>∃ W:Nat->St->Hp->Prop,(∃ m,W m a H)/\∀ m a H,W m a H->
 c a H fun b d=>if b=true then ∃ N:St->Hp->Prop,(∀ σ' H',N σ' H'->∃ m',m'<m/\W m' σ' H')/\tb { D with nx:=N,ct:=N,bk:=D.nx } a d else D.nx a d
theorem SE{c:Expr}{g:List Zj}{r:TT}{tb:TS}(t:PassesOwn (J1 X.prog X.w) X.A X.env X.xe)(Q:PT X c r)(R:fX X g tb):PS X (.While c g [] pos) (SU r tb):=by
 intro d s B H D I h;obtain⟨W,⟨O,G⟩,turn⟩:=h;refine wpAny_While (codeAny_whileLoop (fun n M=>∃ σ' H',Inv X d σ' H' M/\W n σ' H') ?_ O ⟨B,H,I,G⟩);rintro n K ⟨e,z,S,F⟩;refine Jh t (bH (Q d K e z _ S (turn n e z F)) fun b J E=>?_);obtain⟨y,x,k⟩:=E
 cases b with
 | true=>
  obtain⟨N,u,k⟩:=k;rw [if_pos rfl];refine Jh t (bH (R d J e y _ x k) fun f T j=>?_)
  cases f with
  | next=>
   obtain⟨a,i,q,m⟩:=j;obtain⟨o,p,l⟩:=u a i m
   exact⟨o,p,a,i,q,l⟩
  | cont=>
   obtain⟨a,i,q,m⟩:=j;obtain⟨o,p,l⟩:=u a i m
   exact⟨o,p,a,i,q,l⟩
  | brk=>exact j
  | ret v=>exact j
 | false=>
  rw [if_neg Qx];exact UR ⟨e,y,x,k⟩
end
structure It where
 go:Nat->Hp->Prop
 yld:Nat->Hp->V->Hp->Prop
 stop:Nat->Hp->Prop
def eH(X:Cx)(pins:List (JY × Obj))(H:Hp)(b:JY):Prop:=
 H b=none/\b≠X.env.locals/\b∉X.fs/\(b∈X.ex ∨ X.s₀.heap.objs.size<=b)/\(∀ x c,X.env.cells.lookup x=some c->c≠b)/\∀ p∈X.pn++pins,p.1≠b
theorem Inv.fpOk{X:Cx}{pins:List (JY × Obj)}{σ:St}{H d:Hp}{s:YP}{b:JY}(I:Inv X pins σ H s)(a:s.heap.objs.size<=b)(g:d b=none):eH X pins d b:=by
 refine⟨g,Yw (QB I.lt a),I.nofs a,.inr (Qz I.sz a),fun x c e z=>?_,fun p f z=>?_⟩
 ·obtain⟨v,q⟩:=I.cell x c e;exact absurd (QB q.lt (by rw [z];exact a)) (YV _)
 ·exact absurd (QB (Qs (I.pin p f).1) (by rw [z];exact a)) (YV _)
structure jQ(P:J2)(w:J4)(K:PySem.W.Frag)(tg:Expr)(J:It)(fp:List JY)(it:JY)(tn:Nat->Heap->Prop):Prop where
 mem:it∈fp
 obj:∀ i h,tn i h->∀ b∈fp,∃ o,h.get? b=some o/\∀ v,o.data≠.cell v
 keep:∀ i h h',tn i h->(∀ b∈fp,∀ o,h.get? b=some o->h'.get? b=some o)->tn i h'
 item:∀(X:Cx),X.prog=P->X.w=w->X.K=K->X.calm=true->∀(i:Nat) (pins:List (JY × Obj)) (s:YP) (σ:St) (H:Hp) (E:Value->YP->Prop),Inv X pins σ H s->(∀ b∈fp,eH X pins H b)->tn i s.heap->J.go i H->
  JZ (J1 P w) X.A (ZU (.ref it)) (fun r s1=>∃ u,r=some u /\
   JZ (J1 P w) X.A (US tg (.ref it) u) (fun _ s2=>∃ x H',Inv X pins σ H' s2/\RelV x u/\J.yld i H x H'/\tn (i+1) s2.heap/\∀ b∈fp,H' b=none) E s1) E s
 done:∀(X:Cx),X.prog=P->X.w=w->X.K=K->X.calm=true->∀(i:Nat) (pins:List (JY × Obj)) (s:YP) (σ:St) (H:Hp) (E:Value->YP->Prop),Inv X pins σ H s->(∀ b∈fp,eH X pins H b)->tn i s.heap->J.stop i H->
  JZ (J1 P w) X.A (ZU (.ref it)) (fun r s1=>r=none/\Inv X pins σ H s1) E s
 self:∀(A:Around) (i:Nat) (s:YP) (Q:Value->YP->Prop) (E:Value->YP->Prop),tn i s.heap->Q (.ref it) s->JZ (J1 P w) A (pyIter (.ref it)) Q E s
abbrev TI:=St->Hp->(It->Hp->Prop)->Prop
def Cf(X:Cx)(pins:List (JY × Obj))(σ:St)(d:Expr)(R:It->Hp->Prop)(a:Value)(c:YP):Prop:=
 ∃(it:JY) (fp:List JY) (tn:Nat->Heap->Prop) (J:It) (H':Hp),a=.ref it/\Inv X pins σ H' c/\jQ X.prog X.w X.K d J fp it tn/\tn 0 c.heap/\(∀ b∈fp,eH X pins H' b)/\R J H'
def PI(X:Cx)(c a:Expr)(b:TI):Prop:=
 ∀(pins:List (JY × Obj)) (s:YP) (σ:St) (H:Hp) (R:It->Hp->Prop),Inv X pins σ H s->b σ H R->
  JZ (J1 X.prog X.w) X.A (Zs a X.env) (fun v d=>JZ (J1 X.prog X.w) X.A (pyIter v) (Cf X pins σ c R) X.xe d) X.xe s
theorem pL{M:Model}{A:Around}{E:Value->YP->Prop}{s:YP}{b:Expr}{it:JY}{u:Value}{o:Obj}{n:String}{vs:Array Value}{Q:Unit->YP->Prop}(c:s.heap.get? it=some o)(f:o.cls=.type n)(e:o.data=.fields vs)
  (d:["enumerate","zip","dict_itemiterator","dict_reverseitemiterator","odict_iterator","itertools.zip_longest","itertools.pairwise"].contains n=false) (a:Q () s):JZ M A (US b (.ref it) u) Q E s:=by
 unfold US
 cases b <;> first
  | exact Qb a
  | (cases u <;> first
    | exact Qb a
    | (refine Qa (wpAny_load c ?_)
       rw [f,e]
       show JZ M A (if(["enumerate","zip","dict_itemiterator","dict_reverseitemiterator","odict_iterator","itertools.zip_longest","itertools.pairwise"].contains n && vs[0]? == some (Z0 _))=true then _ else _) Q E s
       rw [if_neg (by intro h;rw [d,Bool.false_and]at h;cases h)]
       exact Qb a))
def BJ(K:PySem.W.Frag)(a:JY):It:=
 ⟨fun i H=>∃ xs x,cJ K H a xs/\xs[i]?=some x,fun i H x b=>b=H/\∀ xs,cJ K H a xs->xs[i]?=some x,fun i H=>∃ xs,cJ K H a xs/\xs.length<=i⟩
def BK(K:PySem.W.Frag)(a:JY):It:=
 ⟨fun i H=>∃ xs x,bR K H a xs/\xs[i]?=some x,fun i H x b=>b=H/\∀ xs,bR K H a xs->xs[i]?=some x,fun i H=>∃ xs,bR K H a xs/\xs.length<=i⟩
def tL(a:Int)(n:Nat):It:=⟨fun i _=>i<n,fun i H x b=>b=H/\x=.int (a+i),fun i _=>n<=i⟩
theorem Tf{P:J2}{w:J4}{K:PySem.W.Frag}{U:Expr}(a it:JY):jQ P w K U (BJ K a) [it] it (fun i h=>h.IsListIter it a i) where
 mem:=by simp
 obj:=fun i h f b j=>by
  have e:b=it:=by simpa using j
  subst e;obtain⟨o,e,c,d⟩:=f
  exact⟨o,e,fun v z=>by rw [d]at z;cases z⟩
 keep:=fun i h q f k=>f.at fun o e=>k it (by simp) o e
 item:=by
  intro X F A G S i g s R H E I n f B;subst F A G;obtain⟨T,x,m,y⟩:=B;obtain⟨t,r,p,hz⟩:=I.list m;obtain⟨u,hu,Z⟩:=r.get y;obtain⟨Q,O,f2,N,M,J⟩:=n it (by simp);refine wpAny_pyNext_list_item f p.isList (x:=u) (by simpa using hu) fun q l Y=>?_;have I1:Inv X g R H { s with heap:=q }:=I.turned (t':=s.toks) (fun b o j e=>(Y.2 b j).trans e) Q O N M J;obtain⟨o,e,c,d⟩:=id l
  exact⟨u,rfl,pL (s:={ s with heap:=q }) e c d (by decide) ⟨x,H,I1,Z,⟨rfl,fun ys hy=>by rw [I.list_inj hy m];exact y⟩,l,fun b j=>(n b j).1⟩⟩
 done:=by
  intro X F A G S i g s R H E I n f B;subst F A G;obtain⟨T,m,y⟩:=B;obtain⟨t,r,p,hz⟩:=I.list m;obtain⟨Q,O,f2,N,M,J⟩:=n it (by simp);have hl:=r.length;exact wpAny_pyNext_list_end (I.ok.hd S) f p.isList (by simp;lia) fun q eb=>⟨rfl,I.turned (t':=s.toks) (fun b o j e=>eb b o j e) Q O N M J⟩
 self:=fun _ _ _ _ _ f h=>wpAny_pyIter_listiter f h
theorem Tj{P:J2}{w:J4}{K:PySem.W.Frag}{U:Expr}(a it:JY):jQ P w K U (BK K a) [it] it (fun i h=>h.IsTupleIter it a i) where
 mem:=by simp
 obj:=fun i h f b l=>by
  have e:b=it:=by simpa using l
  subst e;obtain⟨o,e,c,d⟩:=f
  exact⟨o,e,fun v z=>by rw [d]at z;cases z⟩
 keep:=fun i h r f k=>f.at fun o e=>k it (by simp) o e
 item:=by
  intro X F A G S i g s R H E I q f B;subst F A G;obtain⟨T,x,n,y⟩:=B;obtain⟨j,t,p,hz⟩:=I.tuple n;obtain⟨u,hu,Z⟩:=t.get y;obtain⟨Q,O,f2,N,M,J⟩:=q it (by simp);refine wpAny_pyNext_tuple_item f (show s.heap.IsTuple a j.toArray from p) (x:=u) (by simpa using hu) fun r m Y=>?_;have I1:Inv X g R H { s with heap:=r }:=I.turned (t':=s.toks) (fun b o l e=>(Y.2 b l).trans e) Q O N M J;obtain⟨o,e,c,d⟩:=id m
  exact⟨u,rfl,pL (s:={ s with heap:=r }) e c d (by decide) ⟨x,H,I1,Z,⟨rfl,fun ys hy=>by rw [I.tuple_inj hy n];exact y⟩,m,fun b l=>(q b l).1⟩⟩
 done:=by
  intro X F A G S i g s R H E I q f B;subst F A G;obtain⟨T,n,y⟩:=B;obtain⟨j,t,p,hz⟩:=I.tuple n;obtain⟨Q,O,f2,N,M,J⟩:=q it (by simp);have hl:=t.length;exact wpAny_pyNext_tuple_end (I.ok.hd S) f (show s.heap.IsTuple a j.toArray from p) (by simp;lia) fun r eb=>⟨rfl,I.turned (t':=s.toks) (fun b o l e=>eb b o l e) Q O N M J⟩
 self:=fun _ _ _ _ _ f h=>wpAny_pyIter_tupleiter f h
theorem Tg{P:J2}{w:J4}{K:PySem.W.Frag}{N:Expr}(it:JY)(g:Int)(n:Nat):jQ P w K N (tL g n) [it] it (fun i h=>IsRangeIter h it (g+(i:Nat) * 1) ((n:Int)-(i:Nat)) 1) where
 mem:=by simp
 obj:=fun i h a b d=>by
  have e:b=it:=by simpa using d
  subst e
  exact⟨_,a,fun v z=>by
   have M:Data.fields _=Data.cell v:=z
   cases M⟩
 keep:=fun i h l a k=>k it (by simp) _ a
 item:=by
  intro X r m u q i c s G H E I j a p;subst r m u;obtain⟨F,B,R,A,y,x⟩:=j it (by simp);have W:=Walks.range (prog:=X.prog) (w:=X.w) (I.ok.hd q) it g 1 n;refine W.item i s _ _ p a fun v l J Q f O=>?_;obtain⟨t,rfl⟩:=Q;have T:Inv X c G H { s with heap:=l,toks:=J }:=I.turned (fun b o d e=>O b o (by simpa using d) e) F B A y x
  refine⟨_,rfl,pL (s:={ s with heap:=l,toks:=J }) (n:="range_iterator") f rfl rfl (by decide) ⟨.int (g+i),H,T,⟨t,?_⟩,⟨rfl,rfl⟩,f,fun b d=>(j b d).1⟩⟩
  rw [Int.mul_one]
 done:=by
  intro X r m u q i c s G H E I j a p;subst r m u;obtain⟨F,B,R,A,y,x⟩:=j it (by simp);exact wpAny_pyNext_range_end (I.ok.hd q) a (by have:n<=i:=p;lia) fun l S=>⟨rfl,I.turned (t':=s.toks) (fun b o d e=>S b o d e) F B A y x⟩
 self:=fun _ _ _ _ _ a h=>wpAny_pyIter_rangeiter a h
section
variable {X:Cx}{tg:Expr}
theorem RT{pins:List (JY × Obj)}{σ:St}{H:Hp}{s:YP}{R:It->Hp->Prop}{E:Value->YP->Prop}{lo a:Int}{t u v:Tok}{tk:Nat}(I:Inv X pins σ H s)(h:-(2 ^ 62)<=lo)(g:lo<2 ^ 62)(f:-(2 ^ 62)<=a)(d:a<2 ^ 62)
  (q:R (tL lo (a-lo).toNat) H):JZ (J1 X.prog X.w) X.A (pyIter (.ref s.heap.objs.size)) (Cf X pins σ tg R) E { s with heap:=s.heap.push { cls:=.type "range",data:=.fields #[.int lo t,.int a u,.int 1 v] },toks:=tk }:=by
 refine wpAny_pyIter_range (IsRange.new ..) (small_one h g f d) ?_;have I1:Inv X pins σ H { s with heap:=s.heap.push { cls:=.type "range",data:=.fields #[.int lo t,.int a u,.int 1 v] },toks:=tk }:=I.kept fun b o e=>Qc _ e
 refine⟨(s.heap.push { cls:=.type "range",data:=.fields #[.int lo t,.int a u,.int 1 v] }).objs.size,[(s.heap.push { cls:=.type "range",data:=.fields #[.int lo t,.int a u,.int 1 v] }).objs.size],_,_,H,rfl,
  I1.kept (t':=tk) fun b o e=>Qc _ e,Tg _ lo (a-lo).toNat,?_,fun b c=>?_,q⟩
 ·have j:lo+((0:Nat):Int) * 1=lo:=by simp
  have i:(((a-lo).toNat:Nat):Int)-((0:Nat):Int)=Builtin.Range.rangeSize lo a 1:=by rw [rangeSize_one];split <;> lia
  show IsRangeIter _ _ (lo+((0:Nat):Int) * 1) ((((a-lo).toNat:Nat):Int)-((0:Nat):Int)) 1
  rw [j,i];exact Qr _ rfl
 ·have e:b=(s.heap.push { cls:=.type "range",data:=.fields #[.int lo t,.int a u,.int 1 v] }).objs.size:=by simpa using c
  subst e;exact I1.fpOk (Ql _) (I1.hok.fresh (Ql _))
def iW(c:TA):TI:=fun a H R=>c a H fun b d=>∃ j:Int,b=[.int j]/\-(2 ^ 62)<=j/\j<2 ^ 62/\R (tL 0 j.toNat) d
theorem Sj{a:Expr}{d:TA}{p pos:Pos}(m:Gl X "range")(l:X.mg "range"=none)(n:PA X [a] d)(hs:J0 [a] X.env=[(false,Zs a X.env)]:=by rfl):PI X tg (.Call (.Name "range" p) [a] [] pos) (iW d):=by
 intro b s f H R I h;refine Call_ (kW I m l boot_range (YM (bH (n pos b s f H _ I h) fun v w ⟨u,x,o,i,c⟩=>?_) hs rfl));obtain⟨j,e,c,k,q⟩:=c;subst e
 cases i with
 | cons r g=>
  cases g;obtain⟨t,rfl⟩:=r;exact call_range_1 (RT o (by lia) (by lia) c k (by simpa using q))
def L4(c:TI)(g:TG)(tb:TS):TS:=fun D a H=>c a H fun J e=>∃ W:Nat->Nat->St->Hp->Prop,(∃ m,W 0 m a e)/\∀ i m a H,W i m a H->
 (J.stop i H/\D.nx a H) ∨ (J.go i H/\∃ N:St->Hp->Prop,(∀ σ' H',N σ' H'->∃ m',m'<m/\W (i+1) m' σ' H')/\∀ x H',J.yld i H x H'->g x a H' fun b d=>tb { D with nx:=N,ct:=N,bk:=D.nx } b d)
def pX(fp:List JY)(h:Heap):List (JY × Obj):=fp.filterMap fun b=>(h.get? b).map fun o=>(b,o)
theorem kZ{fp:List JY}{h:Heap}{b:JY}{o:Obj}(a:b∈fp)(e:h.get? b=some o):(b,o)∈pX fp h:=List.mem_filterMap.mpr ⟨b,a,by rw [e];rfl⟩
theorem Rs{fp:List JY}{h:Heap}{p:JY × Obj}(a:p∈pX fp h):p.1∈fp/\h.get? p.1=some p.2:=by
 obtain⟨b,c,e⟩:=List.mem_filterMap.mp a
 cases q:h.get? b with
 | none=>rw [q]at e;cases e
 | some o=>
  rw [q]at e;have d:(b,o)=p:=QL e;subst d
  exact⟨c,q⟩
theorem Inv.pinned{pins:List (JY × Obj)}{σ:St}{H:Hp}{s:YP}{fp:List JY}(I:Inv X pins σ H s)(h:∀ b∈fp,eH X pins H b)(g:∀ b∈fp,∃ o,s.heap.get? b=some o/\∀ v,o.data≠.cell v):Inv X (pins++pX fp s.heap) σ H s:=
 I.pins_of fun p f=>(Qv.mp f).elim (fun z=>I.pin p (Qk _ z)) fun z=>by
  obtain⟨a,e⟩:=Rs z;obtain⟨k,j,i,_⟩:=h p.1 a;obtain⟨o,c,d⟩:=g p.1 a;rw [e]at c;cases c
  exact⟨e,k,j,i,d⟩
theorem Inv.unpinned{pins a:List (JY × Obj)}{σ:St}{H:Hp}{s:YP}(I:Inv X (pins++a) σ H s):Inv X pins σ H s:=I.pins_of fun p b=>I.pin p (Qk _ (QK _ b))
theorem Sy{l:Expr}{z:List Zj}{wi:TI}{g:TG}{tb:TS}{pos:Pos}(K:PassesOwn (J1 X.prog X.w) X.A X.env X.xe)(hc:X.calm=true)(hi:PI X tg l wi)(hg:PG X tg g)(p:fX X z tb)
  (hs:∀ x,Us l X.env x=pure x:=by intro _;rfl):PS X (.For tg l z [] pos) (L4 wi g tb):=by
 intro c s σ H D I h;refine wpAny_For (bH (hi c s σ H _ I h) fun v s1 h1=>bH h1 fun a1 s2 h2=>?_) hs;obtain⟨it,O,tn,J,H2,e,I2,T,S,f2,W,⟨m0,w0⟩,turn⟩:=h2;subst e;have k:∀{H':Hp},(∀ b∈O,H' b=none)->∀ b∈O,eH X c H' b:=fun hn b p=>⟨hn b p,(f2 b p).2⟩;refine codeAny_forLoop_any (fun n s'=>∃ i σ' H',Inv X c σ' H' s'/\tn i s'.heap/\(∀ b∈O,H' b=none)/\W i n σ' H') ?_ m0 ⟨0,σ,H2,I2,S,fun b p=>(f2 b p).1,w0⟩;rintro n s3 ⟨i,j,Q,I3,F,M,w3⟩;rcases turn i n j Q w3 with⟨stop,qn⟩ | ⟨go,N,hN,step⟩
 ·refine Jh K (bH (T.done X rfl rfl rfl hc i c s3 j Q X.xe I3 (k M) F stop) fun r s4 B=>?_);obtain⟨Y,I4⟩:=B;subst Y;exact UR ⟨j,Q,I4,qn⟩
 ·refine Jh K (bH (T.item X rfl rfl rfl hc i c s3 j Q X.xe I3 (k M) F go) fun r s4 B=>?_);obtain⟨u,Y,h4⟩:=B;subst Y;refine Jh K (bH h4 fun _ s5 B=>?_);obtain⟨x,H5,I5,r5,y5,E,Z⟩:=B;have a0:=I5.pinned (k Z) (T.obj _ _ E);refine Jh K (bH (hg _ s5 j H5 x u _ a0 r5 (step x H5 y5)) fun _ s6 B=>?_);obtain⟨R,H6,I6,q6⟩:=B;refine Jh K (bH (p _ s6 R H6 _ I6 q6) fun f U y=>?_)
  have q:∀{a:St}{t:Hp},Inv X (c++pX O s5.heap) a t U->N a t->∃ m,m<n/\∃ i σ' H',Inv X c σ' H' U/\tn i U.heap/\(∀ b∈O,H' b=none)/\W i m σ' H':=fun{a t} I7 G=>by
   obtain⟨m',hm,w7⟩:=hN a t G
   refine⟨m',hm,i+1,a,t,I7.unpinned,T.keep _ _ _ E fun b p o e=>(I7.pin (b,o) (Qk _ (Qk _ (kZ p e)))).1,fun b p=>?_,w7⟩
   obtain⟨o,e,d⟩:=T.obj _ _ E b p
   exact(I7.pin (b,o) (Qk _ (Qk _ (kZ p e)))).2.1
  cases f with
  | next=>obtain⟨a,t,I7,G⟩:=y;exact q I7 G
  | cont=>obtain⟨a,t,I7,G⟩:=y;exact q I7 G
  | brk=>obtain⟨a,t,I7,y⟩:=y;exact⟨a,t,I7.unpinned,y⟩
  | ret v=>obtain⟨x7,a,t,I7,r7,y⟩:=y;exact⟨x7,a,t,I7.unpinned,r7,y⟩
end
abbrev R2:=V->V->Hp->VK->Prop
def bO(X:Cx)(f:Value->Value->Sem Value)(r:R2):Prop:=
 ∀(pins:List (JY × Obj)) (s:YP) (σ:St) (H:Hp) (x y:V) (v u:Value) (Q:VK),Inv X pins σ H s->RelV x v->RelV y u->r x y H Q->
  JZ (J1 X.prog X.w) X.A (f v u) (EP X pins σ Q) X.xe s
def mQ(X:Cx)(f:Value->Sem Value)(r:V->Hp->VK->Prop):Prop:=
 ∀(pins:List (JY × Obj)) (s:YP) (σ:St) (H:Hp) (x:V) (v:Value) (Q:VK),Inv X pins σ H s->RelV x v->r x H Q->
  JZ (J1 X.prog X.w) X.A (f v) (EP X pins σ Q) X.xe s
def dW(X:Cx)(f:Value)(r:List V->Hp->VK->Prop):Prop:=
 ∀(pins:List (JY × Obj)) (s:YP) (σ:St) (H:Hp) (xs:List V) (us:List Value) (Q:VK),Inv X pins σ H s->Vals xs us->r xs H Q->
  JZ (J1 X.prog X.w) X.A (call f us) (EP X pins σ Q) X.xe s
def qV(r:R2)(b tb:TE):TE:=fun a H Q=>b a H fun x d=>tb a d fun y c=>r x y c Q
def Mm(r:V->Hp->VK->Prop)(b:TE):TE:=fun a H Q=>b a H fun x c=>r x c Q
def rI(C:Int->Int->Prop)(g:Int->Int->V):R2:=fun x y H Q=>∃ i j,x=.int i/\y=.int j/\C i j/\Q (g i j) H
def lX(g:Int->Int->V):R2:=fun x y H Q=>∃ i j,x=.int i/\y=.int j/\Q (g i j) H
def rU(g:Int->V):V->Hp->VK->Prop:=fun x H Q=>∃ i,x=.int i/\Q (g i) H
section
variable {X:Cx}{a b c:Expr}{ta tb tc:TE}{pos:Pos}
theorem xY(m:PE X a ta)(l:PE X b tb){pins:List (JY × Obj)}{s:YP}{σ:St}{H:Hp}{R:V->V->Hp->Prop}(I:Inv X pins σ H s)
  (h:ta σ H fun x H1=>tb σ H1 fun y H2=>R x y H2) {Q:Value->YP->Prop}{f:Value->Value->Sem Value}
  (k:∀ v u s2 x y H2,Inv X pins σ H2 s2->RelV x v->RelV y u->R x y H2->JZ (J1 X.prog X.w) X.A (f v u) Q X.xe s2):
  JZ (J1 X.prog X.w) X.A (Zs a X.env) (fun v s₁=>JZ (J1 X.prog X.w) X.A (Zs b X.env) (fun u s₂=>JZ (J1 X.prog X.w) X.A (f v u) Q X.xe s₂) X.xe s₁) X.xe s:=by
 refine bH (m pins s σ H _ I h) fun v d c=>?_;obtain⟨x,H1,o,g,j⟩:=c;refine bH (l pins d σ H1 _ o j) fun u s2 c=>?_;obtain⟨y,H2,n,e,i⟩:=c;exact k v u s2 x y H2 n g e i
theorem K5{op:Operator}{r:R2}(i:bO X (Zt op) r)(k:PE X a ta)(j:PE X b tb):PE X (.BinOp a op b pos) (qV r ta tb):=by
 intro c s d H Q I h;exact wpAny_BinOp (xY k j I h fun v u e x y m l g f q=>i c e d m x y v u Q l g f q)
theorem K6{op:UnaryOp}{r:V->Hp->VK->Prop}(g:mQ X (unaryOp op) r)(i:PE X a ta):PE X (.UnaryOp op a pos) (Mm r ta):=by
 intro b s c H Q I h;exact UnaryOp_ (bH (i b s c H _ I h) fun v d ⟨x,k,j,e,f⟩=>g b d c k x v Q j e f)
theorem tZ{f:Value->Value->Sem Value}{C:Int->Int->Prop}{g:Int->Int->Int}
  (a:∀(i j:Int) (t u:Tok) (s:YP) (Q:Value->YP->Prop) (E:Value->YP->Prop),C i j->Q (.int (g i j) s.toks) { s with toks:=s.toks+1 }->JZ (J1 X.prog X.w) X.A (f (.int i t) (.int j u)) Q E s):
  bO X f (rI C fun i j=>.int (g i j)):=by
 intro b s l H x y v u Q I e d h;obtain⟨i,j,rfl,rfl,k,q⟩:=h;obtain⟨t,rfl⟩:=e;obtain⟨c,rfl⟩:=d;exact a i j t c s _ _ k ⟨.int (g i j),H,I.tok _,⟨_,rfl⟩,q⟩
theorem CB{f:Value->Value->Sem Value}{g:Int->Int->Int}
  (a:∀(i j:Int) (t u:Tok) (s:YP) (Q:Value->YP->Prop) (E:Value->YP->Prop),Q (.int (g i j) s.toks) { s with toks:=s.toks+1 }->JZ (J1 X.prog X.w) X.A (f (.int i t) (.int j u)) Q E s):
  bO X f (lX fun i j=>.int (g i j)):=by
 intro b s k H x y v u Q I e d h;obtain⟨i,j,rfl,rfl,q⟩:=h;obtain⟨t,rfl⟩:=e;obtain⟨c,rfl⟩:=d;exact a i j t c s _ _ ⟨.int (g i j),H,I.tok _,⟨_,rfl⟩,q⟩
theorem yH{f:Value->Value->Sem Value}{g:Int->Int->Bool}
  (a:∀(i j:Int) (t u:Tok) (s:YP) (Q:Value->YP->Prop) (E:Value->YP->Prop),Q (.bool (g i j)) s->JZ (J1 X.prog X.w) X.A (f (.int i t) (.int j u)) Q E s):
  bO X f (lX fun i j=>.bl (g i j)):=by
 intro b s k H x y v u Q I e d h;obtain⟨i,j,rfl,rfl,q⟩:=h;obtain⟨t,rfl⟩:=e;obtain⟨c,rfl⟩:=d;exact a i j t c s _ _ ⟨.bl (g i j),H,I,rfl,q⟩
def HW(i j:Int):Prop:=0<j/\j<1073741824
def BB(i j:Int):Prop:=0<=j/\j<=1000000/\i.natAbs<2 ^ 64
def tG(i j:Int):Prop:=(-(2 ^ 64)<i/\i<2 ^ 64) ∨ (-(2 ^ 64)<j/\j<2 ^ 64)
theorem tG.ok{i j:Int}(h:tG i j):IntMulOk i j:=by
 rcases h with⟨b,a⟩ | ⟨b,a⟩
 ·exact .of_left (intBits_le_64 b a)
 ·exact .of_right (intBits_le_64 b a)
theorem Pu:bO X (Zt .Add) (lX fun i j=>.int (i+j)):=CB fun _ _ _ _ _ _ _ q=>add_int q
theorem PH:bO X (Zt .Sub) (lX fun i j=>.int (i-j)):=CB fun _ _ _ _ _ _ _ q=>sub_int q
theorem PC:bO X (Zt .Mult) (rI tG fun i j=>.int (i * j)):=tZ fun _ _ _ _ _ _ _ a q=>mul_int q a.ok
theorem Py:bO X (Zt .FloorDiv) (rI HW fun i j=>.int (i / j)):=tZ fun i j _ _ _ _ _ a q=>by
 have c:(0:Int)<j:=a.1;have b:j<1073741824:=a.2;exact floordiv_int (by lia) (by rw [Int.fdiv_eq_ediv_of_nonneg i (by lia)];exact q) (.inl (PyProof.noPylong_small (by lia)))
theorem PB:bO X (Zt .Mod) (rI (fun _ j=>0<j) fun i j=>.int (i % j)):=tZ fun i j _ _ _ _ _ a q=>by
 have b:(0:Int)<j:=a;exact mod_int' (by lia) (by rw [Int.fmod_eq_emod_of_nonneg i (by lia)];exact q)
theorem PF:bO X (Zt .Pow) (rI BB fun i j=>.int (i ^ j.toNat)):=tZ fun _ _ _ _ _ _ _ a q=>pow_int_small a.1 a.2.1 a.2.2 q
theorem Mo{f:Value->Sem Value}{g:Int->Int}
  (a:∀(i:Int) (t:Tok) (s:YP) (Q:Value->YP->Prop) (E:Value->YP->Prop),Q (.int (g i) s.toks) { s with toks:=s.toks+1 }->JZ (J1 X.prog X.w) X.A (f (.int i t)) Q E s):
  mQ X f (rU fun i=>.int (g i)):=by
 intro b s d H x v Q I c h;obtain⟨i,rfl,q⟩:=h;obtain⟨t,rfl⟩:=c;exact a i t s _ _ ⟨.int (g i),H,I.tok _,⟨_,rfl⟩,q⟩
theorem To:mQ X (unaryOp .USub) (rU fun i=>.int (-i)):=Mo fun _ _ _ _ _ q=>neg_int q
theorem EV{pins:List (JY × Obj)}{σ:St}{H:Hp}{s:YP}{Q:VK}{k a:Bool}(I:Inv X pins σ H s)(q:Q (.bl k) H)(e:k=a):EP X pins σ Q (.bool a) s:=by
 subst e
 exact⟨.bl k,H,I,rfl,q⟩
theorem KZ:bO X (J9 .Lt) (lX fun i j=>.bl (decide (i<j))):=yH fun _ _ _ _ _ _ _ q=>lt_int q
theorem KY:bO X (J9 .LtE) (lX fun i j=>.bl (decide (i<=j))):=yH fun _ _ _ _ _ _ _ q=>le_int q
theorem KW:bO X (J9 .Gt) (lX fun i j=>.bl (decide (j<i))):=yH fun _ _ _ _ _ _ _ q=>gt_int q
theorem Pz:bO X (J9 .Is) (fun x y H Q=>y=.non/\Q (.bl (decide (x=.non))) H):=by
 intro b s d H x y v u Q I a c h;obtain⟨rfl,q⟩:=h;cases c;refine is_none_gen (EV I q ?_)
 cases x <;> first
  | (cases a;rfl)
  | (obtain⟨t,rfl⟩:=a;rfl)
theorem PD:bO X (J9 .IsNot) (fun x y H Q=>y=.non/\Q (.bl (!decide (x=.non))) H):=by
 intro b s d H x y v u Q I a c h;obtain⟨rfl,q⟩:=h;cases c;refine isnot_none_gen (EV I q ?_)
 cases x <;> first
  | (cases a;rfl)
  | (obtain⟨t,rfl⟩:=a;rfl)
theorem bO.or{f:Value->Value->Sem Value}{r e:R2}(h:bO X f r)(h':bO X f e):bO X f (fun x y H Q=>r x y H Q ∨ e x y H Q):=by
 intro a s b H x y v u Q I d c q;rcases q with q | q
 ·exact h a s b H x y v u Q I d c q
 ·exact h' a s b H x y v u Q I d c q
theorem dR(b:Expr){op:CmpOp}(h:op≠.In:=by decide)(a:op≠.NotIn:=by decide):Z7 op b=false:=by
 have d:(op == CmpOp.In)=false:=by cases op <;> first | rfl | exact absurd rfl h
 have c:(op == CmpOp.NotIn)=false:=by cases op <;> first | rfl | exact absurd rfl a
 cases b <;> simp [Z7,d,c]
theorem PY{op:CmpOp}{r:R2}(i:bO X (J9 op) r)(l:PE X a ta)(k:PE X b tb)(j:Z7 op b=false):PE X (.Compare a [op] [b] pos) (qV r ta tb):=by
 intro c s d H Q I h;exact wpAny_Compare1 (xY l k I h fun v u e x y n m g f q=>i c e d n x y v u Q m g f q) j
def Ay(t:TE):TT:=fun a H Q=>t a H fun x b=>∃ k,x=.bl k/\Q k b
theorem SK{op:CmpOp}{r:R2}(q:bO X (J9 op) r)(A:PE X a ta)(w:PE X b tb)(t:Z7 op b=false):PT X (.Compare a [op] [b] pos) (Ay (qV r ta tb)):=by
 intro d s f H Q I h
 refine wpAny_isTrue_Compare1 (bH (A d s f H _ I h) fun v i ⟨x,K,F,m,p⟩=>bH (w d i f K _ F p) fun u g ⟨y,J,E,l,o⟩=>
  bH (q d g f J x y v u _ E m l o) fun c M ⟨z,G,B,j,k,e,n⟩=>?_) t
 subst e;cases j;exact Yv ⟨G,B,n⟩
def Ax(r f:R2)(e tb d:TE):TE:=fun a H Q=>e a H fun x i=>tb a i fun y h=>r x y h fun z b=>∃ k,z=.bl k /\
 (if k=true then d a b fun c g=>f y c g Q else Q (.bl false) b)
theorem PX{op g:CmpOp}{r m:R2}(O:bO X (J9 op) r)(j:bO X (J9 g) m)(U:PE X a ta)(T:PE X b tb)(S:PE X c tc)
  (R:lastMarks [op,g] [b,c]=false:=by with_unfolding_all rfl):PE X (.Compare a [op,g] [b,c] pos) (Ax r m ta tb tc):=by
 intro f s i H Q I h
 refine Compare_chain (bH (U f s i H _ I h) fun v E ⟨x,H1,Z,J,N⟩=>chain_link (bH (T f E i H1 _ Z N) fun u B ⟨y,H2,Y,l,M⟩=>
  bH (O f B i H2 x y v u _ Y J l M) fun d A ⟨z,p,o,G,k,e,n⟩=>?_)) R
 subst e;cases G;refine Yv ?_
 cases k with
 | false=>exact ite_ff ⟨.bl false,p,o,rfl,n⟩
 | true=>exact ite_tt (chain_last (bH (S f A i p _ o n) fun t w ⟨q,H4,W,F,K⟩=>j f w i H4 y q u t Q W l F K))
theorem SJ{op g:CmpOp}{r m:R2}(U:bO X (J9 op) r)(j:bO X (J9 g) m)(ha:PE X a ta)(Z:PE X b tb)(Y:PE X c tc)
  (W:lastMarks [op,g] [b,c]=false:=by with_unfolding_all rfl):PT X (.Compare a [op,g] [b,c] pos) (Ay (Ax r m ta tb tc)):=by
 intro f s i H Q I h
 refine isTrue_chain (bH (ha f s i H _ I h) fun v F ⟨x,H1,I1,M,S⟩=>test_link (bH (Z f F i H1 _ I1 S) fun u E ⟨y,H2,I2,l,R⟩=>
  bH (U f E i H2 x y v u _ I2 M l R) fun d B ⟨z,p,o,K,k,e,n⟩=>?_)) W
 subst e;cases K;refine Yv ?_
 cases k with
 | false=>
  obtain⟨k',e',T⟩:=n;cases e';exact ite_ff ⟨p,o,T⟩
 | true=>
  refine ite_tt (test_last (bH (Y f B i p _ o n) fun w A ⟨t,H4,I4,J,O⟩=>bH (j f A i H4 y t u w _ I4 l J O) fun d' s5 q=>?_));obtain⟨z2,H5,I5,G,k2,e2,N⟩:=q;subst e2;cases G;exact Yv ⟨H5,I5,N⟩
theorem sO:(sizeLine:Nat)<2 ^ 63:=by rw [Yj];decide
theorem Pw:bO X (Zt .Add) (fun x y H Q=>∃ i j,x=.str i/\y=.str j/\i.length+j.length<=sizeLine/\Q (.str (i++j)) H):=by
 intro a s f H x y v u Q I d c h;obtain⟨i,j,rfl,rfl,e,q⟩:=h;obtain⟨t,rfl⟩:=d;obtain⟨b,rfl⟩:=c;exact add_str (fun b g=>⟨.str (i++j),H,I.tok _,⟨_,rfl⟩,q⟩) e
theorem iK{x:V}{us:List Value}(r:Vals [x] us):∃ u,us=[u]/\RelV x u:=by
 cases r with
 | cons b a=>cases a;exact⟨_,rfl,b⟩
theorem Bv{x y:V}{us:List Value}(r:Vals [x,y] us):∃ u w',us=[u,w']/\RelV x u/\RelV y w':=by
 cases r with
 | cons d c=>
  cases c with
  | cons b a=>cases a;exact⟨_,_,rfl,d,b⟩
theorem MS:dW X (.builtin "abs") (fun xs H Q=>∃ i,xs=[.int i]/\Q (.int (if i<0 then -i else i)) H):=by
 intro a s b H xs c Q I r h;obtain⟨i,rfl,q⟩:=h;obtain⟨u,rfl,t,rfl⟩:=iK r;exact call_abs_int fun u d=>⟨.int (if i<0 then -i else i),H,I.tok _,⟨_,rfl⟩,q⟩
theorem MY(c:X.calm=true):dW X (.builtin "max") (fun xs H Q=>∃ i j,xs=[.int i,.int j]/\Q (.int (if j > i then j else i)) H):=by
 intro b s d H xs f Q I r h;obtain⟨i,j,rfl,q⟩:=h;obtain⟨u,e,rfl,⟨t,rfl⟩,⟨l,rfl⟩⟩:=Bv r;refine max_two_ints (I.ok.hd c) fun m g k=>⟨_,H,I.kept k,?_,q⟩;by_cases a:j > i
 ·rw [if_pos a,if_pos a];exact⟨_,rfl⟩
 ·rw [if_neg a,if_neg a];exact⟨_,rfl⟩
theorem MZ(c:X.calm=true):dW X (.builtin "min") (fun xs H Q=>∃ i j,xs=[.int i,.int j]/\Q (.int (if j<i then j else i)) H):=by
 intro b s d H xs f Q I r h;obtain⟨i,j,rfl,q⟩:=h;obtain⟨u,e,rfl,⟨t,rfl⟩,⟨l,rfl⟩⟩:=Bv r;refine min_two_ints (I.ok.hd c) fun m g k=>⟨_,H,I.kept k,?_,q⟩;by_cases a:j<i
 ·rw [if_pos a,if_pos a];exact⟨_,rfl⟩
 ·rw [if_neg a,if_neg a];exact⟨_,rfl⟩
end
section
variable {prog:J2}{w:J4}{A:Around}{E:Value->YP->Prop}{s:YP}{K:PySem.W.Frag}{x dx C f:JY}{mA:Str->Option Value}{name:Str}{v:Value}
end
section
variable {P:J2}{w:J4}{H H':Hp}{h h':Heap}{a C dx:JY}{fs fs':List (Str × V)}
end
section
variable {X:Cx}{pins:List (JY × Obj)}{σ:St}{H:Hp}{s:YP}{a C dx:JY}{fs:List (Str × V)}{f:Str}{v:V}{A:Around}{E:Value->YP->Prop}
end
section
variable {X:Cx}{o e value:Expr}{f:Str}{pos pos' tpos:Pos}{ta tv:TE}
end
section
variable {X:Cx}{pins:List (JY × Obj)}{σ:St}{H:Hp}{s:YP}{A:Around}{E:Value->YP->Prop}{Q:Value->YP->Prop}{c:Value}{b:Bool}
end
structure dC(k:Nat)(A:Around):Prop where
 hd:A.handled=none
 dp:A.depth+3 * k+5<recursionLimit
 un:A.units+16 * k+200<J8
 gd:A.guards=some []
theorem dC.mono{j k:Nat}{A:Around}(r:dC k A)(h:j<=k):dC j A:=⟨r.hd,by have:=r.dp;lia,by have:=r.un;lia,r.gd⟩
theorem dC.deeper{k:Nat}{A:Around}(r:dC (k+1) A)(env:Env):dC k (A.deeper env):=
 ⟨r.hd,by have:=r.dp;show A.depth+1+3 * k+5<_;lia,by have:=r.un;show A.units+3+16 * k+200<_;lia,r.gd⟩
theorem dC.in1{k:Nat}{A:Around}(r:dC (k+1) A):dC k A.in1:=
 ⟨r.hd,by have:=r.dp;show A.depth+3 * k+5<_;lia,by have:=r.un;show A.units+1+16 * k+200<_;lia,r.gd⟩
theorem dC.depth{k:Nat}{A:Around}(r:dC k A):A.depth<recursionLimit:=by have:=r.dp;lia
def Ma:TA:=fun _ H Q=>Q [] H
def LZ(d:TE)(c:TA):TA:=fun a H Q=>d a H fun x f=>c a f fun b e=>Q (x::b) e
section
variable {X:Cx}{e:Expr}{es:List Expr}{te:TE}{t:TA}{pos:Pos}
theorem nJ:PA X [] Ma:=fun _ _ _ _ H Q I h=>Calls.spliced_nil ⟨[],H,I,.nil,h⟩
theorem k4(n:PE X e te)(m:PA X es t)(hs:J0 (e::es) X.env=(false,Zs e X.env)::J0 es X.env:=by rfl):PA X (e::es) (LZ te t):=by
 intro b a s c H Q I h;rw [hs]
 show JZ _ _ (spliced ((false,Zs e X.env)::Zo b (J0 es X.env))) _ _ s
 refine Calls.spliced_cons (bH (n a s c H _ I h) fun u g d=>?_);obtain⟨x,r,p,j,l⟩:=d;exact bH (m b a g c r _ p l) fun v w ⟨f,q,o,i,k⟩=>⟨x::f,q,o,.cons j i,k⟩
def Ml(t:TA):TE:=fun c H Q=>t c H fun a b=>a.length<=sizeLine/\∀ p,b p=none->Q (.ref p) (aZ b p (.tup a))
def L7(t:TA):TE:=fun c H Q=>t c H fun a b=>a.length<=sizeLine/\∀ p,b p=none->Q (.ref p) (aZ b p (.lst a))
theorem Pp{x1}(h:PA X es t):PE X (.Tuple es x1 pos) (Ml t):=by
 intro a s f H Q I j;refine wpAny_Tuple_spliced (bH (h pos a s f H _ I j) fun i c ⟨g,d,I1,r,z,q⟩=>⟨by rw [<- r.length];exact z,?_⟩);have k:d c.heap.objs.size=none:=I1.hok.fresh (Ql _)
 refine⟨.ref c.heap.objs.size,aZ d c.heap.objs.size (.tup g),I1.laid (t':=c.toks) (fun b u e=>Qc _ e) (Ql _) ?_,rfl,q _ k⟩
 exact⟨z,i,r,⟨_,Qr _ rfl,rfl,_,rfl⟩⟩
theorem Hf(h:PA X es t):PE X (.List es pos) (L7 t):=by
 intro a s f H Q I j;refine wpAny_List_spliced (bH (h pos a s f H _ I j) fun i c ⟨g,d,I1,r,z,q⟩=>⟨by rw [<- r.length];exact z,?_⟩);have k:d c.heap.objs.size=none:=I1.hok.fresh (Ql _)
 refine⟨.ref c.heap.objs.size,aZ d c.heap.objs.size (.lst g),I1.laid (t':=c.toks) (fun b u e=>Qc _ e) (Ql _) ?_,rfl,q _ k⟩
 exact⟨z,i,0,r,Qr _ rfl⟩
end
abbrev Sp:=List V->Hp->VK->XK->Prop
abbrev jL:=List Env->Hp->YP->XK->Value->YP->Prop
structure tJ(P:J2)(w:J4)(K:PySem.W.Frag)(mg:Str->Option Value)(base:Heap)(A:Around)(outer:List Env)(s:YP)(H:Hp):Prop where
 frames:A.frames=some outer
 mod:Mod K mg base
 bs:∀ b o,base.get? b=some o->s.heap.get? b=some o/\H b=none
 bsz:base.objs.size<=s.heap.objs.size
 funs:s.heap.FunFrames base outer
 frf:∀ b∈jB outer,H b=none
 hok:dV P w H s.heap
 bare:U4 s.gens
def CE(outer:List Env)(P:J2)(w:J4)(H:Hp)(s:YP)(Q:VK)(u:Value)(a:YP):Prop:=
 ∃ v H',a.os=s.os/\U4 a.gens/\Un (jB outer) [] H H' s.heap a.heap/\dV P w H' a.heap/\RelV v u/\Q v H'
def CR(b:jL)(outer:List Env)(P:J2)(w:J4)(H:Hp)(s:YP)(Q:VK)(E:XK)(r:Result)(a:YP):Prop:=
 match r with
 | .ok (.ret u)=>CE outer P w H s Q u a
 | .ok _=>False
 | .error e=>b outer H s E e a
structure aQ(P:J2)(w:J4)(K:PySem.W.Frag)(mg:Str->Option Value)(base:Heap)(CX:jL)(k:Nat)(f:JY)(fd:Zu)(ps:List Str)(sp:Sp):Prop where
 len:∀ vs H Q E,sp vs H Q E->vs.length=ps.length
 run:∀(A:Around) (outer:List Env) (s:YP) (H:Hp) (args:Args) (us:List Value) (vs:List V) (Q:VK) (E:XK),dC k A->tJ P w K mg base A outer s H->BindsTo s fd args (ps.zip us)->Vals vs us->sp vs H Q E->
  ZW (J1 P w) A (.call (.ref f) args) (CR CX outer P w H s Q E) s
theorem aQ.imp{P:J2}{w:J4}{K:PySem.W.Frag}{mg:Str->Option Value}{base:Heap}{g:jL}{k:Nat}{f:JY}{e:Zu}{d:List Str}{c sp':Sp}(F:aQ P w K mg base g k f e d c)
  (h:∀ vs H Q E,sp' vs H Q E->c vs H Q E):aQ P w K mg base g k f e d sp':=
 ⟨fun vs H Q E q=>F.len vs H Q E (h _ _ _ _ q),fun A a s H b i vs Q E m n o j l=>F.run A a s H b i vs Q E m n o j (h _ _ _ _ l)⟩
section
variable {X:Cx}{pins:List (JY × Obj)}{σ:St}{H:Hp}{s s':YP}
theorem Inv.env0(I:Inv X pins σ H s):tJ X.prog X.w X.K X.mg X.base X.A X.stack s H:=
 ⟨I.ok.frames,I.ok.mod,I.bs,Qz I.ok.bsz I.sz,I.stack,I.stkFree,I.hok,I.bare⟩
theorem Inv.after{Q:VK}{u:Value}(I:Inv X pins σ H s)(h:CE X.stack X.prog X.w H s Q u s'):EP X pins σ Q u s':=by
 obtain⟨v,i,os,a,un,e,r,q⟩:=h;obtain⟨f,g,d,t,c⟩:=s'
 obtain rfl:c=s.os:=os
 exact⟨v,i,I.call (h':=f) (g':=g) (d':=d) (t':=t) (ch:=[]) un e a (fun b z=>absurd z (by simp)),r,q⟩
end
def LY(d:Sp)(a:List V)(E:XK)(t:TA):TE:=fun b H Q=>t b H fun c e=>d (c++a) e Q E
def Binds(K:PySem.W.Frag)(b:Zu)(a:List Str)(ds:List Value):Prop:=
 ∀(s:YP) (us:List Value),K.In s.heap->(us++ds).length=a.length->BindsTo s b ⟨us,[]⟩ (a.zip (us++ds))
theorem Binds.all{K:PySem.W.Frag}{c:Zu}{a:List Str}(h:∀ us:List Value,us.length=a.length->Z8 c ⟨us,[]⟩=pure (a.zip us)):Binds K c a []:=fun s us _ b=>by
 rw [Yg]at b ⊢;exact .of_eq (h us b)
def zX(a:jL)(X:Cx)(E:XK):Prop:=∀(pins:List (JY × Obj)) (σ:St) (H:Hp) (s:YP) (e:Value) (s':YP),Inv X pins σ H s->a X.stack H s E e s'->X.xe e s'
section
variable {X:Cx}{CX:jL}{k:Nat}{f C:JY}{fd:Zu}{ps:List Str}{sp:Sp}{dvs:List V}{ds:List Value}{E:XK}{x m:Str}{p pos apos:Pos}{e o:Expr}{es:List Expr}{ta:TE}{t:TA}
theorem Rw{pins:List (JY × Obj)}{σ:St}{H:Hp}{s:YP}{Q:VK}{us:List Value}{vs:List V}(F:aQ X.prog X.w X.K X.mg X.base CX k f fd ps sp)(g:dC k X.A)(l:Binds X.K fd ps ds)(j:Vals dvs ds)(d:zX CX X E)
  (I:Inv X pins σ H s) (r:Vals vs us) (h:sp (vs++dvs) H Q E):JZ (J1 X.prog X.w) X.A (call (.ref f) us) (EP X pins σ Q) X.xe s:=by
 have b:Vals (vs++dvs) (us++ds):=r.append j
 have i:(us++ds).length=ps.length:=by rw [<- b.length];exact F.len _ _ _ _ h
 refine wpAny_call (JA (F.run X.A X.stack s H ⟨us,[]⟩ (us++ds) (vs++dvs) Q E g I.env0 (l s us I.kIn i) b h) fun r c a=>?_)
 cases r with
 | error e=>exact d pins σ H s e c I a
 | ok m=>
  cases m with
  | ret u=>exact I.after a
  | next=>exact ZF a
  | brk=>exact ZF a
  | cont=>exact ZF a
theorem Ha(F:aQ X.prog X.w X.K X.mg X.base CX k f fd ps sp)(g:dC k X.A)(l:Gl X x)(i:X.mg x=some (.ref f))(j:PySem.W.keepIn X.K (.ref f)=true)(n:Binds X.K fd ps ds)(m:Vals dvs ds)(d:zX CX X E)
  (o:PA X (e::es) t) (b:(x == ("__debug__":Str))=false:=by decide) (he:J0 (e::es) X.env=(false,Zs e X.env)::J0 es X.env:=by rfl) (hpl:(Zo pos (J0 es X.env)).any (·.1)=false:=by rfl):
  PE X (.Call (.Name x p) (e::es) [] pos) (LY sp dvs E t):=by
 intro a s c H Q I h;refine Jc (Gm I l i ?_ b);refine PySem.W.callWith_K (h₀:=X.base) I.ok.mod.kin j (bH (o pos a s c H _ I h) fun v y ⟨u,z,I1,r,q⟩=>⟨I1.kIn,?_⟩) he hpl;exact Rw F g n m d I1 r q
end
section
variable {X:Cx}{CX:jL}{k:Nat}{f C:JY}{fd:Zu}{ps ks:List Str}{sp:Sp}{E:XK}{x m:Str}{p pos apos kpos:Pos}{e o:Expr}{es:List Expr}{kws:List Z1}{te ta:TE}{t tk:TA}{nm:Option Str}
variable {g:List Value->List Value->List Value}{gV:List V->List V->List V}
end
structure bX(N P:List Str)(sc:ZK):Prop where
 kind:sc.kind=.function
 co:sc.isCoroutine=false
 gen:sc.isGenerator=false
 nd:N.Nodup
 pre:N.take P.length=P
 par:∀ x∈P,sc.names.lookup x=some .local ∨ sc.names.lookup x=some .cell
 nofree:∀ y∈sc.names,y.2≠.free
theorem C8{a:Str->Option UM}{x:Str}:∀{binds:List (Str × Value)}{m:Str->Option Value},(∀ v,(x,v)∉binds)->bindL a binds m x=m x
 | [],_,_=>rfl
 | (n,v)::r,m,h=>by
  unfold bindL;rw [C8 fun w b=>h w (Qg _ b)];split
  ·have:x≠n:=by rintro rfl;exact h v Qe
   simp [this]
  ·rfl
theorem C6{a:Str->Option UM}{x:Str}:∀{binds:List (Str × Value)}{m:Str->Option Value},(∀ v,(x,v)∉binds)->bindC a binds m x=m x
 | [],_,_=>rfl
 | (n,v)::r,m,h=>by
  unfold bindC;rw [C6 fun w b=>h w (Qg _ b)];split
  ·rfl
  ·have:x≠n:=by rintro rfl;exact h v Qe
   simp [this]
theorem C7{a:Str->Option UM}{x:Str}{v:Value}:∀{P:List Str}{vs:List Value}{i:Nat}{m:Str->Option Value},P.Nodup->P[i]?=some x->vs[i]?=some v->a x=some .local->
  bindL a (P.zip vs) m x=some v
 | [],_,_,_,_,h,_,_=>by simp at h
 | _::_,[],_,_,_,_,h,_=>by simp at h
 | p::P,w::vs,0,m,nd,h1,h2,hk=>by
  simp at h1 h2;subst h1;subst h2
  show bindL a ((p,w)::P.zip vs) m p=_
  unfold bindL;rw [C8 fun v b=>(Ys.mp nd).1 (UT b).1,if_pos hk];simp
 | p::P,w::vs,i+1,m,nd,h1,h2,hk=>by
  show bindL a ((p,w)::P.zip vs) m x=_
  unfold bindL;exact C7 (i:=i) (Ys.mp nd).2 (by simpa using h1) (by simpa using h2) hk
theorem C5{a:Str->Option UM}{x:Str}{v:Value}:∀{P:List Str}{vs:List Value}{i:Nat}{m:Str->Option Value},P.Nodup->P[i]?=some x->vs[i]?=some v->a x≠some .local->
  bindC a (P.zip vs) m x=some v
 | [],_,_,_,_,h,_,_=>by simp at h
 | _::_,[],_,_,_,_,h,_=>by simp at h
 | p::P,w::vs,0,m,nd,h1,h2,hk=>by
  simp at h1 h2;subst h1;subst h2
  show bindC a ((p,w)::P.zip vs) m p=_
  unfold bindC;rw [C6 fun v b=>(Ys.mp nd).1 (UT b).1,if_neg hk];simp
 | p::P,w::vs,i+1,m,nd,h1,h2,hk=>by
  show bindC a ((p,w)::P.zip vs) m x=_
  unfold bindC;exact C5 (i:=i) (Ys.mp nd).2 (by simpa using h1) (by simpa using h2) hk
def start(N:List Str)(vs:List V):St:=vs.map some++List.replicate (N.length-vs.length) none
def kQ(d:jL)(P:J2)(w:J4)(K:PySem.W.Frag)(mg:Str->Option Value)(base:Heap)(N:List Str)(a:Str)(scope:ZK)(f:JY)(c:Value)(A:Around)(outer:List Env)(s:YP)(H:Hp)(E:XK):Cx where
 prog:=P
 w:=w
 K:=K
 mg:=mg
 base:=base
 A:=A.deeper (UZ a scope s.heap.objs.size f c)
 N:=N
 s₀:=s
 H₀:=H
 env:=UZ a scope s.heap.objs.size f c
 outer:=outer
 stack:=UZ a scope s.heap.objs.size f c::outer
 ex:=[]
 calm:=true
 fn:=fun _=>true
 pn:=[]
 xe:=fun e g=>JZ (J1 P w) (A.deeper (UZ a scope s.heap.objs.size f c)) (leaving (UZ a scope s.heap.objs.size f c) e) (fun _ b=>d outer H s E e b) (fun h b=>d outer H s E h b) g
theorem Db{a:ZK}{n:Nat}{x:Str}(h:a.names.lookup x=some .cell):∃ c,(cellsFrom n a.names []).lookup x=some c:=by
 have q:=PySem.W.cellsFrom_some a.names n [] (.inl h);exact Option.isSome_iff_exists.mp q
theorem OW{O:jL}{P:J2}{w:J4}{K:PySem.W.Frag}{mg:Str->Option Value}{base:Heap}{N l:List Str}{d:Str}{scope:ZK}{f:JY}{I:Value}{A:Around}{outer:List Env}{s s1:YP}{H:Hp}{E:XK}{us:List Value}{vs:List V}
  (S:bX N l scope) (T:A.handled=none) (j:tJ P w K mg base A outer s H) (Y:vs.length=l.length) (r:Vals vs us)
  (x:InCallC s s.heap.objs.size (bindL (UZ d scope s.heap.objs.size f I).kindOf (l.zip us) fun _=>none) (cellsFrom (s.heap.objs.size+1) scope.names []) (bindC (UZ d scope s.heap.objs.size f I).kindOf (l.zip us) fun _=>none) s1):
  Inv (kQ O P w K mg base N d scope f I A outer s H E) [] (start N vs) H s1:=by
 have R:l.length<=N.length:=by have:=congrArg U6 S.pre;rw [Q8]at this;lia
 obtain⟨G,X,rfl,M⟩:=x.done;have m:∀ b:JY,b∉(kQ O P w K mg base N d scope f I A outer s H E).ex:=fun b z=>absurd (show b∈([]:List JY)from z) (by simp)
 refine⟨⟨j.mod,S.kind,rfl,rfl,Ql _,fun y z c G g=>?_,fun y o=>?_,fun y c _ h=>?_,fun _=>T,Around.frames_deeper j.frames,.inr ⟨rfl,rfl⟩,fun b z=>absurd z (m b),j.bs,j.bsz,fun b _ _=>m b,fun b z=>absurd z (m b),j.funs,j.frf⟩,
  rfl,j.bare,Un.kept M,⟨_,x.toInCall.ns,fun i y v G g Z=>?_⟩,fun y c h=>⟨_,x.cell y c h⟩,j.hok.fresh (Ql _),fun y c h=>?_,fun p B=>absurd (show p∈([]:List (JY × Obj))from B) (by simp),j.hok.kept M,?_⟩
 ·exact name_of_addr x.apart (PySem.mem_of_lookup G) (PySem.mem_of_lookup g)
 ·have o:scope.names.lookup y=some .cell ∨ scope.names.lookup y=some .free:=o;rcases o with o | o
  ·exact Db o
  ·exact absurd rfl (S.nofree _ (PySem.mem_of_lookup o))
 ·exact Yu (x.above y c (PySem.mem_of_lookup h))
 ·have F:i<vs.length:=by
   unfold start at g;by_cases F:i<vs.length
   ·exact F
   ·rw [YQ (by simpa using F)]at g;rw [Jq]at g
    split at g <;> cases g
  have U:vs[i]?=some v:=by
   unfold start at g;rw [YS (by simpa using F),QF]at g
   cases e:vs[i]? with
   | none=>rw [e]at g;cases g
   | some a=>rw [e]at g;cases g;rfl
  obtain⟨u,J,Q⟩:=r.get U
  have B:l[i]?=some y:=by
   rw [<- S.pre,List.getElem?_take_of_lt (by lia)];exact G
  have t:l.Nodup:=by rw [<- S.pre];exact S.nd.sublist (List.take_sublist _ _)
  refine⟨u,Q,?_⟩
  rcases S.par y (QM B)with k | k
  ·exact .inl ⟨k,C7 t B J k⟩
  ·obtain⟨c,e⟩:=Db (n:=s.heap.objs.size+1) k;refine .inr ⟨.inl k,c,e,?_⟩;have q:=x.cell y c e;rw [C5 t B J (by show scope.names.lookup y≠_;rw [k];decide)]at q;exact q
 ·exact j.hok.fresh (Yu (x.above y c (PySem.mem_of_lookup h)))
 ·unfold start
  show _=N.length
  rw [Qm,Qo,List.length_replicate];lia
theorem E9{F:jL}{P:J2}{w:J4}{K:PySem.W.Frag}{mg:Str->Option Value}{base:Heap}{k:Nat}{f:JY}{name a:Str}{d:Arguments}{g:List Zj}{scope:ZK}{X kV z U c ct oc:Value}{Z od:Option JY}
  {M:Array (Option Value)}{N B:List Str}{sp:Sp} (lk:K.lookup f=some ⟨oc,od,.func (PySem.W.fnOf name a d g scope X kV z U Z c ct),M⟩) (T:PySem.W.codeIn K c a=true) (S:bX N B scope)
  (len:∀ vs H Q E,sp vs H Q E->vs.length=B.length)
  (j:∀(A:Around) (outer:List Env) (s:YP) (H:Hp) (vs:List V) (Q:VK) (E:XK),dC k (A.deeper (UZ a scope s.heap.objs.size f c))->sp vs H Q E->
   ∃ t,fX (kQ F P w K mg base N a scope f c A outer s H E) g t/\t { nx:=fun _ H'=>Q .non H',rt:=Q } (start N vs) H):
  aQ P w K mg base F (k+1) f (PySem.W.fnOf name a d g scope X kV z U Z c ct) B sp:=by
 refine⟨len,fun A outer s H Y us vs Q E R p hb r m=>?_⟩
 have hl:=len _ _ _ _ m;have KX:K.In s.heap:=p.mod.kin.keeps fun b o e=>(p.bs b o e).1;have O:s.heap.NoLimit:=p.mod.nolimit.keeps fun b o e=>(p.bs b o e).1
 have i:∀ y∈B.zip us,scope.names.lookup y.1=some .local ∨ (scope.names.lookup y.1=some .cell/\((cellsFrom (s.heap.objs.size+1) scope.names []).lookup y.1).isSome=true):=fun zz hy=>by
  obtain⟨n,v⟩:=zz;rcases S.par n (UT hy).1 with q | q
  ·exact .inl q
  ·exact .inr ⟨q,PySem.W.cellsFrom_some _ _ _ (.inl q)⟩
 refine codeAny_call_function R.depth (KX _ _ lk) rfl S.co S.gen rfl (PySem.W.codeRec_of KX T) (hb _ _ _ _ ?_);refine wpAny_newFunctionEnv_cells S.kind i fun a0 he s1 x=>?_;subst he
 refine⟨O.keeps x.toInCall.keep,codeAny_func ?_⟩
 obtain⟨t,ht,hq⟩:=j A outer s H vs Q E (R.deeper _) m;have I:Inv (kQ F P w K mg base N a scope f c A outer s H E) [] (start N vs) H s1:=OW S R.hd p hl r x;refine YO (ht [] s1 (start N vs) H _ I hq) (fun fl s' l=>?_) fun e s' l=>l
 have fin:∀{h:St}{H':Hp}{v:V}{u:Value},Inv (kQ F P w K mg base N a scope f c A outer s H E) [] h H' s'->RelV v u->Q v H'->CE outer P w H s Q u s':=
  fun{h H' v u} J G q=>⟨v,H',J.os,J.bare,J.base,J.hok,G,q⟩
 cases fl with
 | ret u=>
  obtain⟨v,h,H',J,G,q⟩:=l;exact fin J G q
 | next=>
  obtain⟨h,H',J,q⟩:=l;exact fin (v:=V.non) (u:=Value.none) J rfl q
 | brk=>
  obtain⟨_,_,_,q⟩:=l;exact ZF q
 | cont=>
  obtain⟨_,_,_,q⟩:=l;exact ZF q
section
variable {X:Cx}{x:Str}{p pos:Pos}{e:Expr}{es:List Expr}{t:TA}{id T:String}{r:List V->Hp->VK->Prop}
def zH(r:List V->Hp->VK->Prop)(t:TA):TE:=fun a H Q=>t a H fun b c=>r b c Q
theorem Hb(o:dW X (.builtin id) r)(n:Gl X x)(m:X.mg x=none)(k:Zk x=some (.builtin id))(q:PA X (e::es) t)(l:x≠"__name__":=by decide)(b:(x == ("__debug__":Str))=false:=by decide)
  (he:J0 (e::es) X.env=(false,Zs e X.env)::J0 es X.env:=by rfl) (hpl:(Zo pos (J0 es X.env)).any (·.1)=false:=by rfl):PE X (.Call (.Name x p) (e::es) [] pos) (zH r t):=by
 intro a s c H Q I h;refine Jc (kW I n m k ?_ l b);exact PyProof.Rows.callWith_builtin1 (bH (q pos a s c H _ I h) fun f g ⟨d,v,u,i,j⟩=>o a g c v d f Q u i j) he hpl
theorem Hc(o:dW X (.type T) r)(n:Gl X x)(m:X.mg x=none)(k:Zk x=some (.type T))(q:PA X (e::es) t)(l:x≠"__name__":=by decide)(b:(x == ("__debug__":Str))=false:=by decide)
  (he:J0 (e::es) X.env=(false,Zs e X.env)::J0 es X.env:=by rfl) (hpl:(Zo pos (J0 es X.env)).any (·.1)=false:=by rfl):PE X (.Call (.Name x p) (e::es) [] pos) (zH r t):=by
 intro a s c H Q I h;refine Jc (kW I n m k ?_ l b);exact YM (bH (q pos a s c H _ I h) fun f g ⟨d,v,u,i,j⟩=>o a g c v d f Q u i j) he hpl
end
end L2
namespace HT
def lexLt:List Int->List Int->Bool
 | [],[]=>false
 | [],_::_=>true
 | _::_,[]=>false
 | x::xs,y::ys=>if x=y then lexLt xs ys else decide (x<y)
theorem lexLt_cons(x y:Int)(xs a:List Int):lexLt (x::xs) (y::a)=if x=y then lexLt xs a else decide (x<y):=rfl
theorem lexLt_nil_nil:lexLt [] []=false:=rfl
theorem Gp(y:Int)(a:List Int):lexLt [] (y::a)=true:=rfl
theorem Go(x:Int)(xs:List Int):lexLt (x::xs) []=false:=rfl
theorem EM(A:Around)(s:YP)(a:Int)(t:Tok)(c:Int)(u:Tok):∃ e,SeqAt.EqAt A s (.int a t) (.int c u) e/\(e=true ↔ a=c):=
 ⟨(a == c),SeqAt.EqAt.int_int a t c u,by simp⟩
theorem rcLt_int(A:Around)(s:YP)(a:Int)(t:Tok)(c:Int)(u:Tok)(prog:J2)(w:J4)(E:Value->YP->Prop)(Q:Value->YP->Prop)(h:Q (.bool (decide (a<c))) s):
  JZ (J1 prog w) A (ZM .Lt (.int a t) (.int c u)) Q E s:=
 (PyProof.Rows.lt_int h:JZ (J1 prog w) A (J9 .Lt (.int a t) (.int c u)) Q E s)
section
open PySem.SeqAt
open PySem.AutoSeq1 (wpAny_loadPart')
open PySem.MeetsSeq PySem.MeetsSeq2 PySem.MeetsSeq3
theorem Tc(l b:JY)(i f:Array Value)(n Y:Nat)(dd S:Option JY)(X N:Array (Option Value))(ns K:List Int)(W:ZH i.toList ns)(U:ZH f.toList K):
  Meets (Builtin.«tuple.__lt__» ⟨[.ref l,.ref b],[]⟩)
   (fun _ R s=>s.heap.get? l=some { cls:=.type "tuple",dict:=dd,data:=.seq i n,slots:=X }/\s.heap.get? b=some { cls:=.type "tuple",dict:=S,data:=.seq f Y,slots:=N } /\
    R (.ok (.ret (.bool (lexLt ns K)))) s):=
 .of_wp fun r w A R s h=>by
  obtain⟨M,g,d,I,J⟩:=s;obtain⟨hl,hb,h⟩:=h;have f2:=Z9
  have z1:i.size=ns.length:=by rw [<- W.length];simp
  have z2:f.size=K.length:=by rw [<- U.length];simp
  wp_walk using Zx hl,Zx hb,YT _ (fun rest b O=>b.1=none/\O=⟨M,g,d,I,J⟩/\∃(H ws:List Value) (k m:List Int),rest=H.zip ws /\
   ZH H k/\ZH ws m/\k.length+f.size=m.length+i.size/\R (.ok (.ret (.bool (lexLt k m)))) ⟨M,g,d,I,J⟩) _
  case turn=>
   rintro⟨y,x⟩ rest b O ⟨E,rfl,H,ws,k,m,o,B,p,j,z⟩
   cases B with
   | nil=>rw [List.zip_nil_left]at o;cases o
   | cons a t G=>
    cases p with
    | nil=>rw [List.zip_nil_right]at o;cases o
    | cons c u F=>
     rw [YU]at o
     injection o with hyx hrest
     injection hyx with hy hx
     subst hy hx;rw [lexLt_cons]at z;simp only [QE]at j;obtain⟨e,he,v⟩:=EM A.in1 ⟨M,g,d,I,J⟩ a t c u;refine Qa (he r w _ _ ?_)
     cases e with
     | true=>
      rw [if_pos (v.mp rfl)]at z
      wp_walk
      exact⟨rfl,rfl,_,_,_,_,hrest,G,F,by lia,z⟩
     | false=>
      rw [if_neg (fun q=>absurd (v.mpr q) Qx)]at z;have Q:=rcLt_int A.in1 ⟨M,g,d,I,J⟩ a t c u r w
      wp_walk using Q
      exact⟨_,rfl,by simpa using z⟩
  case fin=>
   rintro⟨b1,b2⟩ O ⟨E,rfl,H,ws,k,m,o,B,p,j,z⟩
   simp only at E
   subst E
   have T:lexLt k m=decide (i.size<f.size):=by
    cases B with
    | nil=>
     cases p with
     | nil=>
      simp only [Y2]at j;rw [lexLt_nil_nil]
      exact(decide_eq_false (by lia)).symm
     | cons c u Z=>
      simp only [Y2,QE]at j;rw [Gp]
      exact(decide_eq_true (by lia)).symm
    | cons a t T=>
     cases p with
     | nil=>
      simp only [Y2,QE]at j;rw [Go]
      exact(decide_eq_false (by lia)).symm
     | cons c u Z=>
      rw [YU]at o;cases o
   rw [T]at z
   wp_walk
   exact⟨_,rfl,by simpa [Builtin.Tuple.tupleCompareSizes]using z⟩
  case h=>
   exact⟨rfl,rfl,i.toList,f.toList,ns,K,rfl,W,U,by lia,h⟩
end
section
variable {prog:J2}{w:J4}{A:Around}{E:Value->YP->Prop}{s:YP}
theorem lt_tupInts{l b:JY}{c a:Array Value}{ns d:List Int}{Q:Value->YP->Prop}(y:U8 s.heap l c)(G:U8 s.heap b a)(B:ZH c.toList ns)(z:ZH a.toList d)
  (v:A.units<J8) (h:Q (.bool (lexLt ns d)) s):JZ (J1 prog w) A (J9 .Lt (.ref l) (.ref b)) Q E s:=by
 obtain⟨⟨H,dd,q,t⟩,m,p,n,o⟩:=id y;obtain⟨⟨r,j,k,i⟩,e,g,u,f⟩:=id G
 simp only at p o g f
 subst p o g f
 exact richCompare_meets_room (op:=.Lt) ⟨_,m,rfl⟩ ⟨_,e,rfl⟩ PySem.F.slot_tuple_lt PySem.F.entry_tuple_lt (PySem.F.args_tuple_lt_2 _ _) (Tc l b c a n u dd j t i ns d B z)
  ⟨m,e,show Value.bool (lexLt ns d)≠Value.notImplemented/\Q (.bool (lexLt ns d)) s from⟨(fun x=>nomatch x),h⟩⟩ v
theorem cat_tup{t b:JY}{vs ws:List Value}{Q:Value->YP->Prop}(r:U8 s.heap t vs.toArray)(u:U8 s.heap b ws.toArray)(m:vs≠[])
  (x:ws=[]->Q (.ref t) s) (v:ws≠[]->Q (.ref s.heap.objs.size) { s with heap:=s.heap.push { cls:=.type "tuple",data:=.seq (vs++ws).toArray } })
  (hsz:vs.length+ws.length<=sizeLine):JZ (J1 prog w) A (Zt .Add (.ref t) (.ref b)) Q E s:=by
 obtain⟨⟨cls,dd,data,k⟩,i,p,n,o⟩:=id r;obtain⟨⟨q,g,j,c⟩,a,f,l,d⟩:=id u
 simp only at p o f d
 subst p o f d
 have e:vs.toArray++ws.toArray=(vs++ws).toArray:=by simp
 by_cases h:ws=[]
 ·exact concat_meets ⟨_,i,rfl⟩ ⟨_,a,rfl⟩ noFill_tuple_add seq_tuple_add PySem.F.slot_tuple_add PySem.F.entry_tuple_add (PySem.F.args_tuple_add_2 _ _)
   (tuple_addW1 t b vs.toArray ws.toArray n l dd g k c (by simpa using m) (by simp [h])) ⟨i,a,x h⟩
 ·refine concat_meets ⟨_,i,rfl⟩ ⟨_,a,rfl⟩ noFill_tuple_add seq_tuple_add PySem.F.slot_tuple_add PySem.F.entry_tuple_add (PySem.F.args_tuple_add_2 _ _)
   (tuple_addW2 t b vs.toArray ws.toArray n l dd g k c (by simpa using m) (by simpa using h) (by rw [QA,QA];exact hsz)) ⟨i,a,?_⟩
  rw [e];exact v h
def sIx(n d:Nat):Option Int->Nat
 | none=>d
 | some v=>if v<0 then(v+(n:Int)).toNat else min v.toNat n
theorem sIx_none(n d:Nat):sIx n d none=d:=rfl
theorem sIx_nat(n d k:Nat):sIx n d (some (k:Int))=min k n:=by
 show(if(k:Int)<0 then((k:Int)+(n:Int)).toNat else min (k:Int).toNat n)=min k n
 rw [if_neg (by lia),YZ]
theorem Rx(n d:Nat)(b:d<=n)(o:Option Int):sIx n d o<=n:=by
 cases o with
 | none=>exact b
 | some v=>
  show(if v<0 then(v+(n:Int)).toNat else min v.toNat n)<=n
  by_cases a:v<0
  ·rw [if_pos a];lia
  ·rw [if_neg a];exact Nat.min_le_right _ _
theorem sb1{i:Int}{n:Nat}(h:i<0):max 0 (min (i+(n:Int)) (n:Int))=(((i+(n:Int)).toNat:Nat):Int):=by
 rw [Int.min_eq_left (by lia),Int.max_comm,<- Int.ofNat_toNat]
theorem CF{i:Int}{n:Nat}(h:¬ i<0):min i (n:Int)=((min i.toNat n:Nat):Int):=by
 obtain⟨k,rfl⟩:=Int.eq_ofNat_of_zero_le (Int.not_lt.mp h);rw [YZ];by_cases c:k<=n
 ·rw [Nat.min_eq_left c,Int.min_eq_left (Int.ofNat_le.mpr c)]
 ·rw [Nat.min_eq_right (Nat.le_of_not_le c),Int.min_eq_right (Int.ofNat_le.mpr (Nat.le_of_not_le c))]
theorem sb2{i:Int}{n:Nat}(h:¬ i<0):max 0 (min i (n:Int))=((min i.toNat n:Nat):Int):=by
 rw [CF h,Int.max_eq_right (Jd _)]
theorem Lq{i:Int}{n:Nat}:max (i+(n:Int)) 0=(((i+(n:Int)).toNat:Nat):Int):=(Int.ofNat_toNat _).symm
theorem Dc(v:Int)(n d:Nat):(if v<0 then max (v+(n:Int)) 0 else min v (n:Int))=((sIx n d (some v):Nat):Int):=by
 show(if v<0 then max (v+(n:Int)) 0 else min v (n:Int))=(((if v<0 then(v+(n:Int)).toNat else min v.toNat n):Nat):Int)
 by_cases a:v<0
 ·simp only [if_pos a];exact Lq
 ·simp only [if_neg a];exact CF a
theorem M5(a b:Option Int)(n:Nat):Z5 a b 1 (n:Int)=(((sIx n 0 a:Nat):Int),((sIx n n b:Nat):Int)):=by
 have c:¬ ((1:Int)<0):=by lia
 unfold Z5;simp only [c,if_false];refine Jj ?_ ?_
 ·cases a with
  | none=>rfl
  | some v=>exact Dc v n 0
 ·cases b with
  | none=>rfl
  | some v=>exact Dc v n n
theorem Sq(i j:Nat):ZI (i:Int) (j:Int) 1=j-i:=by
 unfold ZI
 have a:(1:Int) > 0:=by lia
 simp only [a,if_true,Int.ediv_one]
 split <;> lia
theorem G5{v:Value}{o:Option Int}{Q:Option Int->YP->Prop}(p:Vd v o)(h:Q o s):JZ (J1 prog w) A (Builtin.Slice.slicePartIndex v) Q E s:=by
 cases p with
 | none=>exact slicePart_none h
 | int i t=>exact slicePart_int h
theorem G4{g:JY}{f e:Value}{a c:Option Int}{n:Nat}{Q:Int × Int × Nat->YP->Prop}(hs:s.heap.IsSliceOf g f e .none)(j:Vd f a)(i:Vd e c)
  (h:Q (((sIx n 0 a:Nat):Int),1,sIx n n c-sIx n 0 a) s):JZ (J1 prog w) A (Builtin.Slice.sliceApplied (.ref g) (pure (n:Int))) Q E s:=by
 obtain⟨l,b,k,d⟩:=id hs;unfold Builtin.Slice.sliceApplied Builtin.Slice.sliceFields;refine Qa (Qa (JX b d (x:=f) rfl (Qa (JX b d (x:=e) rfl (Qa (JX b d (x:=.none) rfl (Qb ?_)))))));refine Qa (slicePart_none ?_)
 show JZ _ _ (if((1:Int) == 0)=true then _ else _) _ _ s
 rw [if_neg (by decide)];refine Qa (G5 j (Qa (G5 i (Qa (Qb ?_)))))
 show JZ _ _ (match Z5 a c 1 (n:Int)with | (a,c)=>pure (a,(1:Int),ZI a c 1)) _ _ s
 rw [M5 a c n]
 show JZ _ _ (pure (((sIx n 0 a:Nat):Int),(1:Int),ZI ((sIx n 0 a:Nat):Int) ((sIx n n c:Nat):Int) 1)) _ _ s
 rw [Sq];exact Qb h
theorem Sm(xs:Array Value)(i k:Nat):((J5 k).filterMap fun(m:Nat)=>xs[((i:Int)+(m:Int) * 1).toNat]?).toArray=((xs.toList.drop i).take k).toArray:=by
 have e:(fun(m:Nat)=>xs[((i:Int)+(m:Int) * 1).toNat]?)=fun m=>xs[i+m]?:=by
  funext m
  have:((i:Int)+(m:Int) * 1).toNat=i+m:=by lia
  rw [this]
 rw [e]
 have:=pick_run xs i k
 rw [List.filterMap_map]at this;have a:((fun x=>xs[x]?) ∘ fun x=>i+x)=fun m=>xs[i+m]?:=rfl;rw [a]at this;rw [this]
theorem getItem_tuple_cut{t f:JY}{a:Array Value}{n l:Value}{c d:Option Int}{Q:Value->YP->Prop}(e:U8 s.heap t a)(hs:s.heap.IsSliceOf f n l .none)(p:Vd n c)(o:Vd l d)
  (u:¬ (sIx a.size 0 c=0/\sIx a.size a.size d=a.size))
  (h:Q (.ref s.heap.objs.size) { s with heap:=s.heap.push { cls:=.type "tuple",data:=.seq ((a.toList.drop (sIx a.size 0 c)).take (sIx a.size a.size d-sIx a.size 0 c)).toArray } })
  (hsz:a.size<=sizeLine):JZ (J1 prog w) A (getItem (.ref t) (.ref f)) Q E s:=by
 have b:sizeOk (.seq ((a.toList.drop (sIx a.size 0 c)).take (sIx a.size a.size d-sIx a.size 0 c)).toArray):=by
  show((a.toList.drop (sIx a.size 0 c)).take (sIx a.size a.size d-sIx a.size 0 c)).toArray.size<=sizeLine
  rw [QA,Q8,YL,Qt];lia
 have z:sIx a.size a.size d<=a.size:=Rx _ _ (Ql _) d;obtain⟨r,g,j,v⟩:=id hs;have k:s.TypeIs (.ref f) "slice":=⟨r,g,j⟩;unfold getItem
 try with_reducible refine QV ?_
 first | refine Qa (Qb ?_) | skip
 refine Qa (wpAny_sequenceKey e.typeIs (by decide) ?_)
 refine Qa (Yf (name:=Str.ofString "__getitem__") e.typeIs YR
  (Q9 YR e.typeIs entry_tuple_getitem ?_ (args_tuple_getitem _ _)))
 show JZ _ _ (Builtin.Tuple.tupleItemsOf (.ref t) >>= _) _ _ s
 refine Qa (tupleItemsOf_ e ?_);refine Qa (Y8 k ?_);rw [if_pos (by decide)];refine Qa (G4 hs p o ?_)
 have i:¬ ((((sIx a.size 0 c:Nat):Int) == 0 && (1:Int) == 1 && (sIx a.size a.size d-sIx a.size 0 c) == a.size)=true):=by
  intro q;rw [QO,QO]at q;have y:((sIx a.size 0 c:Nat):Int)=0:=Yt q.1.1;have x:sIx a.size a.size d-sIx a.size 0 c=a.size:=Yt q.2;exact u ⟨by lia,by lia⟩
 show JZ _ _ (if(((sIx a.size 0 c:Nat):Int) == 0 && (1:Int) == 1 && (sIx a.size a.size d-sIx a.size 0 c) == a.size)=true then _ else _) _ _ s
 rw [if_neg i,Sm]
 first
  | exact Qa (m:=ZQ _) (Q0 (Qb ⟨_,rfl,Qb h⟩) b)
  | exact Qa (m:=ZQ _) (Q0 (Qa (Qb (Qb ⟨_,rfl,Qb h⟩))) b)
  | exact Qa (Qa (m:=ZQ _) (Q0 (Qb (Qb ⟨_,rfl,Qb h⟩)) b))
  | exact Qa (Qa (m:=ZQ _) (Q0 (Qb ⟨_,rfl,Qb h⟩) b))
end
end HT
namespace L2
open PySem.Spec
abbrev TO:=St->Hp->(Option Int->Hp->Prop)->Prop
def PO(X:Cx)(e:Option Expr)(t:TO):Prop:=
 ∀(pins:List (JY × Obj)) (s:YP) (σ:St) (H:Hp) (Q:Option Int->Hp->Prop),Inv X pins σ H s->t σ H Q->
  JZ (J1 X.prog X.w) X.A (evalPart e X.env) (fun u a=>∃ o H',Inv X pins σ H' a/\Vd u o/\Q o H') X.xe s
def Vg:TO:=fun _ H Q=>Q none H
def Mg(t:TE):TO:=fun a H Q=>t a H fun x b=>∃ i,x=.int i/\Q (some i) b
section
variable {X:Cx}{e:Expr}{te:TE}{lo hi:Option Expr}{tl th:TO}{pos p2:Pos}
theorem Ss:PO X none Vg:=by
 intro a s b H Q I h;rw [evalPart_none];exact Qb ⟨none,H,I,.none,h⟩
theorem Su(h:PE X e te):PO X (some e) (Mg te):=by
 intro a s b H Q I g;rw [evalPart_some];refine bH (h a s b H _ I g) fun u l c=>?_;obtain⟨x,k,j,d,f⟩:=c;obtain⟨i,rfl,q⟩:=f;obtain⟨t,rfl⟩:=d
 exact⟨some i,k,j,.int i t,q⟩
def lN(X:Cx)(r:V->Option Int->Option Int->Hp->VK->Prop):Prop:=
 ∀(pins:List (JY × Obj)) (s:YP) (σ:St) (H:Hp) (x:V) (v vl vu:Value) (lo hi:Option Int) (sl:JY) (Q:VK),Inv X pins σ H s->RelV x v->s.heap.IsSliceOf sl vl vu .none->Vd vl lo->Vd vu hi->r x lo hi H Q->
  ∃ T id,typeLookup (.type T) "__getitem__"=pure (some (.builtin id))/\s.TypeIs v T/\JZ (J1 X.prog X.w) X.A (getItem v (.ref sl)) (EP X pins σ Q) X.xe s
theorem lN.or{r g:V->Option Int->Option Int->Hp->VK->Prop}(h:lN X r)(h':lN X g):lN X (fun x lo hi H Q=>r x lo hi H Q ∨ g x lo hi H Q):=by
 intro a s b H x v d c lo hi e Q I f k j i q;rcases q with q | q
 ·exact h a s b H x v d c lo hi e Q I f k j i q
 ·exact h' a s b H x v d c lo hi e Q I f k j i q
def Mk(r:V->Option Int->Option Int->Hp->VK->Prop)(te:TE)(b c:TO):TE:=fun a H Q=>te a H fun x f=>b a f fun l e=>c a e fun u d=>r x l u d Q
theorem Po{r:V->Option Int->Option Int->Hp->VK->Prop}(F:lN X r)(he:PE X e te)(G:PO X lo tl)(B:PO X hi th):PE X (.Subscript e (.Slice lo hi none p2) pos) (Mk r te tl th):=by
 intro a s d H Q I h;refine Subscript_ (bH (he a s d H _ I h) fun v m i=>?_);obtain⟨x,S,O,n,t⟩:=i;refine wpAny_Slice (bH (G a m d S _ O t) fun g k ⟨l,R,N,z,p⟩=>bH (B a k d R _ N p) fun f c i=>?_);obtain⟨u,j,I3,y,o⟩:=i;rw [evalPart_none];refine Qb ?_;have M:Inv X a d j { c with heap:=c.heap.push { cls:=.type "slice",data:=.fields #[g,f,.none] } }:=I3.kept (t':=c.toks) fun b U q=>Qc _ q;obtain⟨T,id,K,E,J⟩:=F a { c with heap:=c.heap.push { cls:=.type "slice",data:=.fields #[g,f,.none] } } d j x v g f l u c.heap.objs.size Q M n (Heap.IsSliceOf.new ..) z y o
 show JZ (J1 X.prog X.w) X.A (Ua e (.Slice lo hi none p2) v (.ref c.heap.objs.size)) (EP X a d Q) X.xe { c with heap:=c.heap.push { cls:=.type "slice",data:=.fields #[g,f,.none] } }
 exact tail_any (ops:=[.ref c.heap.objs.size,v]) E K J (by with_unfolding_all rfl)
def lO(xs:List V)(a b:Option Int):List V:=(xs.drop (HT.sIx xs.length 0 a)).take (HT.sIx xs.length xs.length b-HT.sIx xs.length 0 a)
theorem Dh(xs:List V)(a b:Option Int):(lO xs a b).length<=xs.length:=by
 unfold lO;rw [Q8,YL];lia
def Ln(K:PySem.W.Frag):V->Option Int->Option Int->Hp->VK->Prop:=fun x b c H Q=>∃ a xs,x=.ref a/\bR K H a xs /\
 ¬ (HT.sIx xs.length 0 b=0/\HT.sIx xs.length xs.length c=xs.length)/\∀ p,H p=none->Q (.ref p) (aZ H p (.tup (lO xs b c)))
theorem Tu:lN X (Ln X.K):=by
 intro i s w H x v z y e g A Q I l u n m h;obtain⟨a,d,rfl,p,t,q⟩:=h;cases l;obtain⟨f,r,k,j⟩:=I.tuple p
 have c:f.toArray.size=d.length:=by rw [QA];exact r.length.symm
 refine⟨"tuple",_,YR.lookup,k.typeIs,?_⟩
 refine HT.getItem_tuple_cut k u n m (by rw [c];exact t) ?_ (by rw [c];exact j);rw [c]
 refine⟨.ref s.heap.objs.size,_,I.laid (t':=s.toks) (o:=.tup (lO d e g)) (fun b B q=>Qc _ q) (Ql _) ?_,rfl,q _ (I.hok.fresh (Ql _))⟩
 exact⟨Qz (Dh d e g) j,_,(r.drop (HT.sIx d.length 0 e)).take (HT.sIx d.length d.length g-HT.sIx d.length 0 e),IsTup.new _ _⟩
def Lb(K:PySem.W.Frag):R2:=fun x y H Q=>∃ a b xs ys,x=.ref a/\y=.ref b/\bR K H a xs/\bR K H b ys/\xs≠[]/\xs.length+ys.length<=sizeLine /\
 (ys=[]->Q (.ref a) H)/\(ys≠[]->∀ p,H p=none->Q (.ref p) (aZ H p (.tup (xs++ys))))
theorem Vals.nil_iff{xs:List V}{us:List Value}(r:Vals xs us):us=[] ↔ xs=[]:=by
 cases r with
 | nil=>simp
 | cons _ _=>simp
theorem Px:bO X (Zt .Add) (Lb X.K):=by
 intro e s F H x y v u Q I l k h;obtain⟨a,b,j,i,rfl,rfl,E,B,A,g,n,m⟩:=h;cases l;cases k;obtain⟨t,d,r,_⟩:=I.tuple E;obtain⟨f,c,p,_⟩:=I.tuple B;refine HT.cat_tup r p (fun z=>A (d.nil_iff.mp z)) (fun z=>⟨.ref a,H,I,rfl,n (c.nil_iff.mp z)⟩) (fun z=>?_) (by rw [<- d.length,<- c.length];exact g)
 refine⟨.ref s.heap.objs.size,_,I.laid (t':=s.toks) (o:=.tup (j++i)) (fun b G q=>Qc _ q) (Ql _) ?_,rfl,m (fun w=>z (c.nil_iff.mpr w)) _ (I.hok.fresh (Ql _))⟩
 exact⟨by rw [Qm];exact g,_,d.append c,IsTup.new _ _⟩
end
def ixN(n:Nat)(i:Int):Option Nat:=if 0<=i then(if i<n then some i.toNat else none)else if -(n:Int)<=i then some (i+n).toNat else none
def atI{α:Type}(xs:List α)(i:Int):Option α:=(ixN xs.length i).bind fun j=>xs[j]?
theorem O6{n:Nat}{i:Int}{j:Nat}(h:ixN n i=some j):seqIndex? i n=some j/\j<n/\-(n:Int)<=i/\i<n:=by
 unfold ixN at h;by_cases b:0<=i
 ·rw [if_pos b]at h;by_cases a:i<n
  ·rw [if_pos a]at h;have e:i.toNat=j:=QL h
   exact⟨by rw [seqIndex_of b a,e],by lia,by lia,a⟩
  ·rw [if_neg a]at h;cases h
 ·rw [if_neg b]at h;by_cases a:-(n:Int)<=i
  ·rw [if_pos a]at h;have e:(i+n).toNat=j:=QL h
   exact⟨by rw [seqIndex_neg (by lia) a,e],by lia,a,by lia⟩
  ·rw [if_neg a]at h;cases h
theorem zZ{a:Type}{xs:List a}{i:Int}{v:a}(h:atI xs i=some v):∃ j,seqIndex? i xs.length=some j/\xs[j]?=some v/\j<xs.length/\-(xs.length:Int)<=i/\i<xs.length:=by
 unfold atI at h
 cases e:ixN xs.length i with
 | none=>rw [e]at h;cases h
 | some j=>
  rw [e]at h;obtain⟨f,d,c,b⟩:=O6 e
  exact⟨j,f,h,d,c,b⟩
def rW(b:Expr):Prop:=∀ o i,UN b false o i=operate [o,i] (getItem o i)
def fW(X:Cx)(r:R2):Prop:=
 ∀(value slice:Expr) (pins:List (JY × Obj)) (s:YP) (σ:St) (H:Hp) (x y:V) (v u:Value) (Q:VK),Inv X pins σ H s->RelV x v->RelV y u->r x y H Q->
  UN slice false v u=operate [v,u] (getItem v u)->JZ (J1 X.prog X.w) X.A (Ua value slice v u) (EP X pins σ Q) X.xe s
def tO(X:Cx)(id:String)(r:V->List V->Hp->VK->Prop):Prop:=
 ∀(pins:List (JY × Obj)) (s:YP) (σ:St) (H:Hp) (x:V) (xs:List V) (v:Value) (us:List Value) (Q:VK),Inv X pins σ H s->RelV x v->Vals xs us->r x xs H Q->
  JZ (J1 X.prog X.w) X.A (call (.builtin id) (v::us)) (EP X pins σ Q) X.xe s
section
variable {X:Cx}{a b:Expr}{ta tb:TE}{pos:Pos}
theorem fW.or{r g:R2}(h:fW X r)(h':fW X g):fW X (fun x y H Q=>r x y H Q ∨ g x y H Q):=by
 intro a b c s d H x y v u Q I f e q i;rcases q with q | q
 ·exact h a b c s d H x y v u Q I f e q i
 ·exact h' a b c s d H x y v u Q I f e q i
theorem wE{r:R2}(i:fW X r)(k:PE X a ta)(j:PE X b tb)(hs:rW b):PE X (.Subscript a b pos) (qV r ta tb):=by
 intro c s d H Q I h;exact Subscript_ (xY k j I h fun v u e x y m l g f q=>i a b c e d m x y v u Q l g f q (hs _ _))
def Lg(K:PySem.W.Frag):R2:=fun x y H Q=>∃ p xs i v,x=.ref p/\y=.int i/\cJ K H p xs/\atI xs i=some v/\Q v H
def Li(K:PySem.W.Frag):R2:=fun x y H Q=>∃ p xs i v,x=.ref p/\y=.int i/\bR K H p xs/\atI xs i=some v/\Q v H
def Lh:R2:=fun x y H Q=>∃ z i c,x=.str z/\y=.int i/\z.length<=sizeLine/\atI z.cps.toList i=some c/\Q (.str ⟨#[c]⟩) H
theorem O7:fW X (Lg X.K):=by
 intro c d a s l H x y v u Q I E B h m;obtain⟨p,R,i,z,rfl,rfl,F,J,q⟩:=h;cases E;obtain⟨t,rfl⟩:=B;obtain⟨g,r,f,S⟩:=I.list F;obtain⟨j,b,O,U,N,M⟩:=zZ J;obtain⟨w,o,e⟩:=r.get O;have G:=r.length;have T:=sO;have fin:EP X a l Q w s:=⟨z,H,I,e,q⟩;by_cases n:0<=i
 ·have k:i.toNat=j:=by
   rw [seqIndex_of n M]at b;exact QL b
  exact item_listR f.isList n (by lia) (by rw [k];simpa using o) fin m
 ·have k:(i+(g.toArray.size:Int)).toNat=j:=by
   rw [seqIndex_neg (by lia) N]at b;rw [QA,<- G];exact QL b
  exact subscriptTail_builtinR (x:=w) f.isList.typeIs slot_list_getitem.lookup
   (wpAny_getItem_list_neg (Q:=fun r A=>r=w/\EP X a l Q r A) f.isList (by lia) (by rw [QA] <;> lia) (by lia) (by rw [k];simpa using o) ⟨rfl,fin⟩) m
theorem Pb:fW X (Li X.K):=by
 intro b c a s e H x y v u Q I l k h n;obtain⟨p,J,i,z,rfl,rfl,o,B,q⟩:=h;cases l;obtain⟨t,rfl⟩:=k;obtain⟨m,r,f,M⟩:=I.tuple o;obtain⟨j,F,E,S,R,O⟩:=zZ B;obtain⟨w,G,d⟩:=r.get E;have A:=r.length;have N:=sO;have fin:EP X a e Q w s:=⟨z,H,I,d,q⟩
 exact subscriptTail_builtinR (x:=w) f.typeIs slot_tuple_getitem.lookup
  (getItem_tuple (j:=j) (Q:=fun r g=>r=w/\EP X a e Q r g) f (by lia) (by lia) (by rw [QA,<- A];exact F) (by simpa using G) ⟨rfl,fin⟩) n
theorem O9:fW X Lh:=by
 intro a b d s A H x y v u Q I g f h k;obtain⟨z,i,c,rfl,rfl,E,m,q⟩:=h;obtain⟨t,rfl⟩:=g;obtain⟨B,rfl⟩:=f;obtain⟨j,e,p,G,o,n⟩:=zZ m
 have l:z.cps.toList.length=z.length:=by simp [Str.length]
 rw [l]at e o n;have F:=sO
 exact tail_any (typeIs_str s z t) slot_str_getitem.lookup (getItem_str (c:=c) (by
  have w:decide (i < -(2 ^ 63:Int))=false:=decide_eq_false (by lia);have r:decide (i >= 2 ^ 63)=false:=decide_eq_false (by lia)
  rw [w,r,Bool.or_false]) (by rw [e];simpa using p) ⟨.str ⟨#[c]⟩,H,I.tok _,⟨_,rfl⟩,q⟩) k
theorem Tw(a b:Option Int)(n:Nat):(Uo a b none n).1=((HT.sIx n 0 a:Nat):Int)/\(Uo a b none n).2.1=((HT.sIx n n b:Nat):Int)/\(Uo a b none n).2.2=1:=by
 refine⟨?_,?_,rfl⟩
 ·cases a with
  | none=>simp [Uo,HT.sIx]
  | some i=>
   simp only [Uo,HT.sIx,Option.getD_none,show(1:Int) > 0 by decide,if_true];by_cases h:i<0
   ·simp only [h,if_true];exact HT.sb1 h
   ·simp only [h,if_false];exact HT.sb2 h
 ·cases b with
  | none=>simp [Uo,HT.sIx]
  | some i=>
   simp only [Uo,HT.sIx,Option.getD_none,show(1:Int) > 0 by decide,if_true];by_cases h:i<0
   ·simp only [h,if_true];exact HT.sb1 h
   ·simp only [h,if_false];exact HT.sb2 h
theorem Tv(a:List Value)(b c:Option Int):slicePick a.toArray b c none=((a.drop (HT.sIx a.length 0 b)).take (HT.sIx a.length a.length c-HT.sIx a.length 0 b)).toArray:=by
 obtain⟨f,e,d⟩:=Tw b c a.toArray.size;unfold slicePick;rw [f,e,d]
 simp only [sliceRange_one,pick_run,QA] <;> rfl
def Lm(K:PySem.W.Frag):V->Option Int->Option Int->Hp->VK->Prop:=fun x b c H Q=>∃ a xs,x=.ref a/\cJ K H a xs/\∀ p,H p=none->Q (.ref p) (aZ H p (.lst (lO xs b c)))
theorem RE:lN X (Lm X.K):=by
 intro g s u H x v y w e f z Q I j t l k h;obtain⟨a,c,rfl,p,q⟩:=h;cases j;obtain⟨m,r,i,n⟩:=I.list p;have d:=r.length
 refine⟨"list",_,slot_list_getitem.lookup,i.isList.typeIs,?_⟩
 refine wpAny_getItem_list_slice i.isList t l k .none (by simp) ?_ (by rw [QA] <;> lia);rw [Tv,<- d]
 refine⟨.ref s.heap.objs.size,_,I.laid (t':=s.toks) (o:=.lst (lO c e f)) (fun b A q=>Qc _ q) (Ql _) ?_,rfl,q _ (I.hok.fresh (Ql _))⟩
 exact⟨Qz (Dh c e f) n,_,0,(r.drop (HT.sIx c.length 0 e)).take (HT.sIx c.length c.length f-HT.sIx c.length 0 e),Qr _ rfl⟩
theorem MW:dW X (.builtin "len") (fun xs H Q=>∃ p ys,xs=[.ref p]/\(cJ X.K H p ys ∨ bR X.K H p ys)/\Q (.int ys.length) H):=by
 intro f s j H xs k Q I r h;obtain⟨p,ys,rfl,b,q⟩:=h;obtain⟨u,rfl,g⟩:=iK r;cases g;have l:=sO;rcases b with b | b
 ·obtain⟨e,c,d,i⟩:=I.list b;have a:=c.length;exact Calls.call_len_list d.isList (by simp only [QA] <;> lia) ⟨.int ys.length,H,I.tok _,⟨s.toks+1,by rw [QA,a]⟩,q⟩
 ·obtain⟨e,c,d,i⟩:=I.tuple b;have a:=c.length;exact len_tuple d (by simp only [QA] <;> lia) ⟨.int ys.length,H,I.tok _,⟨s.toks+1,by rw [QA,a]⟩,q⟩
theorem MX:dW X (.builtin "len") (fun xs H Q=>∃ z,xs=[.str z]/\z.length<=sizeLine/\Q (.int z.length) H):=by
 intro a s b H xs c Q I r h;obtain⟨z,rfl,d,q⟩:=h;obtain⟨u,rfl,t,rfl⟩:=iK r;have e:=sO;exact len_str (by lia) ⟨.int z.length,H,I.tok _,⟨_,rfl⟩,q⟩
theorem M3:dW X (.type "tuple") (fun xs H Q=>∃ p ys,xs=[.ref p]/\((cJ X.K H p ys/\∀ l,H l=none->Q (.ref l) (aZ H l (.tup ys))) ∨ (bR X.K H p ys/\Q (.ref p) H))):=by
 intro a s j H xs x Q I r h;obtain⟨p,ys,rfl,h⟩:=h;obtain⟨u,rfl,n⟩:=iK r;cases n;rcases h with⟨i,q⟩ | ⟨i,q⟩
 ·obtain⟨c,f,g,k⟩:=I.list i;have m:=f.length;refine call_tuple_list g.isList (fun d t=>?_) (by simp only [QA] <;> lia);have I1:Inv X a j H { s with heap:=d }:=I.kept (t':=s.toks) t
  have v:Inv X a j (aZ H d.objs.size (.tup ys)) { s with heap:=d.push { cls:=.type "tuple",data:=.seq c.toArray } }:=
   I1.laid (t':=s.toks) (fun b o e=>Qc _ e) (Ql _) (show eY X.prog X.w _ _ _ (.tup ys)from⟨k,c,f,IsTup.new _ _⟩)
  exact⟨.ref d.objs.size,_,v,rfl,q _ (I1.hok.fresh (Ql _))⟩
 ·obtain⟨c,f,g,k⟩:=I.tuple i;exact call_tuple_same g ⟨.ref p,H,I,rfl,q⟩
def CM(K:PySem.W.Frag)(T:String)(x:V)(H:Hp):Prop:=match x with
 | .str _=>T="str"
 | .int _=>T="int"
 | .ref p=>(T="list"/\∃ xs,cJ K H p xs) ∨ (T="tuple"/\∃ o,K.lookup p=some o/\o.cls=.type "tuple"/\o.dict=none) ∨
   (T="dict"/\((∃ kvs,H p=some (.dK kvs)) ∨ ∃ kvs,H p=some (.dT kvs))) ∨ (T="set"/\∃ S n,H p=some (.set S n))
 | _=>False
theorem Tn{pins:List (JY × Obj)}{σ:St}{H:Hp}{s:YP}{T:String}{x:V}{v:Value}(I:Inv X pins σ H s)(r:RelV x v)(ty:CM X.K T x H):
  s.TypeIs v T/\∀ a,v=.ref a->∃ ob,s.heap.get? a=some ob/\ob.dict=none:=by
 cases x with
 | str z=>
  obtain⟨t,rfl⟩:=r
  cases(show T="str" from ty)
  exact⟨typeIs_str s z t,fun _ e=>nomatch e⟩
 | int i=>
  obtain⟨t,rfl⟩:=r
  cases(show T="int" from ty)
  exact⟨typeIs_int s i t,fun _ e=>nomatch e⟩
 | ref p=>
  cases r;rcases ty with⟨rfl,q,l⟩ | ⟨rfl,o,b,m,g⟩ | ⟨rfl,b⟩ | ⟨rfl,S,n,b⟩
  ·obtain⟨k,_,j,_⟩:=I.list l
   refine⟨j.isList.typeIs,fun a e=>?_⟩
   cases e;obtain⟨o,n,e,c,g,_⟩:=j
   exact⟨o,e,g⟩
  ·refine⟨⟨o,I.kIn p o b,m⟩,fun a e=>?_⟩
   cases e
   exact⟨o,I.kIn _ o b,g⟩
  ·have z:∃ o,s.heap.get? p=some o/\o.ExactDict:=by
    rcases b with⟨f,b⟩ | ⟨f,b⟩
    ·obtain⟨_,_,_,_,o,_,_,e,d,_⟩:=I.hok p _ b
     exact⟨o,e,d⟩
    ·obtain⟨_,_,_,_,o,_,_,e,d,_⟩:=I.hok p _ b
     exact⟨o,e,d⟩
   obtain⟨o,e,d⟩:=z
   refine⟨⟨o,e,d.1⟩,fun a h=>?_⟩
   cases h
   exact⟨o,e,d.2.1⟩
  ·obtain⟨o,_,_,_,e,d,_⟩:=I.hok p _ b
   refine⟨⟨o,e,d.1⟩,fun a h=>?_⟩
   cases h
   exact⟨o,e,d.2.1⟩
 | _=>exact ZF ty
def LW(K:PySem.W.Frag)(T:String)(r:V->List V->Hp->VK->Prop)(to:TE)(t:TA):TE:=fun a H Q=>to a H fun x b=>CM K T x b/\t a b fun c d=>r x c d Q
variable {o e:Expr}{es:List Expr}{to:TE}{t:TA}{name:Str}{apos cpos:Pos}{T id:String}{r:V->List V->Hp->VK->Prop}
theorem AK(A:PlainAttrs T)(slot:Slot T name id)(i:typeOf (.builtin id)=pure (.type "method_descriptor"))(E:tO X id r)(B:PE X o to)(F:PA X (e::es) t)
  (d:ZY o name X.env (Zs o X.env)=Zs o X.env:=by rfl)
  (f:((Zo cpos (J0 (e::es) X.env)).all (fun x => !x.1) && (Ut cpos (ZN [] X.env)).all (fun x=>x.1.isSome)
   && decide ((e::es).length+([]:List Z1).length+(if([]:List Z1).isEmpty then 0 else 1)<30))=true:=by rfl)
  (c:(apos.endLine == cpos.line)=true:=by rfl) (hs:J0 (e::es) X.env=(false,Zs e X.env)::J0 es X.env:=by rfl) (b:(Zo cpos (J0 es X.env)).any (·.1)=false:=by rfl):
  PE X (.Call (.Attribute o name apos) (e::es) [] cpos) (LW X.K T r to t):=by
 intro a s g H Q I h;refine wpAny_Call_method_late d f c rfl (bH (B a s g H _ I h) fun v u m=>?_);obtain⟨x,O,l,j,ty,z⟩:=m;obtain⟨J,G⟩:=Tn l j ty
 refine⟨T,id,A,slot,i,J,G,?_⟩
 have k:=F cpos a u g O _ l z;rw [hs]at k ⊢;refine Calls.callWith_builtin (by show(false || (Zo cpos (J0 es X.env)).any (·.1))=false;rw [b] <;> rfl) (Calls.evalArgs_plain ?_);exact bH k fun p q ⟨n,N,M,w,y⟩=>E a q g N x n v p Q M j w y
end
def BN(X:Cx)(id:String)(r:V->List V->Hp->VK->Prop):Prop:=
 ∀(pins:List (JY × Obj)) (s:YP) (σ:St) (H:Hp) (x:V) (xs:List V) (v:Value) (us:List Value) (Q:VK),Inv X pins σ H s->RelV x v->Vals xs us->r x xs H Q->
  JZ (J1 X.prog X.w) X.A (call (.builtin id) (v::us)) (EP X pins σ Q) X.xe s
theorem Vals.one{x:V}{us:List Value}(h:Vals [x] us):∃ u,us=[u]/\RelV x u:=by
 cases h with
 | cons r h=>cases h;exact⟨_,rfl,r⟩
theorem Vals.two{x y:V}{us:List Value}(h:Vals [x,y] us):∃ u v,us=[u,v]/\RelV x u/\RelV y v:=by
 cases h with
 | cons r h=>obtain⟨v,rfl,q⟩:=Vals.one h;exact⟨_,v,rfl,r,q⟩
section
variable {X:Cx}{pins:List (JY × Obj)}{σ:St}{H:Hp}{s:YP}{l b:JY}{xs ys zs:List V}
theorem Inv.lset{a its':List Value}{n:Nat}{f:Array Value->Array Value}{t':Nat}(I:Inv X pins σ H s)(h:H l=some (.lst xs))
  (e:s.heap.get? l=some { cls:=.type "list",data:=.seq a.toArray n }) (d:f a.toArray=its'.toArray) (b:Vals ys its') (hz:ys.length<=sizeLine):
  Inv X pins σ (aZ H l (.lst ys)) { s with heap:=s.heap.update l (ZC f),toks:=t' }:=by
 have q:=PySem.IsL.update e f;rw [d]at q;refine I.write (x:=l) (e:=l) (by rw [h];exact trivial) (.inl rfl) (fun i u g c=>(Yr s.heap (ZC f) (Zy g)).trans c) ⟨_,q⟩ ?_
 exact⟨hz,its',_,b,q⟩
theorem Inv.lstM(I:Inv X pins σ H s)(a:H l=some (.lst xs)):xs.length<=sizeLine/\∃(its:List Value) (n:Nat),Vals xs its/\xs.length=its.length/\s.heap.get? l=some { cls:=.type "list",data:=.seq its.toArray n }:=by
 obtain⟨z,its,n,r,e⟩:=I.hok l _ a
 exact⟨z,its,n,r,r.length,e⟩
theorem Rp{n:Nat}(h:n<=sizeLine):Ub n=false:=by
 unfold Ub;exact decide_eq_false (by lia)
end
section
variable {X:Cx}
def RQ:V->List V->Hp->VK->Prop:=fun x a H Q=>∃ l xs y,x=.ref l/\a=[y]/\H l=some (.lst xs)/\xs.length<sizeLine/\Q .non (aZ H l (.lst (xs++[y])))
theorem AF:BN X "list.append" RQ:=by
 intro b s i H x k v m Q I d f h;obtain⟨l,j,y,rfl,rfl,c,o,q⟩:=h;cases d;obtain⟨u,rfl,g⟩:=f.one;obtain⟨z,a,n,r,p,e⟩:=I.lstM c;refine call_meets F.slot_list_append ⟨_,e,rfl⟩ F.entry_list_append (F.args_list_append_2 _ _) (PySem.list_append l a.toArray n u (by rw [QA];lia)) ⟨e,?_⟩
 refine⟨.non,_,I.lset (its':=a++[u]) c e (by simp) (r.append (.cons g .nil)) ?_,rfl,q⟩
 rw [Qm,QH];lia
end
section
variable {prog:J2}{w:J4}{A:Around}{E:Value->YP->Prop}{s:YP}
end
section
variable {X:Cx}
end
end L2
namespace Att
open PySem.W PySem.Calls
theorem OV{P:Params}{h:Heap}:∀(ns:List Int) (vs:List Value),WellAll P h vs (ns.map WData.int)->ZH vs ns:=by
 intro ns
 induction ns with
 | nil=>
  intro vs w;rw [List.map_nil]at w;cases w;exact .nil
 | cons n ns c=>
  intro vs w;rw [Qp]at w
  cases w with
  | cons a b=>
   cases a;exact .cons _ _ (c _ b)
theorem RA{l:OpenLaw}{n:Nat}(u:l.most=some n){P:Params}{h:Heap}{args:List WData}{b:List Value}
  (c:l.row.toRowW.claim.pre args=true) (j:WellAll P h b args):
  ∃ a vs ns,b=[Value.ref a]/\args=[WData.list (ns.map WData.int)]/\h.get? a=some { cls:=.type "list",data:=.seq vs.toArray }/\ZH vs ns/\ns.length<=n:=by
 have k:WShape.hasAll [] args [.list .int]=true:=(pre_splitW c).1;have m:l.pre.holds [] { args:=args }=true:=(pre_splitW c).2;obtain⟨d,r,rfl,x,w⟩:=hasAllW_cons k
 obtain rfl:=hasAllW_nil w
 obtain⟨y,rfl,v⟩:=hasW_list x;obtain⟨ns,rfl⟩:=items_int v
 have e:ns.length<=n:=by
  unfold OpenLaw.pre at m
  have i:(WTm.not (.lt (.lit (.int (n:Int))) (.len (.arg 0)))).holds [] { args:=[.list (ns.map .int)] }=true:=by
   have i:=(holds_andW m).1;rw [u]at i;exact i
  have g:=condW_of i (w_not (w_lt w_lit (w_len_list (w_arg rfl))));rw [Qo]at g;refine JN fun q=>?_
  have s:(n:Int)<((ns.length:Nat):Int):=by lia
  first
   | (rw [decide_eq_true s]at g;exact absurd g (by decide))
   | (simp at g;lia)
 cases j with
 | cons p o=>
  cases o
  cases p with
  | list t f=>exact⟨_,_,ns,rfl,rfl,t,OV ns _ f,e⟩
theorem Sw(l:OpenLaw)(args:List WData):l.row.toRowW.claim.post args (.bool true) args=true:=
 postW_of (r:=l.row.toRowW) (X:=(true == true))
  (show WShape.has [] (.bool true) .bool=true by first | rfl | decide | simp [WShape.has,WShape.arms,WShape.armsAll])
  (show(WTm.eq .res (.lit (.bool true))).value [] { args:=args,res:=some (.bool true),after:=args }=some (.bool (true == true))from w_eq_bool (w_res rfl) w_lit) rfl
theorem attach_call{l:OpenLaw}{n:Nat}{q:J2}{b:List Str}{x:(Str->Option Value)->Heap->Prop}{v:J4->Heap->Prop}{d:DefRec}
  (B:l.most=some n) (k:d.params.defaults=[])
  (call:∀(w:J4) (s₀ s₁:YP) (mg mb:Str->Option Value) (fa:JY) (o:Obj) (pm cd doc:Value) (a:JY) (vs:List Value) (ns:List Int),
   Ground q b [] x w s₀ mg mb s₁.heap->v w s₁.heap->
   s₁.heap.get? fa=some o->o.data=.func (docDef d.name d.params d.body d.scope pm cd doc)->s₁.heap.CodeRec cd d.name->mg d.name=some (.ref fa)->
   s₁.heap.get? a=some { cls:=.type "list",data:=.seq vs.toArray }->ZH vs ns->ns.length<=n->s₁.gens=#[]->
   ZW (J1 l.prog w) callerA (.call (.ref fa) ⟨[.ref a],[]⟩) (fun r s'=>r=.ok (.ret (.bool true))/\OldK s₁.heap s'.heap/\s'.os=s₁.os/\U4 s'.gens) s₁):
  WalkO q b x v l.row.toRowW d [] (fun f vs=>PySem.call f vs):=by
 intro w s₀ s₁ mg mb G Y fa o pm cd doc N kV A I m t j H u p O e s y i F
 obtain rfl:N=.none:=Dflts.none t k
 obtain rfl:kV=.none:=Dflts.noKw t
 obtain⟨a,vs,ns,rfl,rfl,g,c,h⟩:=RA B e i;refine enter_call (JA (call w s₀ s₁ mg mb fa o pm cd doc a vs ns G Y A (fd_plain I) m j g c h H) fun r s' z=>?_);obtain⟨rfl,M,K,J⟩:=z
 exact⟨.inl ⟨.bool true,.bool true,[],rfl,fun _=>rfl,.bool true,Sw l _,fun _=>⟨ZO,fun _ E=>(nomatch E)⟩⟩,M,K,J⟩
section
variable {prog:J2}{w:J4}{A:Around}{E:Value->YP->Prop}{s:YP}{K:Frag}
end
end Att
namespace L2
open PySem.Spec
theorem HL:∀{vs:List Value}{ns:List Int},ZH vs ns->Vals (ns.map V.int) vs
 | _,_,.nil=>.nil
 | _,_,.cons n t h=>.cons ⟨t,rfl⟩ (HL h)
def gZ(s:Zj):Arguments:=match s with
 | .FunctionDef _ a _ _ _ _ _ _ _ _=>a
 | _=>{ posonlyargs:=[],args:=[],vararg:=none,kwonlyargs:=[],kw_defaults:=[],kwarg:=none,defaults:=[] }
def fM(s:Zj):List Zj:=match s with
 | .FunctionDef _ _ b _ _ _ _ _ _ _=>b
 | _=>[]
def bB(s:Zj):ZK:=match s with
 | .FunctionDef _ _ _ _ _ _ a _ _ _=>a
 | _=>{ kind:=.function,names:=[],isGenerator:=false,isCoroutine:=false }
abbrev aR:jL:=fun _ _ _ _ _ _=>False
abbrev E0:XK:=fun _ _ _=>False
theorem G7{X:Cx}:zX aR X E0:=fun _ _ _ _ _ _ _ h=>h.elim
structure mK(K:PySem.W.Frag)(x qual:Str)(st:Zj)(f:JY)(fd:Zu):Prop where
 ex:∃(oc:Value) (od:Option JY) (kV doc pm:Value) (an:Option JY) (cdv ct:Value) (osl:Array (Option Value)),
  fd=PySem.W.fnOf x qual (gZ st) (fM st) (bB st) .none kV doc pm an cdv ct/\K.lookup f=some ⟨oc,od,.func fd,osl⟩/\PySem.W.codeIn K cdv qual=true
 kp:PySem.W.keepIn K (.ref f)=true
section
variable {P:J2}{w:J4}{K:PySem.W.Frag}{mg:Str->Option Value}{base:Heap}
theorem mK.ok{x a:Str}{c:Zj}{f:JY}{i:Zu}{N d:List Str}{k:Nat}{sp:Sp}(F:mK K x a c f i)(S:bX N d (bB c))(len:∀ vs H Q E,sp vs H Q E->vs.length=d.length)
  (b:∀(cdv:Value) (A:Around) (outer:List Env) (s:YP) (H:Hp) (vs:List V) (Q:VK) (E:XK),dC k (A.deeper (UZ a (bB c) s.heap.objs.size f cdv))->sp vs H Q E->
   ∃ t,fX (kQ aR P w K mg base N a (bB c) f cdv A outer s H E).nox (fM c) t/\t { nx:=fun _ H'=>Q .non H',rt:=Q } (start N vs) H):aQ P w K mg base aR (k+1) f i d sp:=by
 obtain⟨p,od,kV,n,o,u,cdv,r,j,rfl,l,g⟩:=F.ex;refine E9 l g S len fun A outer s H vs Q E m e=>?_;obtain⟨t,h,q⟩:=b cdv A outer s H vs Q E m e
 exact⟨t,h.nox,q⟩
theorem vU{x a:Str}{d:Zj}{f:JY}{j:Value}{od i:Option JY}{g:Array (Option Value)}{kV e h b ct:Value}(l:K.lookup f=some ⟨j,od,.func (PySem.W.fnOf x a (gZ d) (fM d) (bB d) .none kV e h i b ct),g⟩)
  (c:PySem.W.codeIn K b a=true) (k:PySem.W.keepIn K (.ref f)=true):mK K x a d f (PySem.W.fnOf x a (gZ d) (fM d) (bB d) .none kV e h i b ct):=⟨⟨j,od,kV,e,h,i,b,ct,g,rfl,l,c⟩,k⟩
end
theorem wX{n:Nat}(h:n<=1000):n<sizeLine:=Yc h (by decide)
section
variable {X:Cx}
end
def eJ(H a:Hp):Prop:=∀ b o,H b=some o->a b=some o
theorem eJ.refl(H:Hp):eJ H H:=fun _ _ h=>h
theorem eJ.trans{H d H2:Hp}(a:eJ H d)(b:eJ d H2):eJ H H2:=fun c o h=>b c o (a c o h)
theorem eJ.free{H a:Hp}(e:eJ H a){l:JY}(h:a l=Option.none):H l=Option.none:=by
 cases q:H l with
 | none=>rfl
 | some o=>
  rw [e l o q]at h;cases h
end L2
namespace CL
open PySem.Spec L2
theorem Af{env:Env}:∀(names:List (Str × UM)) (acc:List (Str × JY)),(∀ x∈names,x.2=.free->∃ c,env.cells.lookup x.1=some c)->
  (∀ x c,acc.lookup x=some c->env.cells.lookup x=some c)->
  ∃ cl,(forIn names acc (fun(x:Str × UM) (cs:List (Str × JY))=>(do
    if x.2 == .free then
     let c <- cellOf env x.1
     pure (Ui ((x.1,c)::cs))
    else pure (Ui cs):Sem (ForInStep (List (Str × JY)))))=(pure cl:Sem _))/\(∀ x c,cl.lookup x=some c->env.cells.lookup x=some c) /\
   (∀ x,(x,J7)∈names->∃ c,cl.lookup x=some c)/\(∀ x c,acc.lookup x=some c->∃ c',cl.lookup x=some c')/\(∀ x c,cl.lookup x=some c->(x,J7)∈names ∨ acc.lookup x=some c)
 | [],acc,_,h2=>⟨acc,by rw [List.forIn_nil],h2,fun x h=>by simp at h,fun x c h=>⟨c,h⟩,fun x c h=>.inr h⟩
 | (n,k)::r,acc,h1,h2=>by
  rw [List.forIn_cons];by_cases f:k=.free
  ·subst f;obtain⟨c,m⟩:=h1 (n,.free) (Qe) rfl;have b:env.cells.lookup n=some c:=m
   have g:∀ x c',((n,c)::acc).lookup x=some c'->env.cells.lookup x=some c':=fun x c' h=>by
    rw [QW]at h
    cases e:x == n with
    | true=>rw [e]at h;cases h;rw [Yt e];exact b
    | false=>rw [e]at h;exact h2 x c' h
   obtain⟨cl,q,l,j,d,i⟩:=Af r ((n,c)::acc) (fun x a=>h1 x (Qg _ a)) g
   refine⟨cl,?_,l,fun x a=>?_,fun x c' h=>?_,fun x c' h=>?_⟩
   ·have o:cellOf env n=pure c:=by unfold cellOf;rw [b]
    simp only [beq_self_eq_true,if_true,o,pure_bind];exact q
   ·rcases Qj.mp a with a | a
    ·cases a;exact d n c (by rw [QW,beq_self_eq_true])
    ·exact j x a
   ·cases e:x == n with
    | true=>rw [Yt e];exact d n c (by rw [QW,beq_self_eq_true])
    | false=>exact d x c' (by rw [QW,e];exact h)
   ·rcases i x c' h with h | h
    ·exact .inl (Qg _ h)
    ·rw [QW]at h
     cases e:x == n with
     | true=>rw [Yt e];exact .inl Qe
     | false=>rw [e]at h;exact .inr h
  ·obtain⟨cl,q,l,j,d,i⟩:=Af r acc (fun x a=>h1 x (Qg _ a)) h2
   refine⟨cl,?_,l,fun x a=>?_,d,fun x c h=>(i x c h).imp (Qg _) id⟩
   ·have e:(k == J7)=false:=by simpa using f
    simp only [e,Qq,if_false,pure_bind];exact q
   ·rcases Qj.mp a with a | a
    ·cases a;exact absurd rfl f
    ·exact j x a
theorem Cs{env:Env}{scope:ZK}(h:∀ x∈scope.names,x.2=.free->∃ c,env.cells.lookup x.1=some c):
  ∃ cl,closureFor scope env=pure cl/\(∀ x c,cl.lookup x=some c->env.cells.lookup x=some c)/\(∀ x,(x,J7)∈scope.names->∃ c,cl.lookup x=some c)/\(∀ x c,cl.lookup x=some c->(x,J7)∈scope.names):=by
 obtain⟨cl,q,d,b,_,a⟩:=Af (env:=env) scope.names [] h (fun x c h=>by simp at h)
 refine⟨cl,?_,d,b,fun x c h=>(a x c h).elim id fun z=>by simp at z⟩
 simp only [closureFor]
 first
  | exact q
  | (rw [<- q];congr 1;funext x cs;obtain⟨n,k⟩:=x;rfl)
  | simpa using q
def hZ(X:Cx)(N':List Str)(scope:ZK)(a:List (Str × JY))(C:JY)(fp:List JY)(s:YP)(H:Hp):Cx:=
 { X with N:=N',s₀:=s,H₀:=H,env:=compEnvC scope a C X.env,outer:=X.stack,ex:=fp,fn:=fun x=>scope.names.lookup x == some .local,pn:=[],xe:=fun _ _=>False }
structure o9(X:Cx)(N':List Str)(scope:ZK)(inner:List (Option Nat)):Prop where
 kind:scope.kind=.function
 nocell:∀ x∈scope.names,x.2≠.cell
 loc:∀ x∈scope.names,x.2=.local->scope.names.lookup x.1=some .local
 free:∀ x∈scope.names,x.2=.free->scope.names.lookup x.1=some .free/\(X.env.scope.names.lookup x.1=some .cell ∨ X.env.scope.names.lookup x.1=some .free)
 len:inner.length=N'.length
 out:∀(i j:Nat),inner[i]?=some (some j)->∃ x,N'[i]?=some x/\X.N[j]?=some x/\scope.names.lookup x=some .free
def gJ(inner:List (Option Nat))(σ:L2.St):L2.St:=inner.map fun o=>o.bind fun j=>(σ[j]?).bind id
theorem GH{env:Env}:∀{names:List (Str × UM)}{x:Str},names.lookup x=some .free->
  (names.map fun(n,k)=>if(k == J7 && env.scope.kind == .function && env.kindOf n == some .cell)then(n,Uc)else(n,k)).lookup x=some .free ∨
  (names.map fun(n,k)=>if(k == J7 && env.scope.kind == .function && env.kindOf n == some .cell)then(n,Uc)else(n,k)).lookup x=some .cell
 | [],_,h=>by simp at h
 | (n,k)::r,x,h=>by
  have c:=@GH env r x;rw [Qp]
  show List.lookup x ((if(k == J7 && env.scope.kind == .function && env.kindOf n == some .cell)=true then(n,Uc)else(n,k))::_)=_ ∨ List.lookup x ((if(k == J7 && env.scope.kind == .function && env.kindOf n == some .cell)=true then(n,Uc)else(n,k))::_)=_
  cases a:x == n with
  | true=>
   simp only [QW,a]at h;cases h;by_cases b:(J7 == J7 && env.scope.kind == .function && env.kindOf n == some .cell)=true
   ·rw [if_pos b];right;simp [QW,a]
   ·rw [if_neg b];left;simp [QW,a]
  | false=>
   simp only [QW,a]at h;by_cases b:(k == J7 && env.scope.kind == .function && env.kindOf n == some .cell)=true
   ·rw [if_pos b];simp only [QW,a];exact c h
   ·rw [if_neg b];simp only [QW,a];exact c h
theorem AU{env:Env}:∀{names:List (Str × UM)}{x:Str}{q:UM},(∀ y∈names,y.2≠.cell)->(q=.cell ∨ q=.free)->
  (names.map fun(n,k)=>if(k == J7 && env.scope.kind == .function && env.kindOf n == some .cell)then(n,Uc)else(n,k)).lookup x=some q->(x,J7)∈names
 | [],_,_,_,_,h=>by simp at h
 | (n,k)::r,x,q,hn,hq,h=>by
  have f:=@AU env r x q (fun y g=>hn y (Qg _ g)) hq;rw [Qp]at h;have a:List.lookup x ((if(k == J7 && env.scope.kind == .function && env.kindOf n == some .cell)=true then(n,Uc)else(n,k))::_)=some q:=h
  cases c:x == n with
  | true=>
   have e:x=n:=Yt c;by_cases b:(k == J7 && env.scope.kind == .function && env.kindOf n == some .cell)=true
   ·have:k=.free:=by
     have:=b
     simp only [QO,beq_iff_eq]at this;exact this.1.1
    rw [e,this];exact Qe
   ·rw [if_neg b]at a;simp only [QW,c]at a;have d:k=q:=QL a;rcases hq with z | z
    ·exact absurd (d.trans z) (hn (n,k) Qe)
    ·rw [e,<- z,<- d];exact Qe
  | false=>
   by_cases b:(k == J7 && env.scope.kind == .function && env.kindOf n == some .cell)=true
   ·rw [if_pos b]at a;simp only [QW,c]at a;exact Qg _ (f a)
   ·rw [if_neg b]at a;simp only [QW,c]at a;exact Qg _ (f a)
section
variable {X:Cx}{N':List Str}{scope:ZK}{inner:List (Option Nat)}{cl:List (Str × JY)}{C:JY}{fp:List JY}{s s4:YP}{H:Hp}{σ:L2.St}{pins:List (JY × Obj)}
theorem OT(CS:o9 X N' scope inner)(I:Inv X pins σ H s)(w:∀ b∈fp,eH X pins H b)(n:∀ x c,cl.lookup x=some c->X.env.cells.lookup x=some c)(O:∀ x,(x,J7)∈scope.names->∃ c,cl.lookup x=some c)(c3:∀ x c,cl.lookup x=some c->(x,J7)∈scope.names)
  (J:∀ b∈fp,b<s.heap.objs.size) (A:C=s.heap.objs.size) {h':Heap}{tk:Nat} (t:∀ b o,s.heap.get? b=some o->h'.get? b=some o) (G:h'.Ns C fun _=>none) (F:s4={ s with heap:=h',toks:=tk }):
  Inv (hZ X N' scope cl C fp s H) [] (gJ inner σ) H s4:=by
 subst F
 have old:∀ b o,s.heap.get? b=some o->b≠C:=fun b o e=>by rw [A];exact Qu (Qs e)
 have cC:∀ x c,cl.lookup x=some c->c≠C:=fun x c e=>by
  obtain⟨v,o,q,_⟩:=I.cell x c (n x c e);exact old c o q
 refine⟨⟨I.ok.mod,CS.kind,I.ok.glob,I.ok.blt,?_,fun x y c h1 h2=>I.ok.inj x y c (n x c h1) (n y c h2),fun x E=>?_,fun x c E h=>?_,I.ok.hd,I.ok.frames,.inl rfl,fun b l=>⟨?_,fun x c e z=>(w b l).2.2.2.2.1 x c (n x c e) z⟩,I.bs,Qz I.ok.bsz I.sz,fun b o e l=>?_,fun b l=>?_,I.stack,I.stkFree⟩,
  rfl,I.bare,Un.kept t,⟨_,G,fun i x v N g e3=>?_⟩,fun x c e=>?_,?_,fun x c e=>I.freeC x c (n x c e),fun p hp=>absurd (show p∈([]:List (JY × Obj))from hp) (by simp),I.hok.kept t,?_⟩
 ·show s.heap.objs.size<=C
  rw [A];exact Ql _
 ·have d:(relabel scope X.env).names.lookup x=some .cell ∨ (relabel scope X.env).names.lookup x=some .free:=E;rcases d with d | d
  ·exact O x (AU CS.nocell (.inl rfl) d)
  ·exact O x (AU CS.nocell (.inr rfl) d)
 ·have d:(scope.names.lookup x == some NameKind.local)=true:=E;have N:scope.names.lookup x=some .local:=Yt d;have g:=(CS.free _ (c3 x c h) rfl).1;rw [N]at g;cases g
 ·show b≠C
  rw [A];exact Qu (J b l)
 ·rcases(w b l).2.2.2.1 with z | z
  ·exact I.ok.noex b o e z
  ·exact absurd (QB (Qs e) (Qz I.ok.bsz z)) (YV _)
 ·intro z;rcases Qj.mp (I.stkSub b z)with q | q
  ·exact(w b l).2.1 q
  ·exact(w b l).2.2.1 q
 ·
  unfold gJ at g;rw [QF]at g
  cases K:inner[i]? with
  | none=>rw [K]at g;cases g
  | some o=>
   rw [K]at g
   cases o with
   | none=>cases g
   | some j=>
    have k:(σ[j]?).bind id=some v:=by simpa using g
    have e4:σ[j]?=some (some v):=by
     cases T:σ[j]? with
     | none=>rw [T]at k;cases k
     | some w'=>rw [T]at k;exact congrArg some k
    obtain⟨x',S,g2,R⟩:=CS.out i j K;have M:N'[i]?=some x:=N;rw [M]at S;cases S;have r:(x,J7)∈scope.names:=PySem.mem_of_lookup R;have f:=(CS.free _ r rfl).2;obtain⟨m,hm,hl⟩:=I.loc;have vis:i7 X.env.scope x:=f.elim (fun z=>.inr (.inl z)) fun z=>.inr (.inr z);obtain⟨u,W,Y⟩:=hl j x v g2 e4 vis
    refine⟨u,W,?_⟩
    obtain⟨c,Q⟩:=O x r;rcases Y with⟨k1,_⟩ | ⟨_,c',k2,Z⟩
    ·have B:X.env.scope.names.lookup x=some .local:=k1
     rcases f with z | z <;> (rw [B]at z;cases z)
    ·have U:=n x c Q;rw [k2]at U;cases U;refine .inr ⟨?_,c,Q,(let⟨o,q1,q2⟩:=Z;⟨o,t _ o q1,q2⟩)⟩
     have:=GH (env:=X.env) R
     exact this.elim .inr .inl
 ·obtain⟨v,q⟩:=I.cell x c (n x c e)
  exact⟨v,(let⟨o,q1,q2⟩:=q;⟨o,t _ o q1,q2⟩)⟩
 ·show H C=none
  exact I.hok.fresh (by rw [A];exact Ql _)
 ·show(gJ inner σ).length=N'.length
  unfold gJ;rw [Qo];exact CS.len
theorem OS(I:Inv X pins σ H s)(h:∀ b∈fp,eH X pins H b)(r:C=s.heap.objs.size){i:L2.St}{f:Hp}{s5:YP}(J:Inv (hZ X N' scope cl C fp s H) [] i f s5){h':Heap}(g:Zi C s5.heap h'):
  Inv X pins σ f { s5 with heap:=h' }:=by
 have old:∀ b o,s.heap.get? b=some o->b≠C:=fun b o e=>by rw [r];exact Qu (Qs e)
 have U:Un (jB X.stack) fp H f s.heap s5.heap:=J.base;have m:f C=none:=J.free;refine I.call' (ch:=fp) J.os ⟨fun b o e n a d=>?_,fun b o e n a d=>?_,U.free,fun b o e d=>?_,U.tups,U.frzs,U.tbls⟩ (fun b u e=>?_) J.bare fun b a=>?_
 ·rw [g.2 b (old b o e)];exact U.keep b o e n a d
 ·obtain⟨k,q⟩:=U.slot b o e n a d
  exact⟨k,by rw [g.2 b (old b o e)];exact q⟩
 ·obtain⟨l,q⟩:=U.there b o e d
  exact⟨l,by rw [g.2 b (old b o e)];exact q⟩
 ·have j:∀ c v,f c=some v->c≠C:=fun c v q z=>by rw [z,m]at q;cases q
  refine(J.hok b u e).stay (fun c v p q=>?_) (fun _ q=>q) fun _ _ q=>q
  rw [g.2 c ?_]
  ·exact q
  ·rcases p with z | z
   ·rw [z];exact j b u e
   ·exact j c _ z
 ·exact⟨(h b a).2.2.2.1,(h b a).2.1,(h b a).2.2.2.2.1,(h b a).2.2.2.2.2⟩
end
def qC(X:Cx)(a:List Expr)(t:TT):Prop:=
 ∀(pins:List (JY × Obj)) (s:YP) (σ:L2.St) (H:Hp) (Q:Bool->Hp->Prop),Inv X pins σ H s->t σ H Q->
  JZ (J1 X.prog X.w) X.A (forIn a true fun c r=>if r=true then do let ok <- isTrue c X.env (Zs c X.env);pure (Ui ok)else pure (Ui r)) (TP X pins σ Q) X.xe s
theorem RH{X:Cx}{c:Expr}{t:TT}(h:PT X c t):qC X [c] t:=fun a s b H Q I q=>wpAny_tests_one (h a s b H Q I q)
def GG(h:TI)(g:TG)(ti:TT)(te:TE)(inner:List (Option Nat)):TE:=fun c H Q=>h c H fun J f=>∀ D,f D=none->∃ W:Nat->Nat->L2.St->Hp->Prop,(∃ m,W 0 m (gJ inner c) (aZ f D (.lst [])))/\∀ i m σ' H',W i m σ' H'->
 (J.stop i H'/\Q (.ref D) H') ∨ (J.go i H'/\∀ x H2,J.yld i H' x H2->g x σ' H2 fun a j=>ti a j fun b e=>if b=true then te a e fun y d=>∃ ys,d D=some (.lst ys)/\ys.length<sizeLine/\∃ m',m'<m/\W (i+1) m' a (aZ d D (.lst (ys++[y])))else ∃ m',m'<m/\W (i+1) m' a e)
section
variable {X:Cx}{elt tg iter:Expr}{ifs:List Expr}{scope:ZK}{pos:Pos}{N':List Str}{inner:List (Option Nat)}{wi:TI}{g:TG}{ti:TT}{te:TE}
theorem NP{Y:Cx}{D it:JY}{fp:List JY}{n:Nat->Heap->Prop}{J:It}{W:Nat->Nat->L2.St->Hp->Prop}{Qn:Hp->Prop}{RR:Result->YP->Prop}{k:L2.St}{Q:Hp}{s4:YP}{U:Nat}
  (Z:Y.calm=true) (c:∀ v s,¬ Y.xe v s) (hg:PG Y tg g) (ht:qC Y ifs ti) (he:PE Y elt te) (T:jQ Y.prog Y.w Y.K tg J fp it n) (G:∀{H'':Hp},(∀ b∈fp,H'' b=none)->∀ b∈fp,eH Y [] H'' b)
  (I4:Inv Y [] k Q s4) (t4:n 0 s4.heap) (I:∀ b∈fp,Q b=none) (w0:W 0 U k Q)
  (step:∀ i m σ' H',W i m σ' H'->(J.stop i H'/\Qn H') ∨ (J.go i H'/\∀ x H3,J.yld i H' x H3->g x σ' H3 fun σ3 H3=>ti σ3 H3 fun b H4=>if b=true then te σ3 H4 fun y H5=>∃ ys,H5 D=some (.lst ys)/\ys.length<sizeLine/\∃ m',m'<m/\W (i+1) m' σ3 (aZ H5 D (.lst (ys++[y])))else ∃ m',m'<m/\W (i+1) m' σ3 H4))
  (fin:∀ σ' H' s5,Inv Y [] σ' H' s5->Qn H'->RR (.ok .next) s5):
  ZW (J1 Y.prog Y.w) Y.A (.compLoop (.ListComp elt [⟨tg,iter,ifs,0⟩] scope pos) 0 (.ref it) (.ref D) Y.env) RR s4:=by
 refine codeAny_loop rfl (fun m h=>∃ i σ' H',Inv Y [] σ' H' h/\n i h.heap/\(∀ b∈fp,H' b=none)/\W i m σ' H') (fun m h hI=>?_) U ⟨0,_,_,I4,t4,I,w0⟩;obtain⟨i,σ',H',I',R,l,w'⟩:=hI
 show JZ _ Y.A ((compTurn (.ListComp elt [⟨tg,iter,ifs,0⟩] scope pos) 0 (.ref it) (.ref D) Y.env).onRaise (fun x=>do noteFrame x Y.env;theTreesLotGoes x)) _ _ h
 refine wpAny_noted ?_;rw [compTurn_list];refine Qa (wpAny_standAt (Qa ?_));rcases step i m σ' H' w' with⟨stop,qn⟩ | ⟨go,E⟩
 ·refine YO (T.done Y rfl rfl rfl Z i [] h σ' H' (fun _ _=>False) I' (G l) R stop) (fun r s5 d=>?_) fun _ _ z=>z.elim;obtain⟨d,I5⟩:=d;subst d;exact Qb (fin σ' H' s5 I5 qn)
 ·refine YO (T.item Y rfl rfl rfl Z i [] h σ' H' (fun _ _=>False) I' (G l) R go) (fun r s5 d=>?_) fun _ _ z=>z.elim;obtain⟨u,d,h5⟩:=d;subst d;refine Qa (YO h5 (fun _ S h6=>?_) fun _ _ z=>z.elim);obtain⟨x,H6,I6,r6,y6,B,H⟩:=h6;have N:=I6.pinned (G H) (T.obj _ _ B)
  have back:∀{m':Nat}{a:L2.St}{j:Hp}{f:YP},Inv Y ([]++pX fp S.heap) a j f->m'<m->W (i+1) m' a j->
    ∃ m',m'<m/\∃ i σ' H',Inv Y [] σ' H' f/\n i f.heap/\(∀ b∈fp,H' b=none)/\W i m' σ' H':=fun{m' a j f} I7 lt w7=>by
   refine⟨m',lt,i+1,a,j,I7.unpinned,T.keep _ _ _ B fun b q o e=>(I7.pin (b,o) (Qk _ (Qk _ (kZ q e)))).1,fun b q=>?_,w7⟩
   obtain⟨o,e,_⟩:=T.obj _ _ B b q
   exact(I7.pin (b,o) (Qk _ (Qk _ (kZ q e)))).2.1
  refine Qa (YO (hg _ S σ' H6 x u _ N r6 (E x H6 y6)) (fun _ f h7=>?_) fun _ _ z=>absurd z (c _ _));obtain⟨a,j,I7,q7⟩:=h7;refine Qa (YO (ht _ f a j _ I7 q7) (fun ok s8 h8=>?_) fun _ _ z=>absurd z (c _ _));obtain⟨H8,I8,p⟩:=h8
  cases ok with
  | false=>
   simp only [Qq,if_false]at p ⊢;obtain⟨m',lt,w8⟩:=p;exact Qb ⟨rfl,back I8 lt w8⟩
  | true=>
   simp only [if_true]at p ⊢;refine Qa (Qa (YO (he _ s8 a H8 _ I8 p) (fun y s9 h9=>?_) fun _ _ z=>absurd z (c _ _)));obtain⟨t,H9,I9,r9,ys,d9,l9,m',lt,w9⟩:=h9;refine Qa (YO (AF (X:=Y) _ s9 a H9 (.ref D) [t] _ [y] (fun v H'=>H'=aZ H9 D (.lst (ys++[t]))) I9 rfl (.cons r9 .nil) ⟨_,ys,t,rfl,rfl,d9,l9,rfl⟩) (fun _ a0 F=>?_) fun _ _ z=>absurd z (c _ _));obtain⟨_,a1,O,_,M⟩:=F;subst M;exact Qb (Qb ⟨rfl,back O lt w9⟩)
theorem vB(hc:X.calm=true)(CS:o9 X N' scope inner)(hg:∀ d C fp s H,PG (hZ X N' scope d C fp s H) tg g)(ht:∀ d C fp s H,qC (hZ X N' scope d C fp s H) ifs ti)(he:∀ d C fp s H,PE (hZ X N' scope d C fp s H) elt te)
  {pins:List (JY × Obj)}{σ:L2.St}{s2:YP}{k:Hp}{it:JY}{fp:List JY}{t:Nat->Heap->Prop}{J:It}{d:List (Str × JY)}{Q:VK}{RR:Value->JY->Result->YP->Prop}
  (c1:∀ x c,d.lookup x=some c->X.env.cells.lookup x=some c) (c2:∀ x,(x,J7)∈scope.names->∃ c,d.lookup x=some c) (c3:∀ x c,d.lookup x=some c->(x,J7)∈scope.names)
  (I2:Inv X pins σ k s2) (T:jQ X.prog X.w X.K tg J fp it t) (N:t 0 s2.heap) (f2:∀ b∈fp,eH X pins k b)
  (q:∀ D,k D=none->∃ W:Nat->Nat->L2.St->Hp->Prop,(∃ m,W 0 m (gJ inner σ) (aZ k D (.lst [])))/\∀ i m σ' H',W i m σ' H'->
   (J.stop i H'/\Q (.ref D) H') ∨ (J.go i H'/\∀ x H3,J.yld i H' x H3->g x σ' H3 fun σ3 H3=>ti σ3 H3 fun b H4=>if b=true then te σ3 H4 fun y H5=>∃ ys,H5 D=some (.lst ys)/\ys.length<sizeLine/\∃ m',m'<m/\W (i+1) m' σ3 (aZ H5 D (.lst (ys++[y])))else ∃ m',m'<m/\W (i+1) m' σ3 H4))
  (fin:∀(D C:JY) (H':Hp) (s5:YP) (m:Str->Option Value),s5.heap.Ns C m->Q (.ref D) H'->(∀ h',Zi C s5.heap h'->Inv X pins σ H' { s5 with heap:=h' })->(H' C=none/\C≠X.env.locals/\X.s₀.heap.objs.size<=C/\(∀ x c,X.env.cells.lookup x=some c->c≠C)/\∀ p∈X.pn++pins,p.1≠C)->RR (.ref D) C (.ok .next) s5):
  JZ (J1 X.prog X.w) X.A (newList []) (fun acc s₃=>JZ (J1 X.prog X.w) X.A (newFunctionEnv scope X.env.globals d [] X.env.qual none .none (some X.env)) (fun cenv s₄=>
   ZW (J1 X.prog X.w) X.A (.compStart (.ListComp elt [⟨tg,iter,ifs,0⟩] scope pos) 0 (.ref it) acc { cenv with scope:=relabel scope X.env }) (RR acc cenv.locals) s₄) X.xe s₃) X.xe s2:=by
 refine wpAny_newList ?_;have hD:k s2.heap.objs.size=none:=I2.hok.fresh (Ql _);generalize hs3:({ s2 with heap:=s2.heap.push { cls:=.type "list",data:=.seq ([]:List Value).toArray } }:YP)=s3
 have B:∀ b o,s2.heap.get? b=some o->s3.heap.get? b=some o:=fun b o e=>by rw [<- hs3];exact Qc _ e
 have u:s3.heap.objs.size=s2.heap.objs.size+1:=by rw [<- hs3];exact Yp _ _
 have I3:Inv X pins σ (aZ k s2.heap.objs.size (.lst [])) s3:=by
  rw [<- hs3];exact I2.laid (t':=s2.toks) (o:=.lst []) (fun b o e=>Qc _ e) (Ql _) ⟨QU _,[],0,.nil,Qr _ rfl⟩
 have r:∀ b∈fp,b<s2.heap.objs.size:=fun b h=>by
  obtain⟨o,e,_⟩:=T.obj 0 _ N b h;exact Qs e
 have I:∀ b∈fp,eH X pins (aZ k s2.heap.objs.size (.lst [])) b:=fun b h=>by
  obtain⟨g0,g1⟩:=f2 b h
  exact⟨by rw [bI (Qu (r b h))];exact g0,g1⟩
 have R:t 0 s3.heap:=T.keep _ _ _ N fun b _ o e=>B b o e;obtain⟨W,⟨m0,O⟩,step⟩:=q _ hD;refine wpAny_newFunctionEnv (fun x hx=>CS.nocell x hx) (by intro y hy;simp at hy) (fun j a f=>?_) CS.kind
 try dsimp only at a f ⊢
 have n:∀ b o,s3.heap.get? b=some o->j.get? b=some o:=fun b o e=>f.extBut b o (Qu (Qs e)) (Qc _ e)
 have F:j.Ns s3.heap.objs.size fun _=>none:=by
  have:(fun x=>([]:List (Str × Value)).reverse.lookup x)=(fun _=>none:Str->Option Value):=by funext x;rfl
  rw [this]at a;exact a
 generalize hs4:({ s3 with heap:=j,toks:=s3.toks+([]:List (Str × Value)).length }:YP)=s4
 have I4:Inv (hZ X N' scope d s3.heap.objs.size fp s3 (aZ k s2.heap.objs.size (.lst []))) [] (gJ inner σ) (aZ k s2.heap.objs.size (.lst [])) s4:=
  OT CS I3 I c1 c2 c3 (fun b h=>by rw [u];exact YG (r b h)) rfl n F hs4.symm
 have M:t 0 s4.heap:=by rw [<- hs4];exact T.keep _ _ _ R fun b _ o e=>n b o e
 have CL:s3.heap.objs.size≠X.env.locals:=Yw I3.lt
 have CC:∀ x c,X.env.cells.lookup x=some c->c≠s3.heap.objs.size:=fun x c e=>by
  obtain⟨v,o,z,_⟩:=I3.cell x c e;exact Qu (Qs z)
 show ZW (J1 X.prog X.w) X.A (.compStart (.ListComp elt [⟨tg,iter,ifs,0⟩] scope pos) 0 (.ref it) (.ref s2.heap.objs.size) (compEnvC scope d s3.heap.objs.size X.env)) (RR (.ref s2.heap.objs.size) s3.heap.objs.size) s4
 have l:ZW (J1 X.prog X.w) X.A (.compLoop (.ListComp elt [⟨tg,iter,ifs,0⟩] scope pos) 0 (.ref it) (.ref s2.heap.objs.size) (compEnvC scope d s3.heap.objs.size X.env)) (RR (.ref s2.heap.objs.size) s3.heap.objs.size) s4:=by
  have fx:∀{H'':Hp},(∀ b∈fp,H'' b=none)->∀ b∈fp,eH (hZ X N' scope d s3.heap.objs.size fp s3 (aZ k s2.heap.objs.size (.lst []))) [] H'' b:=fun{H''} z b h=>
   ⟨z b h,(I4.ok.exf b h).1,I4.ok.exfs b h,.inl h,fun x c e=>(I4.ok.exf b h).2 x c e,fun p E=>absurd (show p∈([]:List (JY × Obj))from E) (by simp)⟩
  refine NP (Y:=hZ X N' scope d s3.heap.objs.size fp s3 (aZ k s2.heap.objs.size (.lst []))) hc (fun _ _ z=>z) (hg _ _ _ _ _) (ht _ _ _ _ _) (he _ _ _ _ _) T fx I4 M (fun b h=>(I b h).1) O step fun σ' H' s5 I5 U=>?_;obtain⟨Z,G,_⟩:=id I5.loc;exact fin _ _ H' s5 Z G U (fun h' S=>OS I3 I rfl I5 S) ⟨I5.free,CL,I3.sz,CC,fun p E=>Qu (Qs (I3.pin p E).1)⟩
 exact codeAny_compStart_list l (T.self X.A 0 s4 _ _ M l)
theorem PZ(t:X.calm=true)(CS:o9 X N' scope inner)(p:PI X tg iter wi)(r:∀ cl C fp s H,PG (hZ X N' scope cl C fp s H) tg g)(k:∀ cl C fp s H,qC (hZ X N' scope cl C fp s H) ifs ti)(he:∀ cl C fp s H,PE (hZ X N' scope cl C fp s H) elt te)
  (hs:∀ x,Us iter X.env x=pure x:=by intro _;rfl):PE X (.ListComp elt [⟨tg,iter,ifs,0⟩] scope pos) (GG wi g ti te inner):=by
 intro a s d H Q I h;obtain⟨cl,b,G,F,E⟩:=Cs (env:=X.env) (scope:=scope) fun x j o=>I.ok.has x.1 (CS.free x j o).2;rw [eval_ListComp];refine wpAny_comprehension_free (use:=none) rfl hs b CS.kind CS.loc (bH (p a s d H _ I h) fun N U y=>bH y fun i S v=>?_);obtain⟨W,fp,O,J,Y,rfl,K,T,e,B,q⟩:=v;refine vB (RR:=fun c C=>compPost (J1 X.prog X.w) X.A X.xe none (EP X a d Q) c C) t CS r k he G F E K T e B q ?_;intro D C M R m n l u _
 exact⟨m,n,fun z f=>⟨.ref D,M,u z f,rfl,l⟩⟩
end
end CL
namespace LM
open PySem.Spec L2 CL
def Bo(X:Cx)(A:Around)(N':List Str)(a:Str)(scope:ZK)(b:List (Str × JY))(f c:JY)(s:YP)(H:Hp):Cx:=
 { X with A:=A.deeper (PySem.W.envX a scope s.heap.objs.size f (.ref c) b),N:=N',s₀:=s,H₀:=H,env:=PySem.W.envX a scope s.heap.objs.size f (.ref c) b,outer:=X.stack,stack:=PySem.W.envX a scope s.heap.objs.size f (.ref c) b::X.stack,ex:=[],fn:=fun x=>scope.names.lookup x == some .local,pn:=[],xe:=fun _ _=>False }
structure vZ(X:Cx)(N':List Str)(scope:ZK)(inner:List (Option Nat))(x0:Str):Prop where
 kind:scope.kind=.function
 co:scope.isCoroutine=false
 gen:scope.isGenerator=false
 nocell:∀ x∈scope.names,x.2≠.cell
 free:∀ x∈scope.names,x.2=.free->scope.names.lookup x.1=some .free/\(X.env.scope.names.lookup x.1=some .cell ∨ X.env.scope.names.lookup x.1=some .free)
 len:inner.length+1=N'.length
 out:∀(i j:Nat),inner[i]?=some (some j)->∃ x,N'[i+1]?=some x/\X.N[j]?=some x/\scope.names.lookup x=some .free
 par:N'[0]?=some x0/\scope.names.lookup x0=some .local
section
variable {X:Cx}{A:Around}{N':List Str}{qual x0:Str}{scope:ZK}{inner:List (Option Nat)}{cl:List (Str × JY)}{f c:JY}{s s4:YP}{H:Hp}{σ:L2.St}{pins:List (JY × Obj)}{v0:V}{u0:Value}
theorem OA(LS:vZ X N' scope inner x0)(I:Inv X pins σ H s)(hA:A.frames=some X.stack)(hh:A.handled=none)(t:∀ x c,cl.lookup x=some c->X.env.cells.lookup x=some c)(T:∀ x,(x,J7)∈scope.names->∃ c,cl.lookup x=some c)(c3:∀ x c,cl.lookup x=some c->(x,J7)∈scope.names)
  (W:RelV v0 u0) {h':Heap}{tk:Nat} (w:∀ b o,s.heap.get? b=some o->h'.get? b=some o) (J:h'.Ns s.heap.objs.size fun y=>[(x0,u0)].reverse.lookup y) (G:s4={ s with heap:=h',toks:=tk }):
  Inv (Bo X A N' qual scope cl f c s H) [] (some v0::gJ inner σ) H s4:=by
 subst G;have n:∀ b:JY,b∉([]:List JY):=fun b z=>nomatch z
 refine⟨⟨I.ok.mod,LS.kind,rfl,rfl,Ql _,fun x y c h1 h2=>I.ok.inj x y c (t x c h1) (t y c h2),fun x F=>?_,fun x c F h=>?_,fun _=>hh,Around.frames_deeper hA,.inr ⟨rfl,rfl⟩,fun b K=>absurd K (n b),I.bs,Qz I.ok.bsz I.sz,fun b _ _=>n b,fun b K=>absurd K (n b),I.stack,I.stkFree⟩,
  rfl,I.bare,Un.kept w,⟨_,J,fun i x v B d e3=>?_⟩,fun x c e=>?_,I.hok.fresh (Ql _),fun x c e=>I.freeC x c (t x c e),fun p hp=>absurd (show p∈([]:List (JY × Obj))from hp) (by simp),I.hok.kept w,?_⟩
 ·have a:scope.names.lookup x=some .cell ∨ scope.names.lookup x=some .free:=F;rcases a with a | a
  ·exact absurd rfl (LS.nocell _ (PySem.mem_of_lookup a))
  ·exact T x (PySem.mem_of_lookup a)
 ·have a:(scope.names.lookup x == some NameKind.local)=true:=F;have B:scope.names.lookup x=some .local:=Yt a;have d:=(LS.free _ (c3 x c h) rfl).1;rw [B]at d;cases d
 ·cases i with
  | zero=>
   cases d;have l:N'[0]?=some x:=B;rw [LS.par.1]at l;cases l
   exact⟨u0,W,.inl ⟨LS.par.2,by simp⟩⟩
  | succ i=>
   have d:(gJ inner σ)[i]?=some (some v):=d;unfold gJ at d;rw [QF]at d
   cases M:inner[i]? with
   | none=>rw [M]at d;cases d
   | some o=>
    rw [M]at d
    cases o with
    | none=>cases d
    | some j=>
     have k:(σ[j]?).bind id=some v:=by simpa using d
     have e4:σ[j]?=some (some v):=by
      cases R:σ[j]? with
      | none=>rw [R]at k;cases k
      | some w'=>rw [R]at k;exact congrArg some k
     obtain⟨x',Q,g2,O⟩:=LS.out i j M;have l:N'[i+1]?=some x:=B;rw [l]at Q;cases Q;have r:(x,J7)∈scope.names:=PySem.mem_of_lookup O;have g:=(LS.free _ r rfl).2;obtain⟨m,hm,hl⟩:=I.loc;have vis:i7 X.env.scope x:=g.elim (fun z=>.inr (.inl z)) fun z=>.inr (.inr z);obtain⟨u,U,Y⟩:=hl j x v g2 e4 vis
     refine⟨u,U,?_⟩
     obtain⟨c,N⟩:=T x r;rcases Y with⟨k1,_⟩ | ⟨_,c',k2,Z⟩
     ·have E:X.env.scope.names.lookup x=some .local:=k1
      rcases g with z | z <;> (rw [E]at z;cases z)
     ·have S:=t x c N;rw [k2]at S;cases S;exact .inr ⟨.inr O,c,N,(let⟨o,q1,q2⟩:=Z;⟨o,w _ o q1,q2⟩)⟩
 ·obtain⟨v,q⟩:=I.cell x c (t x c e)
  exact⟨v,(let⟨o,q1,q2⟩:=q;⟨o,w _ o q1,q2⟩)⟩
 ·show(some v0::gJ inner σ).length=N'.length
  unfold gJ;rw [QE,Qo];exact LS.len
theorem Ox{a:Arguments}{d:Expr}{m k:Value}{te:TE}{Q:VK}(LS:vZ X N' scope inner x0)(I:Inv X pins σ H s)(K:A.frames=some X.stack)(B:A.handled=none)(E:A.depth<recursionLimit)
  (R:∀ x c,cl.lookup x=some c->X.env.cells.lookup x=some c) (O:∀ x,(x,J7)∈scope.names->∃ c,cl.lookup x=some c) (N:∀ x c,cl.lookup x=some c->(x,J7)∈scope.names)
  (M:s.heap.get? f=some (PySem.W.kla_obj "<lambda>" qual a d scope cl m c k)) (F:H c=some (.cod qual)) (G:Z8 (PySem.W.kla_fn "<lambda>" qual a d scope cl m (.ref c) k) ⟨[u0],[]⟩=pure [(x0,u0)]) (p:RelV v0 u0)
  (he:PE (Bo X A N' qual scope cl f c s H) d te) (q:te (some v0::gJ inner σ) H Q):
  ZW (J1 X.prog X.w) A (.call (.ref f) ⟨[u0],[]⟩) (fun r s'=>∃ y v H',r=.ok (.ret y)/\RelV v y/\Inv X pins σ H' s'/\Q v H') s:=by
 refine PySem.W.kla_callFunE E M rfl LS.co LS.gen rfl (I.hok c _ F) ?_;rw [G];refine Qb (wpAny_newFunctionEnv LS.nocell (fun y u=>by rw [Qd.mp u];exact LS.par.2) (fun i l j=>⟨((I.mod.nolimit).keeps I.bk).fresh _ j,?_⟩) LS.kind)
 show ZW _ _ (.expr d (PySem.W.envX qual scope s.heap.objs.size f (.ref c) cl)) _ _
 have g:∀ b o,s.heap.get? b=some o->i.get? b=some o:=fun b o e=>j.extBut b o (Qu (Qs e)) (Qc _ e);refine PySem.W.kla_codeExpr (YO (he [] _ _ H Q (OA LS I K B R O N p g l rfl) q) (fun y s' h=>?_) fun _ _ z=>ZF z);obtain⟨v,H',J,n,t⟩:=h
 exact⟨y,v,H',rfl,n,I.call' (ch:=[]) J.os J.base J.hok J.bare (fun b z=>nomatch z),t⟩
end
def jO(P:JY)(a:Array Value)(H:Hp):Prop:=∃ more,H P=some (.tbl (a++more))
theorem jO.inv{X:Cx}{P:JY}{a:Array Value}{pins:List (JY × Obj)}{σ:L2.St}{H:Hp}{s:YP}(T:jO P a X.H₀)(I:Inv X pins σ H s):jO P a H:=by
 obtain⟨m,e⟩:=T;obtain⟨b,c⟩:=I.base.tbls P _ e
 exact⟨m++b,by rw [c,Array.append_assoc]⟩
def Bm(mg:Str->Option Value)(h:Heap):Prop:=∃ bm o,mg "__builtins__"=some (.ref bm)/\bm≠builtinsNs/\bm≠Za/\h.get? bm=some o/\o.cls=.type "module"/\o.dict=some builtinsNs/\o.data=.plain
def kB(pos:Pos)(a:Str):Array Value:=#[Z0 pos.line,Z0 pos.col,.str a 0]
theorem uV{pos:Pos}{a:Str}{more:Array Value}{i:Nat}(h:i<3):(kB pos a++more)[i]?=(kB pos a)[i]?:=Array.getElem?_append_left (by exact h)
theorem HC{a b:Int}{t u:Tok}{c:Value}:∀(l:List Value),TriplesOk l->TriplesOk (l++[.int a t,.int b u,c])
 | [],_=>trivial
 | .int _ _::.int _ _::_::r,h=>HC r h
theorem MC{pos a:Pos}(d:a.line=pos.line)(b:a.col=pos.col)(l:List Value):UG a l=UG pos l:=by
 fun_induction UG pos l with
 | case1 line t col u c rest h=>rw [UG,d,b,if_pos h]
 | case2 line t col u c rest h e=>rw [UG,d,b,if_neg h,e]
 | case3 l h=>
  unfold UG;split
  ·exact absurd rfl (h _ _ _ _ _ _)
  ·rfl
section
variable {X:Cx}{params:Arguments}{body:Expr}{scope:ZK}{pos:Pos}{c P:JY}{qual:Str}{cl:List (Str × JY)}{s:YP}{H:Hp}{σ:L2.St}{pins:List (JY × Obj)}
theorem Oy{A:Around}{E:Value->YP->Prop}{Q:Value->YP->Prop}(I:Inv X pins σ H s)(N:defaultsOf params X.env=([],[]))(O:closureFor scope X.env=pure cl)(g:X.env.code=.ref c)(C:PySem.W.CodeHd X.base c P)(B:Bm X.mg X.base)(hq:X.env.qual++"<lambda>"=qual)(T:jO P (kB pos qual) H)
  (h:∀ f c' pm ctv H' s',(H'=H ∨ (H c'=none/\H'=aZ H c' (.cod qual)))->Inv X pins σ H' s'->H' c'=some (.cod qual)->s.heap.objs.size<=f->H' f=none->s'.heap.get? f=some (PySem.W.kla_obj "<lambda>" qual params body scope cl pm c' ctv)->Q (.ref f) s'):
  JZ (J1 X.prog X.w) A (Zs (.Lambda params body scope pos) X.env) Q E s:=by
 obtain⟨l,R⟩:=T;have a2:oZ H s.heap P (kB pos qual++l):=I.hok P _ R;obtain⟨qs,S,U,am⟩:=a2;have am:=am pos qual (uV (by decide)) (uV (by decide)) (uV (by decide));have x:=I.mod.glob.keeps I.bk;have CH:=C.keeps I.bk
 have a0:Za≠P:=fun q=>by
  obtain⟨o,es,ep,e,G,_⟩:=x;rw [q,S]at e;cases e;cases G
 obtain⟨bm,ob,b1,b2,b3,b4,b5,b6,b7⟩:=B;have y:=I.bk _ _ b4
 have j:bm≠P:=fun q=>by rw [q,S]at y;cases y;cases b5
 have BA:s.heap.BuiltinsAt X.mg P:=⟨bm,ob,b1,b2,b3,j,y,b5,b6,b7⟩;refine PySem.W.kla_eval N ?_;rw [hq];rcases am with nf | ⟨c',hf,a1⟩
 ·refine PySem.W.kla_makeFunction (mg:=X.mg) O I.ok.glob x g CH S U nf a0 BA fun c' ctv h' Y hx a t M J=>?_;have F:H c'=none:=I.hok.fresh a;have a3:P<s.heap.objs.size:=Qs S;have cP:c'≠P:=Yw (QB a3 a)
  have Z:∀ b,H b=none->b≠P:=fun b i z=>by rw [z,R]at i;cases i
  have old:∀(o:Obj) b u,b≠P->s.heap.get? b=some u->(h'.push o).get? b=some u:=fun o b u i e=>Qc _ (hx b u i e)
  have a4:aZ H c' (.cod qual) P=some (.tbl (kB pos qual++l)):=by rw [bI (Zy cP)];exact R
  have I':∀ o:Obj,Inv X pins σ (aZ H c' (.cod qual)) { s with heap:=h'.push o,toks:=Y }:=fun o=>
   I.step (g':=s.gens) (d':=s.drawn) (t':=Y) (ch:=[]) (fun _ z=>nomatch z) (fun b u _ _ _ e n=>old o b u (Z b n) e) (fun b u _ _ _ e n=>⟨u.slots,old o b u (Z b n) e⟩)
    (fun b u _ e n=>by rw [bI (Qu (QB (Qs e) a))];exact n)
    (fun b u _ e=>by
     by_cases i:b=P
     ·exact⟨_,Qc _ (by rw [i];exact J)⟩
     ·exact⟨u,old o b u i e⟩)
    (fun b xs e=>by rw [bI (fV e F)];exact e) (fun b ob u e=>by rw [bI (fV e F)];exact e) (fun b ps e=>⟨#[],by rw [bI (fV e F),e];simp⟩)
    (fun m hm=>by
     obtain⟨ol,es,ep,hl,r⟩:=hm
     exact⟨ol,es,ep,old o _ _ (Z _ I.free) hl,r⟩)
    (fun b u e=>by
     by_cases i:b=c'
     ·subst i;rw [dY]at e;cases e;exact M.push o
     ·rw [bI i]at e;by_cases j:b=P
      ·subst j;rw [R]at e;cases e
       refine⟨_,Qc _ J,?_,fun k p e1 e2 e3=>?_⟩
       ·rw [Array.toList_append];exact HC _ U
       ·rw [uV (by decide)]at e1 e2 e3;have g1:k.line=pos.line:=Int.ofNat.inj (by simpa [kB,Z0]using e1.symm);have g2:k.col=pos.col:=Int.ofNat.inj (by simpa [kB,Z0]using e2.symm)
        have g3:p=qual:=by simpa [kB]using e3.symm
        subst g3;refine .inr ⟨c',?_,dY⟩;rw [Array.toList_append]
        have:=codeAmong_snoc (pos:=pos) (c:=.ref c') qs.toList U nf
        rw [MC g1 g2];exact this
      ·refine(I.hok b u e).stay (fun d v G q=>?_) (fun d q=>by rw [bI (fV q F)];exact q) fun d xs q=>by rw [bI (fV q F)];exact q
       refine old o d v ?_ q;rcases G with rfl | G
       ·exact j
       ·rintro rfl
        rw [R]at G;cases G) I.bare
  exact h _ c' _ ctv _ _ (.inr ⟨F,rfl⟩) (I' _) dY (Yu (Yc a t)) (by rw [bI (Yw t)];exact I.hok.fresh (Yu (Yc a t))) (Qr _ rfl)
 ·refine PySem.W.kla_makeFunctionHit (mg:=X.mg) O I.ok.glob x g CH S U hf BA fun ctv h' Y hk K=>?_;exact h _ c' _ ctv H _ (.inl rfl) (I.kept fun b u e=>Qc _ (hk b u e)) a1 K (I.hok.fresh K) (Qr _ rfl)
end
end LM
namespace ST
open PySem.SetTable
def fI(M i:Nat):Nat:=(i * 5+1) % (M+1)
def jS(M:Nat):Nat->Nat->Nat
 | 0,i=>i
 | n+1,i=>jS M n (fI M i)
theorem rD(M:Nat):∀ a b i,jS M (a+b) i=jS M b (jS M a i)
 | 0,b,i=>by rw [Nat.zero_add];rfl
 | a+1,b,i=>by rw [Nat.succ_add];exact rD M a b (fI M i)
def yI(M:Nat):Nat->Nat->List Nat
 | 0,_=>[]
 | n+1,i=>i::yI M n (fI M i)
theorem Fq(M:Nat):∀(n i j:Nat),j∈yI M n i->∃ k,k<n/\jS M k i=j
 | 0,i,j,h=>nomatch h
 | n+1,i,j,h=>by
  rcases Qj.mp h with h | h
  ·exact⟨0,JO n,h.symm⟩
  ·obtain⟨k,b,a⟩:=Fq M n _ j h
   exact⟨k+1,Nat.succ_lt_succ b,a⟩
def k9(M:Nat):Bool:=(jS M (M+1) 0 == 0) && (J5 (M+1)).all fun j=>(yI M (M+1) 0).contains j
theorem IB:k9 7=true:=by decide +kernel
theorem Iz:k9 31=true:=by decide +kernel
theorem NW:k9 127=true:=by decide +kernel
theorem Iy:k9 15=true:=by decide +kernel
theorem IA:k9 63=true:=by decide +kernel
theorem NX:k9 255=true:=by decide +kernel
theorem NY:k9 511=true:=by decide +kernel
def fA(M:Nat):Prop:=M=7 ∨ M=31 ∨ M=127 ∨ M=15 ∨ M=63 ∨ M=255 ∨ M=511
theorem fA.cyc{M:Nat}(g:fA M):k9 M=true:=by
 rcases g with rfl | rfl | rfl | rfl | rfl | rfl | rfl
 ·exact IB
 ·exact Iz
 ·exact NW
 ·exact Iy
 ·exact IA
 ·exact NX
 ·exact NY
theorem Ix{M:Nat}(g:fA M):jS M (M+1) 0=0/\∀ j,j<=M->∃ k,k<=M/\jS M k 0=j:=by
 have h:=g.cyc;unfold k9 at h;rw [QO,beq_iff_eq,QZ]at h
 refine⟨h.1,fun j b=>?_⟩
 have:=h.2 j (QS.mpr (by lia))
 obtain⟨k,c,a⟩:=Fq M (M+1) 0 j (Qy.mp this)
 exact⟨k,by lia,a⟩
theorem cyc{M i j:Nat}(g:fA M)(b:i<=M)(a:j<=M):∃ k,k<=M/\jS M k i=j:=by
 obtain⟨z,c⟩:=Ix g;obtain⟨m,e,rfl⟩:=c i b;obtain⟨n,d,rfl⟩:=c j a;by_cases q:m<=n
 ·refine⟨n-m,by lia,?_⟩
  rw [<- rD];congr 1;lia
 ·refine⟨n+(M+1)-m,by lia,?_⟩
  rw [<- rD,show m+(n+(M+1)-m)=(M+1)+n by lia,rD,z]
def iN(M:Nat)(p:Probe):Probe:=
 if p.more > 0 then{ p with j:=p.j+1,more:=p.more-1 } else
 { p with j:=(leap M p.i p.perturb).1,more:=ZR M (leap M p.i p.perturb).1-(leap M p.i p.perturb).1,i:=(leap M p.i p.perturb).1,perturb:=(leap M p.i p.perturb).2 }
def run(M:Nat)(l:Nat × Nat):Probe:={ j:=l.1,more:=ZR M l.1-l.1,i:=l.1,perturb:=l.2,dummy:=none }
def L(M:Nat)(h:Int):Nat->Nat × Nat
 | 0=>(bits h % (M+1),bits h)
 | k+1=>leap M (L M h k).1 (L M h k).2
def P(M:Nat)(h:Int):Nat->Probe
 | 0=>run M (L M h 0)
 | n+1=>iN M (P M h n)
theorem tM(M:Nat)(h:Int):∀ k,(L M h k).1<=M
 | 0=>Y0 (Nat.mod_lt _ (JO _))
 | k+1=>Y0 (Nat.mod_lt _ (JO _))
theorem wK{M i:Nat}(h:i<=M):i<=ZR M i/\ZR M i<=M/\ZR M i-i<=9:=by
 unfold ZR
 split <;> lia
theorem xW(M:Nat)(h:Int):∀ n,(P M h n).j+(P M h n).more<=M/\(P M h n).dummy=none
 | 0=>by
  have:=wK (tM M h 0)
  show(L M h 0).1+(ZR M (L M h 0).1-(L M h 0).1)<=M/\none=none
  exact⟨by lia,rfl⟩
 | n+1=>by
  obtain⟨b,a⟩:=xW M h n
  show(iN M (P M h n)).j+(iN M (P M h n)).more<=M/\(iN M (P M h n)).dummy=none
  unfold iN;split
  ·exact⟨by show(P M h n).j+1+((P M h n).more-1)<=M;lia,a⟩
  ·refine⟨?_,a⟩
   have:(leap M (P M h n).i (P M h n).perturb).1<=M:=Y0 (Nat.mod_lt _ (JO _))
   have:=wK this
   show(leap M (P M h n).i (P M h n).perturb).1+(ZR M (leap M (P M h n).i (P M h n).perturb).1-(leap M (P M h n).i (P M h n).perturb).1)<=M
   lia
theorem xV(M:Nat)(h:Int)(n:Nat):(P M h n).j<=M:=by have:=(xW M h n).1;lia
theorem zW{M:Nat}{h:Int}{n k:Nat}(e:P M h n=run M (L M h k)):∀ d,d<=ZR M (L M h k).1-(L M h k).1->
  P M h (n+d)={ j:=(L M h k).1+d,more:=ZR M (L M h k).1-(L M h k).1-d,i:=(L M h k).1,perturb:=(L M h k).2,dummy:=none }
 | 0,_=>e
 | d+1,hd=>by
  show iN M (P M h (n+d))=_
  rw [zW e d (by lia)];unfold iN;rw [if_pos (show ZR M (L M h k).1-(L M h k).1-d > 0 by lia)];rfl
theorem DV{M:Nat}{h:Int}{n k:Nat}(e:P M h n=run M (L M h k)):P M h (n+(ZR M (L M h k).1-(L M h k).1)+1)=run M (L M h (k+1)):=by
 show iN M (P M h (n+(ZR M (L M h k).1-(L M h k).1)))=_
 rw [zW e _ (Ql _)];unfold iN;rw [if_neg (show ¬ ZR M (L M h k).1-(L M h k).1-(ZR M (L M h k).1-(L M h k).1) > 0 by lia)];rfl
theorem Cg(M:Nat)(h:Int):∀ k,∃ n,n<=10 * k/\P M h n=run M (L M h k)
 | 0=>⟨0,Ql _,rfl⟩
 | k+1=>by
  obtain⟨n,a,e⟩:=Cg M h k
  have:=wK (tM M h k)
  exact⟨_,by lia,DV e⟩
theorem Du(M:Nat)(h:Int):∀ k,(L M h k).2=bits h / 32 ^ k
 | 0=>by show bits h=_;rw [Nat.pow_zero,Nat.div_one]
 | k+1=>by
  show(L M h k).2 / 32=_
  rw [Du M h k,Nat.div_div_eq_div_mul,<- Nat.pow_succ]
theorem MP(h:Int):bits h<36893488147419103232:=by
 unfold bits
 have:h % (2 ^ 64:Int)<2 ^ 64:=JB _ (by decide)
 have a:(2 ^ 64:Int)=18446744073709551616:=by decide
 rw [a]at this ⊢;lia
theorem BM(M:Nat)(h:Int):∀ k,(L M h (13+k)).2=0/\(L M h (13+k)).1=jS M k (L M h 13).1
 | 0=>by
  refine⟨?_,rfl⟩
  rw [Du];exact Nat.div_eq_of_lt (MP h)
 | k+1=>by
  obtain⟨b,a⟩:=BM M h k
  show(L M h (13+k)).2 / 32=0/\((L M h (13+k)).1 * 5+1+(L M h (13+k)).2 / 32) % (M+1)=jS M (k+1) (L M h 13).1
  rw [b,a,rD]
  exact⟨rfl,rfl⟩
theorem Df{M:Nat}(g:fA M)(h:Int){j:Nat}(a:j<=M):∃ k,k<Ve M/\(L M h k).1=j:=by
 obtain⟨k,b,e⟩:=cyc g (tM M h 13) a
 exact⟨13+k,by unfold Ve;lia,by rw [(BM M h k).2,e]⟩
theorem Iw{M:Nat}(g:fA M)(h:Int){j:Nat}(a:j<=M):∃ n,n<10 * Ve M/\(P M h n).j=j:=by
 obtain⟨k,c,e⟩:=Df g h a;obtain⟨n,b,q⟩:=Cg M h k
 exact⟨n,by lia,by rw [q,<- e];rfl⟩
abbrev Up(l:List Nat):Prop:=l.Pairwise (· < ·)
theorem Up.at{l:List Nat}(s:Up l){i k x y:Nat}(b:l[i]?=some x)(a:l[k]?=some y)(h:i<k):x<y:=by
 obtain⟨d,rfl⟩:=Qf.mp b;obtain⟨c,rfl⟩:=Qf.mp a;exact List.pairwise_iff_getElem.mp s i k d c h
theorem Up.le{l:List Nat}(s:Up l){i k x y:Nat}(b:l[i]?=some x)(a:l[k]?=some y)(h:i<=k):x<=y:=by
 by_cases e:i=k
 ·subst e;rw [b]at a;cases a;exact Ql _
 ·exact Yu (s.at b a (by lia))
theorem Up.nodup{l:List Nat}(s:Up l):l.Nodup:=s.imp fun h=>Qu h
theorem Bc(xs:Array Nat)(s:Up xs.toList)(j:Nat):∀ fuel lo hi,lo<=hi->hi<=xs.size->hi-lo<=fuel->
  (∀ i x,xs.toList[i]?=some x->i<lo->x<j)->(∀ i x,xs.toList[i]?=some x->hi<=i->j<=x)->
  below.go xs j fuel lo hi<=xs.size/\(∀ i x,xs.toList[i]?=some x->i<below.go xs j fuel lo hi->x<j)/\(∀ i x,xs.toList[i]?=some x->below.go xs j fuel lo hi<=i->j<=x)
 | 0,lo,hi,h1,h2,h3,a,b=>by
  have e:lo=hi:=by lia
  subst e
  exact⟨h2,a,b⟩
 | fuel+1,lo,hi,h1,h2,h3,a,b=>by
  unfold below.go;by_cases c:lo<hi
  ·rw [if_pos c];dsimp only
   have k:(lo+hi) / 2<xs.size:=by lia
   have h:xs.toList[(lo+hi) / 2]?=some (xs.getD ((lo+hi) / 2) j):=by
    rw [QI,QJ k]
    simp [U0,k]
   by_cases d:xs.getD ((lo+hi) / 2) j<j
   ·rw [if_pos d];exact Bc xs s j fuel _ _ (by lia) h2 (by lia) (fun i x g f=>Yc (s.le g h (by lia)) d) b
   ·rw [if_neg d];exact Bc xs s j fuel _ _ (by lia) (by lia) (by lia) a (fun i x g f=>Qz (by lia) (s.le h g f))
  ·rw [if_neg c]
   have e:lo=hi:=by lia
   subst e
   exact⟨h2,a,b⟩
theorem o3(xs:Array Nat)(s:Up xs.toList)(j:Nat):Zh xs j<=xs.size/\(∀ i x,xs.toList[i]?=some x->i<Zh xs j->x<j)/\(∀ i x,xs.toList[i]?=some x->Zh xs j<=i->j<=x):=
 Bc xs s j _ _ _ (QU _) (Ql _) (by lia) (fun i x _ h=>absurd h (Yz _)) fun i x a h=>by
  obtain⟨q,_⟩:=Qf.mp a;rw [Qt]at q;lia
structure gI(t:SetTable)(hs:List Int):Prop where
 good:fA t.mask
 dum:t.dummies=#[]
 len:t.place.toList.length=hs.length
 up:Up t.place.toList
 le:∀ x∈t.place.toList,x<=t.mask
 room:t.place.toList.length * 5<t.mask * 3
 reach:∀ q∈t.place.toList.zip hs,∃ n,(P t.mask q.2 n).j=q.1/\∀ m,m<n->(P t.mask q.2 m).j∈t.place.toList
theorem wV{t:SetTable}(h:t.dummies=#[])(s:Up t.place.toList)(j:Nat):(∃ i,t.slot j=.live i/\t.place.toList[i]?=some j) ∨ (t.slot j=.empty/\j∉t.place.toList):=by
 obtain⟨n,m,l⟩:=o3 t.place s j;unfold slot;dsimp only;by_cases c:(t.place[Zh t.place j]? == some j)=true
 ·rw [if_pos c];exact .inl ⟨_,rfl,by rw [QI];exact Yt c⟩
 ·rw [if_neg c,h];refine .inr ⟨rfl,fun g=>c ?_⟩;obtain⟨i,d⟩:=Q1 g
  have e:i=Zh t.place j:=by
   by_cases a:i<Zh t.place j
   ·have:=m i j d a;lia
   ·by_cases b:i=Zh t.place j
    ·exact b
    ·have k:Zh t.place j<t.place.toList.length:=by
      obtain⟨q,_⟩:=Qf.mp d;lia
     have f:=Qh k
     have:=s.at f d (by lia)
     have:=l _ _ f (Ql _)
     lia
  rw [<- e,<- QI,d];simp
theorem G6{t:SetTable}(b:t.dummies=#[])(s:Up t.place.toList){j i:Nat}(h:t.slot j=.live i):t.place.toList[i]?=some j:=by
 rcases wV b s j with⟨d,a,c⟩ | ⟨a,_⟩
 ·rw [h]at a;cases a;exact c
 ·rw [h]at a;cases a
theorem IU{p:Nat->Prop}[DecidablePred p]:∀ n,p n->∃ m,m<=n/\p m/\∀ k,k<m->¬ p k:=by
 intro n
 induction n using Nat.strongRecOn with
 | ind n d=>
  intro h;by_cases c:∃ k,k<n/\p k
  ·obtain⟨k,b,a⟩:=c;obtain⟨m,g,f,e⟩:=d k b a
   exact⟨m,by lia,f,e⟩
  ·exact⟨n,Ql _,h,fun k b a=>c ⟨k,b,a⟩⟩
theorem LT{M:Nat}{l:List Nat}(h:l.length<=M):∃ j,j<=M/\j∉l:=by
 refine YD fun c=>?_
 have:J5 (M+1) ⊆ l:=fun j b=>YD fun a=>c ⟨j,by have:=QS.mp b;lia,a⟩
 have:=YA List.nodup_range this
 rw [QX]at this;lia
theorem Fe{M:Nat}{l:List Nat}(g:fA M)(h:l.length<=M)(x:Int):∃ n,n<10 * Ve M/\(P M x n).j∉l/\∀ m,m<n->(P M x m).j∈l:=by
 obtain⟨j,e,c⟩:=LT h;obtain⟨n,o,f⟩:=Iw g x e;obtain⟨m,i,b,a⟩:=IU (p:=fun n=>(P M x n).j∉l) n (by rw [f];exact c)
 exact⟨m,by lia,b,fun k d=>YD (a k d)⟩
section
variable {t:SetTable}{hs:List Int}{hashAt:Nat->Int}{h:Int}{n:Nat}
theorem Ew(T:gI t hs)(u:(P t.mask h n).j∉t.place.toList)(s:∀ m,m<n->(P t.mask h m).j∈t.place.toList):∀ fuel c,c<=n->n-c<fuel->
  (UO t hashAt h fuel (P t.mask h c)=some (.empty (P t.mask h n).j none)/\∀ m,c<=m->m<n->∀ i,t.slot (P t.mask h m).j=.live i->hashAt i≠h)
  ∨ ∃ m i,c<=m/\m<n/\t.slot (P t.mask h m).j=.live i/\hashAt i=h/\(∀ m',c<=m'->m'<m->∀ i,t.slot (P t.mask h m').j=.live i->hashAt i≠h)/\UO t hashAt h fuel (P t.mask h c)=some (.candidate (P t.mask h m).j i (P t.mask h (m+1)))
 | 0,c,_,hf=>absurd hf (Yz _)
 | fuel+1,c,hc,hf=>by
  unfold UO;by_cases e:c=n
  ·subst e;rcases wV T.dum T.up (P t.mask h c).j with⟨i,f,l⟩ | ⟨f,_⟩
   ·exact absurd (QM l) u
   ·rw [f];refine .inl ⟨?_,fun m a b=>by lia⟩
    show some (Met.empty (P t.mask h c).j (P t.mask h c).dummy)=_
    rw [(xW t.mask h c).2]
  ·rcases wV T.dum T.up (P t.mask h c).j with⟨i,f,l⟩ | ⟨_,l⟩
   ·rw [f];dsimp only;by_cases k:(hashAt i == h)=true
    ·rw [if_pos k];exact .inr ⟨c,i,Ql _,by lia,f,Yt k,fun m' a b=>by lia,rfl⟩
    ·rw [if_neg k];have r:hashAt i≠h:=fun e=>k (by rw [e];simp);rcases Ew T u s fuel (c+1) (by lia) (by lia)with⟨a,b⟩ | ⟨m,i',a1,a2,a3,a4,a5,a6⟩
     ·refine .inl ⟨a,fun m p g o d=>?_⟩;by_cases q:m=c
      ·subst q;rw [f]at d;cases d;exact r
      ·exact b m (by lia) g o d
     ·refine .inr ⟨m,i',by lia,a2,a3,a4,fun m' p g o d=>?_,a6⟩;by_cases q:m'=c
      ·subst q;rw [f]at d;cases d;exact r
      ·exact a5 m' (by lia) g o d
   ·exact absurd (s c (by lia)) l
theorem met(T:gI t hs)(k:(P t.mask h n).j∉t.place.toList){i j:Nat}(b:t.place.toList[i]?=some j)(g:hs[i]?=some h):∃ m,m<n/\(P t.mask h m).j=j:=by
 have f:(j,h)∈t.place.toList.zip hs:=QM (i:=i) (by rw [YE];exact⟨b,g⟩);obtain⟨m,e,a⟩:=T.reach _ f
 refine⟨m,YD fun c=>k ?_,e⟩
 by_cases d:n=m
 ·subst d;rw [e];exact QM b
 ·exact a n (by lia)
end
theorem lJ{a:Type}(xs:Array a)(p:Nat)(x:a):(Zm xs p x).toList=xs.toList.take p++x::xs.toList.drop p:=by
 rw [SetTable.toList_insertAt]
theorem RK{t:SetTable}{hs:List Int}{h:Int}{n:Nat}(T:gI t hs)(E:(P t.mask h n).j∉t.place.toList)(B:∀ m,m<n->(P t.mask h m).j∈t.place.toList)
  (H:(t.place.toList.length+1) * 5<t.mask * 3) (u:Bool):
  gI { (t.put (P t.mask h n).j).1 with plain:=u } (hs.take (t.put (P t.mask h n).j).2++h::hs.drop (t.put (P t.mask h n).j).2):=by
 obtain⟨I,G,F⟩:=o3 t.place T.up (P t.mask h n).j
 have c:∀ x,x∈(Zm t.place (Zh t.place (P t.mask h n).j) (P t.mask h n).j).toList ↔ x=(P t.mask h n).j ∨ x∈t.place.toList:=by
  intro x;rw [lJ,Qv,Qj]
  conv=>rhs;rw [<- Yn (Zh t.place (P t.mask h n).j) t.place.toList,Qv]
  constructor
  ·rintro(a | a | a)
   ·exact .inr (.inl a)
   ·exact .inl a
   ·exact .inr (.inr a)
  ·rintro(a | a | a)
   ·exact .inr (.inl a)
   ·exact .inl a
   ·exact .inr (.inr a)
 refine⟨T.good,?_,?_,?_,?_,?_,?_⟩
 ·show(if has t.dummies _=true then _ else t.dummies)=#[]
  rw [T.dum];rfl
 ·show(Zm t.place (Zh t.place (P t.mask h n).j) (P t.mask h n).j).toList.length=(hs.take (Zh t.place (P t.mask h n).j)++h::hs.drop (Zh t.place (P t.mask h n).j)).length
  rw [lJ];simp only [Qm,Q8,QE,YL];rw [T.len]
 ·show Up (Zm t.place (Zh t.place (P t.mask h n).j) (P t.mask h n).j).toList
  rw [lJ];unfold Up;rw [YX]
  have o:∀ x∈t.place.toList.take (Zh t.place (P t.mask h n).j),x<(P t.mask h n).j:=fun x f=>by
   obtain⟨i,d⟩:=Q1 f;rw [Uk]at d
   split at d
   ·rename_i q;exact G i x d q
   ·cases d
  have p:∀ x∈t.place.toList.drop (Zh t.place (P t.mask h n).j),(P t.mask h n).j<x:=fun x f=>by
   obtain⟨i,d⟩:=Q1 f;rw [Ul]at d
   have:=F _ x d (by lia)
   have y:x≠(P t.mask h n).j:=fun e=>E (e ▸ QM d);lia
  refine⟨T.up.sublist (List.take_sublist _ _),Ym.mpr ⟨p,T.up.sublist (List.drop_sublist _ _)⟩,fun a s b r=>?_⟩
  rcases Qj.mp r with rfl | r
  ·exact o a s
  ·exact JP (o a s) (p b r)
 ·intro x f
  rcases(c x).mp f with rfl | f
  ·exact xV _ _ _
  ·exact T.le x f
 ·show(Zm t.place (Zh t.place (P t.mask h n).j) (P t.mask h n).j).toList.length * 5<t.mask * 3
  rw [lJ];simp only [Qm,Q8,QE,YL];lia
 ·intro q w
  have v:(Zm t.place (Zh t.place (P t.mask h n).j) (P t.mask h n).j).toList.zip (hs.take (Zh t.place (P t.mask h n).j)++h::hs.drop (Zh t.place (P t.mask h n).j))=(t.place.toList.take (Zh t.place (P t.mask h n).j)).zip (hs.take (Zh t.place (P t.mask h n).j))++((P t.mask h n).j,h)::(t.place.toList.drop (Zh t.place (P t.mask h n).j)).zip (hs.drop (Zh t.place (P t.mask h n).j)):=by
   rw [lJ,List.zip_append (by rw [Q8,Q8,T.len]),YU]
  have g:q=((P t.mask h n).j,h) ∨ q∈t.place.toList.zip hs:=by
   have l:q∈(Zm t.place (Zh t.place (P t.mask h n).j) (P t.mask h n).j).toList.zip (hs.take (Zh t.place (P t.mask h n).j)++h::hs.drop (Zh t.place (P t.mask h n).j)):=w;rw [v,Qv,Qj]at l
   conv=>rhs;rw [<- Yn (Zh t.place (P t.mask h n).j) t.place.toList,<- Yn (Zh t.place (P t.mask h n).j) hs,List.zip_append (by rw [Q8,Q8,T.len]),Qv]
   rcases l with a | a | a
   ·exact .inr (.inl a)
   ·exact .inl a
   ·exact .inr (.inr a)
  rcases g with rfl | g
  ·exact⟨n,rfl,fun m z=>(c _).mpr (.inr (B m z))⟩
  ·obtain⟨m,e,a⟩:=T.reach q g
   exact⟨m,e,fun k A=>(c _).mpr (.inr (a k A))⟩
structure gH(M:Nat)(hs:List Int)(ow:Array (Option Nat)):Prop where
 size:ow.size=M+1
 lt:∀ j i:Nat,ow[j]?=some (some i)->i<hs.length
 all:∀ i,i<hs.length->∃ j:Nat,ow[j]?=some (some i)
 inj:∀ j j' i:Nat,ow[j]?=some (some i)->ow[j']?=some (some i)->j=j'
 reach:∀(j i:Nat) (h:Int),ow[j]?=some (some i)->hs[i]?=some h->∃ n,(P M h n).j=j/\∀ m,m<n->∃ i',ow[(P M h m).j]?=some (some i')
theorem gH.free{M:Nat}{hs:List Int}{ow:Array (Option Nat)}(W:gH M hs ow)(h:hs.length<=M):∃ j:Nat,j<=M/\ow[j]?=some none:=by
 refine YD fun c=>?_
 have m:∀ j,j<=M->∃ i,ow[j]?=some (some i):=fun j f=>by
  have d:j<ow.size:=by rw [W.size];lia
  cases e:ow[j]with
  | none=>exact absurd ⟨j,f,by rw [QJ d,e]⟩ c
  | some i=>exact⟨i,by rw [QJ d,e]⟩
 have e:∀ j,j<=M->ow[j]?=some (some ((ow.getD j none).getD 0)):=fun j f=>by
  obtain⟨i,g⟩:=m j f
  have d:j<ow.size:=by rw [W.size];lia
  rw [g];rw [QJ d]at g
  have:ow.getD j none=some i:=by simp [U0,d];exact QL g
  rw [this];rfl
 have k:(J5 (M+1)).map (fun j=>(ow.getD j none).getD 0) ⊆ J5 hs.length:=fun i g=>by
  obtain⟨j,f,rfl⟩:=QN.mp g;exact QS.mpr (W.lt j _ (e j (by have:=QS.mp f;lia)))
 have n:((J5 (M+1)).map (fun j=>(ow.getD j none).getD 0)).Nodup:=by
  unfold UH;rw [Ya];refine List.Pairwise.imp_of_mem ?_ List.nodup_range;intro a b q p l o;refine l (W.inj a b _ (e a (by have:=QS.mp q;lia)) ?_);rw [o];exact e b (by have:=QS.mp p;lia)
 have:=YA n k
 rw [Qo,QX,QX]at this;lia
theorem Ff{M:Nat}{ow:Array (Option Nat)}{h:Int}(hsz:ow.size=M+1):∀ fuel k n,P M h n=run M (L M h k)->(∀ m,m<n->∃ i,ow[(P M h m).j]?=some (some i))->
  (∃ kk,k<=kk/\kk<k+fuel/\ow[(L M h kk).1]?=some none)->
  ∃ n',layClean.free M ow fuel (L M h k).1 (L M h k).2=some (P M h n').j/\ow[(P M h n').j]?=some none/\∀ m,m<n'->∃ i,ow[(P M h m).j]?=some (some i)
 | 0,k,n,e,a,⟨kk,h1,h2,_⟩=>by lia
 | fuel+1,k,n,e,a,⟨kk,h1,h2,h3⟩=>by
  have z:=wK (tM M h k)
  have b:∀ d,d<=ZR M (L M h k).1-(L M h k).1->ow[(L M h k).1+d]?=some (ow.getD ((L M h k).1+d) (some 0)):=fun d l=>by
   have s:(L M h k).1+d<ow.size:=by lia
   rw [QJ s]
   simp [U0,s]
  have p:∀ d,d<=ZR M (L M h k).1-(L M h k).1->(P M h (n+d)).j=(L M h k).1+d:=fun d l=>by rw [zW e d l]
  unfold layClean.free
  cases q:(J5 (ZR M (L M h k).1+1-(L M h k).1)).find? fun d=>(ow.getD ((L M h k).1+d) (some 0)).isNone with
  | some d=>
   rw [List.find?_range_eq_some]at q;obtain⟨w,v,u⟩:=q
   have l:d<=ZR M (L M h k).1-(L M h k).1:=by have:=QS.mp v;lia
   refine⟨n+d,?_,?_,fun m x=>?_⟩
   ·rw [p d l]
   ·rw [p d l,b d l,Option.isNone_iff_eq_none.mp w]
   ·by_cases c:m<n
    ·exact a m c
    ·have:=u (m-n) (by lia)
     have f:m-n<=ZR M (L M h k).1-(L M h k).1:=by lia
     have o:=p (m-n) f;rw [show n+(m-n)=m by lia]at o;rw [o,b (m-n) f]
     cases r:ow.getD ((L M h k).1+(m-n)) (some 0)with
     | none=>rw [r]at this;simp at this
     | some i=>exact⟨i,rfl⟩
  | none=>
   rw [JC]at q
   have g:∀ d,d<=ZR M (L M h k).1-(L M h k).1->∃ i,ow[(L M h k).1+d]?=some (some i):=fun d l=>by
    have:=q d (QS.mpr (by lia))
    rw [b d l]
    cases r:ow.getD ((L M h k).1+d) (some 0)with
    | none=>rw [r]at this;simp at this
    | some i=>exact⟨i,rfl⟩
   have A:kk≠k:=fun y=>by
    subst y;obtain⟨i,t⟩:=g 0 (QU _);rw [Nat.add_zero,h3]at t;cases t
   refine Ff hsz fuel (k+1) _ (DV e) (fun m x=>?_) ⟨kk,by lia,by lia,h3⟩;by_cases c:m<n
   ·exact a m c
   ·have f:m-n<=ZR M (L M h k).1-(L M h k).1:=by lia
    have o:=p (m-n) f;rw [show n+(m-n)=m by lia]at o;rw [o];exact g (m-n) f
theorem gH.put{M:Nat}{hs:List Int}{ow:Array (Option Nat)}{h:Int}{n:Nat}(W:gH M hs ow)(q:ow[(P M h n).j]?=some none)(v:∀ m,m<n->∃ i,ow[(P M h m).j]?=some (some i)):
  gH M (hs++[h]) (ow.setIfInBounds (P M h n).j (some hs.length)):=by
 have t:(P M h n).j<ow.size:=by rw [W.size];have:=xV M h n;lia
 have f:∀ j,(ow.setIfInBounds (P M h n).j (some hs.length))[j]?=if(P M h n).j=j then some (some hs.length)else ow[j]?:=fun j=>by
  rw [Array.getElem?_setIfInBounds];split
  ·first | rfl | rw [if_pos t]
  ·rfl
 have g:∀ j:Nat,(∃ i,ow[j]?=some (some i))->∃ i,(ow.setIfInBounds (P M h n).j (some hs.length))[j]?=some (some i):=fun j r=>by
  obtain⟨i,o⟩:=r;rw [f];split
  ·exact⟨_,rfl⟩
  ·exact⟨i,o⟩
 refine⟨by simpa using W.size,fun j i b=>?_,fun i o=>?_,fun j p i b d=>?_,fun j i x b l=>?_⟩
 ·rw [Qm,QH];rw [f]at b
  split at b
  ·cases b;lia
  ·have:=W.lt j i b;lia
 ·rw [Qm,QH]at o;by_cases c:i<hs.length
  ·obtain⟨j,b⟩:=W.all i c
   refine⟨j,?_⟩
   rw [f,if_neg (fun e=>by rw [e,b]at q;cases q)];exact b
  ·refine⟨(P M h n).j,?_⟩
   rw [f,if_pos rfl,show i=hs.length by lia]
 ·rw [f]at b d
  split at b
  ·rename_i e;cases b
   split at d
   ·rename_i w;rw [<- e,<- w]
   ·have:=W.lt p _ d;lia
  ·split at d
   ·cases d
    have:=W.lt j _ b;lia
   ·exact W.inj j p i b d
 ·rw [f]at b
  split at b
  ·rename_i e;cases b;rw [YQ (Ql _),Nat.sub_self]at l;cases l
   exact⟨n,e,fun m s=>g _ (v m s)⟩
  ·rw [YS (W.lt j i b)]at l;obtain⟨m,e,a⟩:=W.reach j i x b l
   exact⟨m,e,fun k u=>g _ (a k u)⟩
def yC(M:Nat)(a:Option (Array (Option Nat) × Nat))(h:Int):Option (Array (Option Nat) × Nat):=do
 let(owner,k) <- a
 let j <- layClean.free M owner (Ve M) (bits h % (M+1)) (bits h)
 pure (owner.setIfInBounds j (some k),k+1)
theorem Fb{M:Nat}(g:fA M):∀(rest done:List Int) (ow:Array (Option Nat)),gH M done ow->(done++rest).length<=M->∃ ow',rest.foldl (yC M) (some (ow,done.length))=some (ow',(done++rest).length)/\gH M (done++rest) ow'
 | [],done,ow,W,_=>⟨ow,by rw [Yg];rfl,by rw [Yg];exact W⟩
 | h::rest,done,ow,W,hl=>by
  rw [Qm,QE]at hl;obtain⟨j,l,o⟩:=W.free (by lia);obtain⟨i,q,e⟩:=Df g h l;obtain⟨n,f,d,c⟩:=Ff (h:=h) W.size (Ve M) 0 0 rfl (fun m k=>absurd k (Yz _)) ⟨i,QU _,by lia,by rw [e];exact o⟩;have p:=W.put d c;obtain⟨ow',b,a⟩:=Fb g rest (done++[h]) _ p (by simp;lia)
  refine⟨ow',?_,by rw [<- List.append_cons]at a;exact a⟩
  rw [YI]
  have:yC M (some (ow,done.length)) h=some (ow.setIfInBounds (P M h n).j (some done.length),(done++[h]).length):=by
   show(layClean.free M ow (Ve M) (L M h 0).1 (L M h 0).2).bind _=_
   rw [f,Qm];rfl
  rw [this,b,<- List.append_cons]
theorem K0(M:Nat):gH M [] (Uj (M+1) none):=by
 have:∀(j:Nat) (i:Nat),(Uj (M+1) (none:Option Nat))[j]?=some (some i)->False:=fun j i h=>by
  rw [Array.getElem?_replicate]at h
  split at h <;> simp at h
 exact⟨by simp,fun j i h=>(this j i h).elim,fun i a=>absurd a (Yz _),fun j b i h=>(this j i h).elim,fun j i _ h=>(this j i h).elim⟩
theorem OE{M:Nat}(g:fA M)(hs:Array Int)(a:hs.size<=M):∃ ow,layClean M hs=some ow/\gH M hs.toList ow:=by
 obtain⟨ow,c,b⟩:=Fb g hs.toList [] _ (K0 M) (by simpa using a)
 refine⟨ow,?_,b⟩
 unfold layClean;rw [<- Array.foldl_toList]
 show(hs.toList.foldl (yC M) (some (Uj (M+1) none,0))).map (·.1)=_
 rw [show(0:Nat)=([]:List Int).length from rfl,c];rfl
def gO(M:Nat)(ow:Array (Option Nat)):List (Nat × Nat):=(J5 (M+1)).filterMap fun j=>(ow.getD j none).map (j,·)
theorem nB{M:Nat}{hs:List Int}{ow:Array (Option Nat)}(W:gH M hs ow)(q:Nat × Nat):q∈gO M ow ↔ q.1<=M/\ow[q.1]?=some (some q.2):=by
 unfold gO;rw [List.mem_filterMap];constructor
 ·rintro⟨j,c,e⟩
  have a:j<ow.size:=by rw [W.size];exact QS.mp c
  cases b:ow.getD j none with
  | none=>rw [b]at e;cases e
  | some i=>
   rw [b]at e;cases e
   refine⟨by have:=QS.mp c;show j<=M;lia,?_⟩
   show ow[j]?=some (some i)
   rw [QJ a]
   simp [U0,a]at b
   rw [b]
 ·rintro⟨f,d⟩
  have a:q.1<ow.size:=by rw [W.size];lia
  refine⟨q.1,QS.mpr (by lia),?_⟩
  rw [QJ a]at d
  have:ow.getD q.1 none=some q.2:=by simp [U0,a];exact QL d
  rw [this];rfl
theorem Gw(M:Nat)(ow:Array (Option Nat)):(gO M ow).Pairwise fun p q=>p.1<q.1:=by
 unfold gO;rw [List.pairwise_filterMap];refine List.Pairwise.imp ?_ List.pairwise_lt_range;intro a b e x d y c
 cases g:ow.getD a none with
 | none=>rw [g]at d;cases d
 | some i=>
  cases f:ow.getD b none with
  | none=>rw [f]at c;cases c
  | some k=>
   rw [g]at d;rw [f]at c
   cases d;cases c
   exact e
theorem Gi{hs:Array Int}{M:Nat}(y v:Nat)(le pl:Bool)(g:fA M)(A:hs.size * 5<M * 3):
  ∃ t' order,laid M y v le pl hs=some (t',order)/\Zc order.toList (J5 hs.size)/\gI t' (order.toList.map fun i=>hs.toList.getD i 0)/\t'.led=le/\t'.plain=pl:=by
 obtain⟨ow,E,W⟩:=OE g hs (by lia)
 have d:Zc ((gO M ow).map (·.2)) (J5 hs.size):=by
  rw [List.perm_ext_iff_of_nodup ?_ List.nodup_range]
  ·intro i;rw [QN,QS];constructor
   ·rintro⟨q,f,rfl⟩
    have:=W.lt _ _ ((nB W q).mp f).2
    simpa using this
   ·intro u;obtain⟨j,w⟩:=W.all i (by simpa using u);have t:j<ow.size:=(Array.getElem?_eq_some_iff.mp w).1
    exact⟨(j,i),(nB W (j,i)).mpr ⟨by rw [W.size]at t;show j<=M;lia,w⟩,rfl⟩
  ·unfold UH;rw [Ya];refine List.Pairwise.imp_of_mem ?_ (Gw M ow);intro p q s f k B;have a:=((nB W p).mp s).2;have b:=((nB W q).mp f).2;rw [B]at a
   have:=W.inj _ _ _ a b
   lia
 have l:(gO M ow).length=hs.size:=by
  have:=d.length_eq
  rwa [Qo,QX]at this
 refine⟨{ mask:=M,place:=((gO M ow).map (·.1)).toArray,dummies:=#[],finger:=y,led:=le,moves:=v,plain:=pl },((gO M ow).map (·.2)).toArray,?_,d,?_,rfl,rfl⟩
 ·unfold laid;rw [E];rfl
 ·refine⟨g,rfl,?_,?_,?_,?_,?_⟩
  ·show((gO M ow).map (·.1)).length=(((gO M ow).map (·.2)).map fun i=>hs.toList.getD i 0).length
   simp
  ·show Up ((gO M ow).map (·.1))
   unfold Up;rw [Ya];exact Gw M ow
  ·intro x r;have o:x∈(gO M ow).map (·.1):=r;obtain⟨q,f,rfl⟩:=QN.mp o
   exact((nB W q).mp f).1
  ·show((gO M ow).map (·.1)).length * 5<M * 3
   rw [Qo,l];exact A
  ·intro q f;have h:q∈((gO M ow).map (·.1)).zip (((gO M ow).map (·.2)).map fun i=>hs.toList.getD i 0):=f;rw [Yk,List.zip_map']at h;obtain⟨p,s,rfl⟩:=QN.mp h;obtain⟨a,b⟩:=(nB W p).mp s;have k:=W.lt _ _ b
   have r:hs.toList[p.2]?=some (hs.toList.getD p.2 0):=by
    rw [QP,Qh k];rfl
   obtain⟨n,e,c⟩:=W.reach _ _ _ b r
   refine⟨n,e,fun m z=>?_⟩
   obtain⟨i,u⟩:=c m z
   show(P M (hs.toList.getD p.2 0) m).j∈(gO M ow).map (·.1)
   exact QN.mpr ⟨((P M (hs.toList.getD p.2 0) m).j,i),(nB W _).mpr ⟨xV _ _ _,u⟩,rfl⟩
theorem RX{t:SetTable}{hs:Array Int}{a M:Nat}(c:Ze a-1=M)(g:fA M)(b:hs.size * 5<M * 3):
  ∃ t' order,t.relaid hs a=some (t',order)/\Zc order.toList (J5 hs.size)/\gI t' (order.toList.map fun i=>hs.toList.getD i 0)/\t'.led=t.led/\t'.plain=t.plain:=by
 unfold relaid;rw [c];exact Gi _ _ _ _ g b
section
variable {prog:J2}{w:J4}{A:Around}{E:Value->YP->Prop}{s:YP}
abbrev TK(prog:J2)(w:J4)(h:Heap)(k:List Int)(a:JY):Prop:=IsTupleKey (intKind prog w) h k a
abbrev TH(prog:J2)(w:J4)(k:List Int):Int:=tupleKeyHash (intKind prog w) k
theorem items_int{ks:List Int}{vs:List Value}(h:ItemsAre (intKind prog w) ks vs):∀ v∈vs,∃ i t,v=.int i t:=by
 induction h with
 | nil=>intro v a;simp at a
 | @cons k v' ks vs h1 _ ih=>
  intro v a;rcases Qj.mp a with rfl | a
  ·obtain⟨t,e⟩:=Value.isInt_shape h1
   exact⟨k,t,e⟩
  ·exact ih v a
theorem FP(n:Nat){k:List Int}{a:JY}{Q:Bool->YP->Prop}(j:TK prog w s.heap k a)(h:Q false s):JZ (J1 prog w) A (ofAClassStatement (n+2) (.ref a)) Q E s:=by
 have x:=j.typeIs;obtain⟨o,e,n,m,_,q,p⟩:=j;have l:=items_int p;unfold ofAClassStatement;refine Qa (Y8 x ?_)
 show JZ _ _ (do let b <- (if("tuple" == "tuple")=true then pure true else isSubtype (.type "tuple") (.type "tuple"));_) Q E s
 refine Qa ?_;rw [if_pos (by decide)];refine Qb ?_;simp only [YN,Qq,if_false];refine Qa (Yx m q ?_);dsimp only;refine Qa ?_;rw [<- Um];refine YT _ (fun rest r d=>r.1=none/\d=s/\∀ v∈rest,∃ i t,v=Value.int i t) _ ?_ ?_ _ _ ⟨rfl,rfl,l⟩
 ·rintro v rest r d ⟨g,rfl,c⟩;obtain⟨i,t,rfl⟩:=c v Qe;refine Qa ?_;unfold ofAClassStatement;refine Qb ?_;simp only [Qq,if_false];exact Qb ⟨rfl,rfl,fun u f=>c u (Qg _ f)⟩
 ·rintro⟨z,y⟩ d ⟨g,rfl,_⟩
  simp only at g
  subst g;exact Qb h
theorem MR(n:Nat){k:List Int}{a:JY}{Q:Bool->YP->Prop}(g:TK prog w s.heap k a)(h:Q true s):JZ (J1 prog w) A (hashByValue (n+2) (.ref a)) Q E s:=by
 have q:=g.typeIs;obtain⟨o,c,n,l,_,p,m⟩:=g;have j:=items_int m;unfold hashByValue;refine Qa (JF q F.slot_tuple_hash.lookup ?_);dsimp only;refine Qa (Yx l p ?_);refine Qa ?_
 show JZ _ _ (forIn c _ _) _ _ s
 rw [<- Um];refine YT _ (fun rest r d=>r.1=none/\d=s/\∀ v∈rest,∃ i t,v=Value.int i t) _ ?_ ?_ _ _ ⟨rfl,rfl,j⟩
 ·rintro v rest r d ⟨f,rfl,b⟩;obtain⟨i,t,rfl⟩:=b v Qe;refine Qa ?_;unfold hashByValue;refine Qb ?_;simp only [YN,Qq,if_false];exact Qb ⟨rfl,rfl,fun u e=>b u (Qg _ e)⟩
 ·rintro⟨y,x⟩ d ⟨f,rfl,_⟩
  simp only at f
  subst f;exact Qb h
theorem FR{k:List Int}{a:JY}{d:List Value}{Q:Bool->YP->Prop}(l:TK prog w s.heap k a)(hs:∀ y∈d,∃ k' b,y=.ref b/\TK prog w s.heap k' b)(h:Q false s):
  JZ (J1 prog w) A (searchCouldBeSeen (.ref a) d) Q E s:=by
 unfold searchCouldBeSeen;refine Qa ?_;refine YT _ (fun rest r g=>r.1=none/\g=s/\∀ y∈rest,∃ k' b,y=.ref b/\TK prog w s.heap k' b) _ ?_ ?_ _ _ ⟨rfl,rfl,hs⟩
 ·rintro v rest r g ⟨j,rfl,f⟩;have e:∀ y∈rest,∃ k' b,y=.ref b/\TK prog w g.heap k' b:=fun u i=>f u (Qg _ i);obtain⟨k',b,rfl,m⟩:=f v Qe;dsimp only;by_cases c:(a == b)=true
  ·rw [c];simp only [Bool.true_or,if_true];exact Qb ⟨rfl,rfl,e⟩
  ·rw [if_neg (by simp [carriedByValue,c])];refine Qa (wpAny_eqIsQuiet_tuple l ?_);simp only [YN,Qq,if_false];refine Qa (wpAny_eqIsQuiet_tuple m ?_);simp only [YN,Qq,if_false];refine Qa (FP 6 l ?_);simp only [Qq,if_false];refine Qa (FP 6 m ?_);simp only [Qq,if_false];exact Qb ⟨rfl,rfl,e⟩
 ·rintro⟨o,n⟩ g ⟨j,rfl,_⟩
  simp only at j
  subst j;exact Qb h
inductive bY(prog:J2)(w:J4)(h:Heap):List (Int × Value)->List (List Int)->Prop
 | nil:bY prog w h [] []
 | cons {k:List Int}{b:JY}{es:List (Int × Value)}{ks:List (List Int)}:TK prog w h k b->bY prog w h es ks->bY prog w h ((TH prog w k,.ref b)::es) (k::ks)
theorem bY.at{h:Heap}{es:List (Int × Value)}{ks:List (List Int)}(X:bY prog w h es ks):∀{i:Nat}{e:Int × Value},es[i]?=some e->∃ k b,ks[i]?=some k/\e=(TH prog w k,.ref b)/\TK prog w h k b:=by
 induction X with
 | nil=>intro i e h;simp at h
 | @cons k b es ks h1 _ ih=>
  intro i e h
  cases i with
  | zero=>cases h;exact⟨k,b,rfl,rfl,h1⟩
  | succ i=>exact ih (i:=i) (by simpa using h)
theorem bY.length{h:Heap}{es:List (Int × Value)}{ks:List (List Int)}(X:bY prog w h es ks):es.length=ks.length:=by
 induction X with
 | nil=>rfl
 | cons _ _ a=>simp [a]
theorem bY.append{h:Heap}{es b:List (Int × Value)}{ks a:List (List Int)}(X:bY prog w h es ks)(Y:bY prog w h b a):bY prog w h (es++b) (ks++a):=by
 induction X with
 | nil=>exact Y
 | cons d _ c=>exact .cons d c
theorem bY.take{h:Heap}{es:List (Int × Value)}{ks:List (List Int)}(X:bY prog w h es ks):∀ n,bY prog w h (es.take n) (ks.take n):=by
 induction X with
 | nil=>intro n;simpa using bY.nil
 | cons b _ a=>
  intro n
  cases n with
  | zero=>exact .nil
  | succ n=>exact .cons b (a n)
theorem bY.drop{h:Heap}{es:List (Int × Value)}{ks:List (List Int)}(X:bY prog w h es ks):∀ n,bY prog w h (es.drop n) (ks.drop n):=by
 induction X with
 | nil=>intro n;simpa using bY.nil
 | @cons k b es ks h1 hr ih=>
  intro n
  cases n with
  | zero=>exact .cons h1 hr
  | succ n=>exact ih n
theorem bY.mono{h h':Heap}{es:List (Int × Value)}{ks:List (List Int)}(X:bY prog w h es ks)(m:∀ k b,TK prog w h k b->TK prog w h' k b):bY prog w h' es ks:=by
 induction X with
 | nil=>exact .nil
 | cons c _ a=>exact .cons (m _ _ c) a
theorem bY.pick{h:Heap}{es:List (Int × Value)}{ks:List (List Int)}(X:bY prog w h es ks):∀(l:List Nat),(∀ i∈l,i<es.length)->bY prog w h (l.filterMap (es[·]?)) (l.filterMap (ks[·]?)):=by
 intro l
 induction l with
 | nil=>intro _;exact .nil
 | cons i l d=>
  intro a;have c:=a i Qe;obtain⟨k,b,m,g,f⟩:=X.at (Qh c);rw [Ud (b:=(TH prog w k,Value.ref b)) (by rw [Qh c,g]),Ud (b:=k) m];exact .cons f (d fun j e=>a j (Qg _ e))
theorem gI.fits{t:SetTable}{hs:List Int}(T:gI t hs){n:Nat}(e:hs.length=n):t.fits n=true:=by
 have a:=T.len;have b:=T.room;rw [Qt]at a b;unfold Ue Uf;rw [T.dum,a,e];rw [a]at b;simp only [QO,beq_iff_eq,decide_eq_true_eq]
 refine⟨?_,?_⟩
 ·trivial
 ·show n+0<=t.mask
  lia
theorem gI.odd{t:SetTable}{hs:List Int}(T:gI t hs):t.gaveWay=false:=by
 unfold SetTable.gaveWay
 rcases T.good with h | h | h | h | h | h | h <;> rw [h] <;> rfl
theorem G1{a x:JY}{o:Obj}{es:Array (Int × Value)}{ep:Nat}{t:SetTable}{ks:List (List Int)}{k:List Int}{n:Nat}{Q:SetFound->YP->Prop}
  (hu:A.units<J8) (S:s.heap.get? a=some o) (hd:o.data=.set es ep t) (T:gI t (es.toList.map (·.1))) (X:bY prog w s.heap es.toList ks) (Y:TK prog w s.heap k x)
  (h1:(P t.mask (TH prog w k) n).j∉t.place.toList) (h2:∀ m,m<n->(P t.mask (TH prog w k) m).j∈t.place.toList)
  (q1:k∈ks->Q (.there none) s) (q2:k∉ks->Q (.free (P t.mask (TH prog w k) n).j false) s):
  ∀ fuel c,c<=n->n<10 * Ve t.mask->n-c<fuel->(∀ m,m<c->∀ i,t.slot (P t.mask (TH prog w k) m).j=.live i->ks[i]?≠some k)->∀ stand:Option Probe,stand.getD (t.probeStart (TH prog w k))=P t.mask (TH prog w k) c->
  JZ (J1 prog w) A (setSearchFrom a (.ref x) (TH prog w k) true fuel stand) Q E s
 | 0,c,_,_,hf,_,_,_=>absurd hf (Yz _)
 | fuel+1,c,hc,hN,hf,inv,stand,hst=>by
  have r:t.fits es.size=true:=T.fits (by simp);unfold setSearchFrom;refine Qa (QR S hd r ?_);dsimp only;rw [hst,if_neg (by rw [T.odd];exact Qx)];refine Qa (Qb ?_);generalize M:t.probe _ (TH prog w k) (P t.mask (TH prog w k) c)=met;obtain⟨f,a3,M⟩:∃ f:Nat->Int,(∀ i,f i=(es[i]?.map (·.1)).getD 0)/\t.probe f (TH prog w k) (P t.mask (TH prog w k) c)=met:=⟨_,fun _=>rfl,M⟩
  have key:∀ m i,t.slot (P t.mask (TH prog w k) m).j=.live i->f i≠TH prog w k->ks[i]?≠some k:=fun m i F U W=>by
   have R:=G6 T.dum T.up F
   have q:i<es.toList.length:=by
    have:=(Qf.mp R).1
    rw [T.len]at this
    simpa using this
   obtain⟨B,b,u,K,e3⟩:=X.at (Qh q);rw [W]at u;cases u;apply U;rw [a3,<- QI,Qh q,K];rfl
  have a2:=Ew (hashAt:=f) T h1 h2 (10 * Ve t.mask) c hc (by lia);rcases a2 with⟨g1,g2⟩ | ⟨m,i,g1,g2,g3,g4,g5,g6⟩
  ·have:met=some (.empty (P t.mask (TH prog w k) n).j none):=M.symm.trans g1
   subst this;dsimp only;refine Qb (q2 fun I=>?_);obtain⟨i,F⟩:=Q1 I
   have q:i<es.toList.length:=by rw [X.length];exact(Qf.mp F).1
   obtain⟨B,b,u,K,e3⟩:=X.at (Qh q);rw [F]at u;cases u
   have H:i<t.place.toList.length:=by rw [T.len];simpa using q
   obtain⟨m,hm,hj⟩:=met T h1 (Qh H) (h:=TH prog w k) (by rw [QF,Qh q,K];rfl);obtain⟨p,z,d⟩ | ⟨_,d⟩:=wV T.dum T.up (P t.mask (TH prog w k) m).j
   ·have Z:p=i:=by
     rw [hj]at d;have a1:=Qh H;by_cases O:p<i
     ·have:=T.up.at d a1 O;lia
     ·by_cases N:i<p
      ·have:=T.up.at a1 d N;lia
      ·lia
    subst Z;by_cases cm:m<c
    ·exact inv m cm p z F
    ·exact key m p z (g2 m (by lia) hm p z) F
   ·rw [hj]at d;exact d (YB _)
  ·have:met=some (.candidate (P t.mask (TH prog w k) m).j i (P t.mask (TH prog w k) (m+1))):=M.symm.trans g6
   subst this;have R:=G6 T.dum T.up g3
   have q:i<es.toList.length:=by
    have:=(Qf.mp R).1
    rw [T.len]at this
    simpa using this
   obtain⟨B,b,u,K,e3⟩:=X.at (Qh q)
   have J:es[i]?=some (TH prog w B,.ref b):=by rw [<- QI,Qh q,K]
   dsimp only
   have v:∀ y∈(es.filter (fun x=>x.1 == TH prog w k)).toList.map (fun x=>x.2),∃ B b,y=.ref b/\TK prog w s.heap B b:=fun y hy=>by
    obtain⟨e,he,rfl⟩:=QN.mp hy
    have a4:e∈es.toList:=by
     rw [Array.toList_filter]at he
     exact(Yo.mp he).1
    obtain⟨i2,a0⟩:=Q1 a4;obtain⟨k2,b2,_,z2,z3⟩:=X.at a0
    exact⟨k2,b2,by rw [z2],z3⟩
   split
   all_goals try (refine Qa (FR Y v ?_);rw [if_neg Qx])
   all_goals
    rw [J];dsimp only;refine Qa (QV (wpAny_eqBool_tuple hu e3 Y ?_));refine Qa (QR S hd r ?_);dsimp only;by_cases g:B=k
    ·rw [if_pos (by simp [g])];exact Qb (q1 (g ▸ QM u))
    ·rw [if_neg (by simp [g]),show t.sameMemory t.moves t.mask=some true by unfold sameMemory;simp];dsimp only;rw [if_pos rfl,g3];dsimp only;rw [J];dsimp only;refine Qa (wpAny_isSame_ref_self ?_);simp only [if_true];refine Qa (Qb ?_);dsimp only;rw [if_neg (by simp [g])];refine G1 hu S hd T X Y h1 h2 q1 q2 fuel (m+1) (by lia) hN (by lia) (fun G a5 p l=>?_) _ rfl;by_cases O:G<c
     ·exact inv G O p l
     ·by_cases N:G=m
      ·subst N;rw [g3]at l;cases l;rw [u];exact fun e=>g (QL e)
      ·exact key G p l (g5 G (by lia) (by lia) p l)
theorem TK.keep{h h':Heap}{a b:JY}{o:Obj}{es:Array (Int × Value)}{p:Nat}{t:SetTable}{k:List Int}(i:h.get? a=some o)(l:o.data=.set es p t)(hs:Zi a h h')(x:TK prog w h k b):TK prog w h' k b:=by
 obtain⟨g,c,n,e,m,d,j⟩:=x
 have f:b≠a:=by
  rintro rfl
  obtain rfl:g=o:=QL (e.symm.trans i)
  rw [l]at d;exact nomatch d
 exact⟨g,c,n,(hs.2 b f).trans e,m,d,j⟩
def jT(w:J4):Bool := !w.params.followText "set-order"
def cX(prog:J2)(w:J4)(V:Value->Prop)(h:Heap)(a:JY)(ks:List (List Int)):Prop:=
 ∃ o es ep t,h.get? a=some o/\o.ExactSet/\o.data=.set es ep t/\gI t (es.toList.map (·.1))/\(t.plain=true/\t.led=jT w)/\bY prog w h es.toList ks/\ks.Nodup/\∀ e∈es.toList,V e.2
theorem Bj(es:List (Int × Value)):∀ l:List Nat,(∀ i∈l,i<es.length)->(l.filterMap (es[·]?)).map (·.1)=l.map fun i=>(es.map (·.1)).getD i 0
 | [],_=>rfl
 | i::l,h=>by
  have a:=h i Qe;rw [Ud (b:=es[i]) (Qh a),Qp,Qp,Bj es l fun j c=>h j (Qg _ c)];congr 1;rw [QP,QF,Qh a];rfl
theorem Ng{t:SetTable}{hs:List Int}(T:gI t hs)(b:(t.place.toList.length+1) * 5 >= t.mask * 3)(c:t.place.toList.length+1<=76):
  ∃ M,Ze (grown (t.place.toList.length+1))-1=M/\fA M/\(t.place.toList.length+1) * 5<M * 3/\¬ Ze (grown (t.place.toList.length+1)) > sizeLine:=by
 have a:=T.room;rcases T.good with g | g | g | g | g | g | g
 ·rw [g]at a b
  have e:t.place.toList.length+1=5:=by lia
  rw [e]
  exact⟨31,by decide,.inr (.inl rfl),by decide,by rw [Yj];decide⟩
 ·rw [g]at a b
  have e:t.place.toList.length+1=19:=by lia
  rw [e]
  exact⟨127,by decide,.inr (.inr (.inl rfl)),by decide,by rw [Yj];decide⟩
 ·rw [g]at a b;lia
 ·rw [g]at a b
  have e:t.place.toList.length+1=9:=by lia
  rw [e]
  exact⟨63,by decide,.inr (.inr (.inr (.inr (.inl rfl)))),by decide,by rw [Yj];decide⟩
 ·rw [g]at a b
  have e:t.place.toList.length+1=38:=by lia
  rw [e]
  exact⟨255,by decide,.inr (.inr (.inr (.inr (.inr (.inl rfl))))),by decide,by rw [Yj];decide⟩
 ·rw [g]at a b;lia
 ·rw [g]at a b;lia
theorem GI{V:Value->Prop}{a:JY}{o:Obj}{es:Array (Int × Value)}{B:Nat}{t:SetTable}{ks:List (List Int)}{d M:Nat}{Q:Unit->YP->Prop}
  (v:s.heap.get? a=some o) (y:o.ExactSet) (r:o.data=.set es B t) (p:t.fits es.size=true) (z:t.plain=true/\t.led=jT w) (X:bY prog w s.heap es.toList ks) (x:ks.Nodup) (R:∀ e∈es.toList,V e.2)
  (S:Ze d-1=M) (g:fA M) (J:es.size * 5<M * 3) (hz:¬ Ze d > sizeLine) (hsz:es.size<=sizeLine)
  (h:∀ h' ks',Zi a s.heap h'->cX prog w V h' a ks'->Zc ks' ks->Q () { s with heap:=h' }):
  JZ (J1 prog w) A (setRelay a d) Q E s:=by
 obtain⟨l,c,I,u,H,G,F⟩:=RX (t:=t) (hs:=es.map (·.1)) S g (by simpa using J)
 have n:∀ i∈c.toList,i<es.toList.length:=fun i K=>by
  have:=QS.mp (u.mem_iff.mp K)
  simpa using this
 have q:(c.filterMap (es[·]?)).toList=c.toList.filterMap (es.toList[·]?):=by
  rw [JD];congr 1
  funext i
  rw [QI]
 have j:Zc (c.filterMap (es[·]?)).toList es.toList:=by
  rw [JD]
  refine(u.filterMap _).trans ?_
  rw [Je,filterMap_getElem?_range]
 have f:(c.filterMap (es[·]?)).size=es.size:=by rw [<- Qt,j.length_eq,Qt]
 unfold setRelay;refine Qa (QR v r p ?_);dsimp only;rw [if_neg hz];rw [I];refine Qa ?_
 show JZ _ _ (if((c.filterMap (es[·]?)).size != es.size)=true then _ else pure (c.filterMap (es[·]?),l)) _ _ s
 rw [if_neg (by simp [f])];refine Qb ?_;dsimp only;refine Jk v r ?_ (by rw [f];exact hsz)
 have N:(s.heap.update a (Zw (c.filterMap (es[·]?)) l)).get? a=some { o with data:=.set (c.filterMap (es[·]?)) (B+1) l }:=by
  have:=QQ (Zw (c.filterMap (es[·]?)) l) v (by rw [Jr _ l r];rfl)
  rw [Jr _ l r]at this;exact this
 have m:=QY s.heap a (Zw (c.filterMap (es[·]?)) l);refine h _ (c.toList.filterMap (ks[·]?)) m ⟨_,_,_,l,N,y,rfl,?_,⟨by rw [F];exact z.1,by rw [G];exact z.2⟩,?_,?_,fun e O=>R e (j.mem_iff.mp O)⟩ ?_
 ·rw [q,Bj _ _ n]
  simpa using H
 ·rw [q]
  exact(X.pick _ n).mono fun k b=>TK.keep v r m
 ·have:Zc (c.toList.filterMap (ks[·]?)) ks:=by
   refine(u.filterMap _).trans ?_
   rw [Je,<- Qt,X.length,Y6]
  exact this.nodup_iff.mpr x
 ·refine(u.filterMap _).trans ?_
  rw [Je,<- Qt,X.length,Y6]
theorem DY{V:Value->Prop}{a x:JY}{ks:List (List Int)}{k:List Int}{Q:Bool->YP->Prop}(hu:A.units<J8)(S:cX prog w V s.heap a ks)(U:TK prog w s.heap k x)(hx:V (.ref x))(a0:ks.length+1<=76)
  (q1:k∈ks->Q false s) (W:k∉ks->∀ h' ks',Zi a s.heap h'->cX prog w V h' a ks'->Zc ks' (k::ks)->Q true { s with heap:=h' }):
  JZ (J1 prog w) A (setAddHashed a (.ref x) (TH prog w k)) Q E s:=by
 obtain⟨o,q,ep,t,H,J,G,T,O,X,R,hV⟩:=S;have v:t.fits q.size=true:=T.fits (by simp)
 have i:t.place.toList.length=ks.length:=by rw [T.len,Qo,X.length]
 have r:q.size=ks.length:=by rw [<- X.length,Qt]
 have N:=T.room;obtain⟨n,n1,Z,Y⟩:=Fe (l:=t.place.toList) T.good (by lia) (TH prog w k)
 have hM:t.mask<=511:=by rcases T.good with g | g | g | g | g | g | g <;> lia
 unfold setAddHashed setAddHashedIn;refine QV (Qa (QR H G v ?_));dsimp only;rw [if_neg (by simp [byScan,Value.scannable])];refine Qa ?_;unfold setSearch;refine G1 hu H G T X U Z Y ?_ ?_ 100000 0 (QU _) n1 (by unfold Ve at n1;lia) (fun m hm=>absurd hm (Yz _)) none rfl
 ·intro d;exact Qb (q1 d)
 ·intro d;dsimp only;refine Qa (QR H G v ?_);dsimp only;rw [if_pos (show(t.put (P t.mask (TH prog w k) n).j).1.plain=true from O.1)];refine Qa (MR 6 U ?_);rw [if_pos rfl]
  have p:(Zm q (t.put (P t.mask (TH prog w k) n).j).2 (TH prog w k,Value.ref x)).size=q.size+1:=by
   rw [<- Qt,(Y9 _ _ _).length_eq];simp
  refine Qa (Jk H G ?_ (by rw [p,Yj];lia))
  have hg:(s.heap.update a (Zw (Zm q (t.put (P t.mask (TH prog w k) n).j).2 (TH prog w k,Value.ref x)) (t.put (P t.mask (TH prog w k) n).j).1)).get? a=some { o with data:=.set (Zm q (t.put (P t.mask (TH prog w k) n).j).2 (TH prog w k,Value.ref x)) (ep+1) (t.put (P t.mask (TH prog w k) n).j).1 }:=by
   have:=QQ (Zw (Zm q (t.put (P t.mask (TH prog w k) n).j).2 (TH prog w k,Value.ref x)) (t.put (P t.mask (TH prog w k) n).j).1) H (by rw [Jr _ _ G];rfl)
   rw [Jr _ _ G]at this;exact this
  have y:=QY s.heap a (Zw (Zm q (t.put (P t.mask (TH prog w k) n).j).2 (TH prog w k,Value.ref x)) (t.put (P t.mask (TH prog w k) n).j).1)
  have X2:bY prog w (s.heap.update a (Zw (Zm q (t.put (P t.mask (TH prog w k) n).j).2 (TH prog w k,Value.ref x)) (t.put (P t.mask (TH prog w k) n).j).1)) (Zm q (t.put (P t.mask (TH prog w k) n).j).2 (TH prog w k,Value.ref x)).toList (ks.take (t.put (P t.mask (TH prog w k) n).j).2++k::ks.drop (t.put (P t.mask (TH prog w k) n).j).2):=by
   rw [lJ]
   exact((X.take _).append (.cons U (X.drop _))).mono fun k b=>TK.keep H G y
  have z:Zc (ks.take (t.put (P t.mask (TH prog w k) n).j).2++k::ks.drop (t.put (P t.mask (TH prog w k) n).j).2) (k::ks):=by
   refine List.perm_middle.trans ?_;rw [Yn]
  have u:(ks.take (t.put (P t.mask (TH prog w k) n).j).2++k::ks.drop (t.put (P t.mask (TH prog w k) n).j).2).Nodup:=z.nodup_iff.mpr (Ys.mpr ⟨d,R⟩)
  have K:∀ e∈(Zm q (t.put (P t.mask (TH prog w k) n).j).2 (TH prog w k,Value.ref x)).toList,V e.2:=fun e he=>by
   have:=(Y9 q (t.put (P t.mask (TH prog w k) n).j).2 (TH prog w k,Value.ref x)).mem_iff.mp he
   rw [Array.toList_push,Qv,Qd]at this;rcases this with h | rfl
   ·exact hV e h
   ·exact hx
  have f:(t.put (P t.mask (TH prog w k) n).j).1.fill=t.place.toList.length+1:=by
   show(Zm t.place (Zh t.place (P t.mask (TH prog w k) n).j) (P t.mask (TH prog w k) n).j).size+(if has t.dummies _=true then _ else t.dummies).size=_
   rw [T.dum,<- Qt,(Y9 _ _ _).length_eq]
   simp [has]
  have B:(t.put (P t.mask (TH prog w k) n).j).1.fits (Zm q (t.put (P t.mask (TH prog w k) n).j).2 (TH prog w k,Value.ref x)).size=true:=by
   unfold Ue;rw [f,p]
   have:(t.put (P t.mask (TH prog w k) n).j).1.place.size=q.size+1:=by
    show(Zm t.place (Zh t.place (P t.mask (TH prog w k) n).j) (P t.mask (TH prog w k) n).j).size=_
    rw [<- Qt,(Y9 _ _ _).length_eq];simp;rw [<- Qt,i,r]
   rw [this];simp only [beq_self_eq_true,JH,decide_eq_true_eq]
   show t.place.toList.length+1<=t.mask
   lia
  by_cases c:(t.put (P t.mask (TH prog w k) n).j).1.tooFull=true
  ·rw [c];simp only [Bool.not_false,Bool.and_self,if_true]
   have F:(t.place.toList.length+1) * 5 >= t.mask * 3:=by
    unfold SetTable.tooFull at c;rw [f]at c;exact of_decide_eq_true c
   obtain⟨M,m1,m2,m3,m4⟩:=Ng T F (by lia);refine Qa (GI (V:=V) hg J rfl B O X2 u K (M:=M) ?_ m2 ?_ ?_ ?_ ?_)
   ·rw [r,<- i];exact m1
   ·rw [p,r,<- i];exact m3
   ·rw [r,<- i];exact m4
   ·rw [p,Yj];lia
   ·intro h' ks' I S' pk;exact Qb (W d h' ks' (y.trans I) S' (pk.trans z))
  ·rw [Ja]at c;rw [c];simp only [Bool.and_false,Qq,if_false]
   have F:(t.place.toList.length+1) * 5<t.mask * 3:=by
    unfold SetTable.tooFull at c;rw [f]at c
    have:=of_decide_eq_false c
    have e:(t.put (P t.mask (TH prog w k) n).j).1.mask=t.mask:=rfl;rw [e]at this;lia
   have T2:=RK T Z Y F t.plain;refine Qa (Qb (Qb (W d _ _ y ⟨_,_,_,_,hg,J,rfl,?_,O,X2,u,K⟩ z)));rw [lJ,Yb,Qp,List.map_take,List.map_drop];exact T2
end
section
variable {prog:J2}{w:J4}{A:Around}{R:Result->YP->Prop}{I:JY}{fp wr:List JY}{G:Array GenState->Array GenState->Prop}{n:Nat}{Pv:Nat->Value->Prop}{St:Nat->YP->Prop}{V:Value->Prop}
abbrev nS(w:J4):Obj:={ cls:=.type "set",dict:=none,data:=.set #[] 0 (.fresh 0 0 (jT w)) }
theorem TK.at{h h':Heap}{k:List Int}{b:JY}(x:TK prog w h k b)(e:∀ o,h.get? b=some o->h'.get? b=some o):TK prog w h' k b:=by
 obtain⟨o,a,n,c,r⟩:=x
 exact⟨o,a,n,e o c,r⟩
theorem cX.moved{h h':Heap}{a:JY}{ks:List (List Int)}(S:cX prog w V h a ks)(e:∀ b o,h.get? b=some o->(b=a ∨ ∃ k,TK prog w h k b)->h'.get? b=some o):cX prog w V h' a ks:=by
 obtain⟨o,n,p,t,j,f,l,T,i,X,d,m⟩:=S
 exact⟨o,n,p,t,e a o j (.inl rfl),f,l,T,i,X.mono fun k b x=>x.at fun g c=>e b g c (.inr ⟨k,x⟩),d,m⟩
def lM(ks:List (List Int))(a:Nat->List Int)(i:Nat):Prop:=∀ k,k∈ks ↔ ∃ j,j<i/\a j=k
theorem Oo{ks:List (List Int)}{val:Nat->List Int}{i:Nat}(h:lM ks val i)(a:ks.Nodup):ks.length<=i:=by
 have:ks ⊆ (J5 i).map val:=fun k b=>by
  obtain⟨j,c,e⟩:=(h k).mp b;exact QN.mpr ⟨j,QS.mpr c,e⟩
 have:=YA a this
 simpa using this
theorem cX.nodup{h:Heap}{a:JY}{ks:List (List Int)}(S:cX prog w V h a ks):ks.Nodup:=by
 obtain⟨o,i,j,t,e,c,f,T,d,X,b,g⟩:=S;exact b
theorem HK(W:WalksS prog w A.in1 I fp wr G n Pv St)(S:JY)(a6:S∉fp)(hu:A.in1.units<J8)(f:Nat->List Int)(g:Heap)
  (a:∀ b o,g.get? b=some o->b≠S/\b∉wr) (a0:∀ i v,i<n->Pv i v->V v/\∃ b,v=.ref b/\TK prog w g (f i) b) (Q:n<=75):
  ∀(k i:Nat) (s:YP) (ks:List (List Int)),n-i=k->i<=n->St i s->(∀ b o,g.get? b=some o->s.heap.get? b=some o)->
   cX prog w (fun v=>V v/\∃ k b,v=.ref b/\TK prog w g k b) s.heap S ks->lM ks f i->
   (∀ s' ks',Moved (S::wr) G s s'->(∀ b o,g.get? b=some o->s'.heap.get? b=some o)->cX prog w (fun v=>V v/\∃ k b,v=.ref b/\TK prog w g k b) s'.heap S ks'->lM ks' f n->R (.ok (.ret .none)) s')->
   ZW (J1 prog w) A (.builtin "set.update.loop" ⟨[.ref S,.ref I],[]⟩) R s:=by
 have b3:S∉wr:=fun h=>a6 (W.sub _ h);have E:∀ b∈wr,b∈S::wr:=fun b Q=>Qg _ Q
 have a2:∀(s s':YP) ks,Moved wr G s s'->(∀ b o,g.get? b=some o->s.heap.get? b=some o)->cX prog w (fun v=>V v/\∃ k b,v=.ref b/\TK prog w g k b) s.heap S ks->cX prog w (fun v=>V v/\∃ k b,v=.ref b/\TK prog w g k b) s'.heap S ks:=fun s s' ks z K Y=>by
  obtain⟨o,es,ep,t,ho,a3,hd,T,hp,X,a1,hV⟩:=Y
  refine⟨o,es,ep,t,z.heap S _ b3 ho,a3,hd,T,hp,?_,a1,hV⟩
  clear hd a3 ho T hp
  have:∀ e∈es.toList,∃ k b,e.2=.ref b/\TK prog w g k b:=fun e he=>(hV e he).2
  revert this
  clear hV a1;generalize es.toList=l at X;intro this
  induction X with
  | nil=>exact .nil
  | @cons k b es ks h1 hr ih=>
   refine .cons ?_ (ih fun e he=>this e (Qg _ he));obtain⟨k',b',e1,e2⟩:=this _ Qe
   have b6:b=b':=by injection e1
   subst b6;obtain⟨o',a8,n',O,r⟩:=e2;refine h1.at fun o2 b0=>?_
   have:=K b o' O
   rw [b0]at this;cases this;exact z.heap b _ (a b _ O).2 (K b _ O)
 intro k
 induction k with
 | zero=>
  intro i s ks hk hi N K Y Z hR
  have b1:i=n:=by lia
  subst b1;refine Yh F.entry_set_update_loop ?_;rw [Q7 Js _]
  show JZ _ A.in1 (ZU (.ref I) >>= _) _ _ s
  refine Qa (W.done s _ _ N fun s' z=>?_)
  show JZ _ A.in1 (ret Value.none) _ _ s'
  exact Qb (hR s' ks (z.mono E) (fun b o e=>z.heap b o (a b o e).2 (K b o e)) (a2 s s' ks z K Y) Z)
 | succ k ih=>
  intro i s ks hk hi N K Y Z hR
  have B:i<n:=by lia
  refine Yh F.entry_set_update_loop ?_;rw [Q7 Js _]
  show JZ _ A.in1 (ZU (.ref I) >>= _) _ _ s
  refine Qa (W.item i s _ _ B N fun v s' hP H z=>?_);obtain⟨b2,b,rfl,a5⟩:=a0 i v B hP;have U:∀ b o,g.get? b=some o->s'.heap.get? b=some o:=fun b o e=>z.heap b o (a b o e).2 (K b o e);have a4:TK prog w s'.heap (f i) b:=a5.at fun o e=>U b o e;have a7:=a2 s s' ks z K Y
  show JZ _ A.in1 (U5 [Value.ref b] (setAdd S (.ref b)) >>= _) _ _ s'
  refine Qa (QV ?_);unfold setAdd;refine QV ?_;refine Qa (wpAny_pyHash_tuple hu a4 ?_);have b7:=Oo Z Y.nodup
  have d:∀(h':Heap) (tk:Nat),s'.toks<=tk->Zi S s'.heap h'->Moved (S::wr) G s { s' with heap:=h',toks:=tk }:=fun h' tk a9 p=>
   (z.mono E).then_heap a9 fun b o Q e=>by rw [p.2 b (fun h:b=S=>Q (by rw [h];exact Qe))];exact e
  refine DY (V:=fun v=>V v/\∃ k b,v=.ref b/\TK prog w g k b) (s:={ s' with toks:=s'.toks+((f i).length+1) }) hu a7 a4 ⟨b2,f i,b,rfl,a5⟩ (by lia) ?_ ?_
  ·intro J;refine Qb ⟨Yq Js _,ih (i+1) _ ks (by lia) B (W.frame _ s' s'.heap _ H (Yi _ _) fun b Q o e=>e) U a7 ?_ fun M m q y u x=>?_⟩
   ·intro k';rw [Z k'];constructor
    ·rintro⟨j,hj,e⟩;exact⟨j,by lia,e⟩
    ·rintro⟨j,hj,e⟩
     by_cases c:j=i
     ·subst c;subst e;exact(Z _).mp J
     ·exact⟨j,by lia,e⟩
   ·exact hR M m (Moved.trans W.gtrans (d s'.heap _ (Yi _ _) (Heap.SameBut.refl S _)) q) y u x
  ·intro J h' ks' p b4 hp
   have b5:∀ b o,g.get? b=some o->h'.get? b=some o:=fun b o e=>by
    rw [p.2 b (a b o e).1];exact U b o e
   refine Qb ⟨Yq Js _,ih (i+1) _ ks' (by lia) B (W.frame _ s' _ _ H (Yi _ _) fun b Q o e=>?_) b5 b4 ?_ fun M m q y u x=>?_⟩
   ·rw [p.2 b (fun h:b=S=>a6 (by rw [<- h];exact Q))];exact e
   ·intro k';rw [hp.mem_iff,Qj,Z k'];constructor
    ·rintro(rfl | ⟨j,hj,e⟩)
     ·exact⟨i,by lia,rfl⟩
     ·exact⟨j,by lia,e⟩
    ·rintro⟨j,hj,e⟩
     by_cases c:j=i
     ·subst c;exact .inl e.symm
     ·exact .inr ⟨j,by lia,e⟩
   ·exact hR M m (Moved.trans W.gtrans (d h' _ (Yi _ _) p) q) y u x
end
section
variable {prog:J2}{w:J4}{A:Around}{E:Value->YP->Prop}{s:YP}
theorem FI(a:Value){Q₁:Value->YP->Prop}
  (h:Q₁ (.ref s.heap.objs.size) { s with heap:=s.heap.push (nS w) }):
  ZW (J1 prog w) A (.call (.builtin "set.__new__") ⟨[.type "set",a],[]⟩) (wants Q₁ E) s:=by
 refine codeAny_of_tree ?_
 show JZ _ A.in1 (checkBuiltinCall "set.__new__" ⟨[.type "set",a],[]⟩ >>= fun _=>again (.builtin "set.__new__" ⟨[.type "set",a],[]⟩)) _ _ s
 refine Qa (Jy (F.newCall_set_1 a) (Qb ⟨Yq F.plain_set_new _,Yh F.entry_set_new ?_⟩));rw [Q7 F.plain_set_new _];unfold Builtin.«set.__new__» Builtin.Frozenset.newClass;have b:=sub_set_self;obtain⟨f,g,d,c,e⟩:=s;dsimp only
 wp_walk
 refine UI (Qb ?_);dsimp only;simp only [newObj];refine Qa (wpAny_alloc (Qb ?_));exact Qb h
theorem Vf:isSubtype (.type "tuple") (.type "set")=pure false:=by rw [Uu];kernel_rfl
theorem T9:isSubtype (.type "tuple") (.type "frozenset")=pure false:=by rw [Uu];kernel_rfl
variable {V:Value->Prop}
theorem M1{l:JY}{items:Array Value}{kl:List (List Int)}{Q:Value->YP->Prop}
  (hh:A.handled=none) (hu:A.units+8<J8) (hl:s.heap.IsList l items) (hi:∀ i v,items[i]?=some v->V v/\∃ b,v=.ref b/\TK prog w s.heap (kl.getD i []) b) (hb:items.size<=75)
  (h:∀(h':Heap) (tk:Nat) ks,cX prog w V h' s.heap.objs.size ks->lM ks (fun i=>kl.getD i []) items.size->
   (∀ b o,s.heap.get? b=some o->h'.get? b=some o)->Q (.ref s.heap.objs.size) { s with heap:=h',toks:=tk }):
  JZ (J1 prog w) A (call (.type "set") [.ref l]) Q E s:=by
 obtain⟨c,tl,a8⟩:=F.called_set.mro;have W:=F.called_set.made;have a5:=F.called_set.sub;refine wpAny_call (codeAny_of_tree ?_)
 show JZ _ _ (callAny (.type "set") _) _ _ _
 refine Qb ⟨Code.quiet_builtin _ (by decide +kernel),Yh F.entry_type_call ?_⟩;rw [Around.under_plain (weight_type_call_type "set" [.ref l] []) rfl];have h1:=F.called_set.notType;have h2:=F.called_set.canCreate;have b1:=F.typeCall_set_1 (.ref l)
 repeat (any_goals (first | assumption | wp_step))
 refine JA (FI (.ref l) (E:=E) (Q₁:=fun z j=>z=.ref s.heap.objs.size/\j={ s with heap:=s.heap.push (nS w) }) ⟨rfl,rfl⟩) fun r j U=>?_
 cases r with
 | error e=>exact U
 | ok fl=>
  cases fl with
  | ret z=>
   obtain⟨rfl,rfl⟩:=U;have hS:(s.heap.push (nS w)).get? s.heap.objs.size=some (nS w):=Qr _ rfl;have hT:Shared.TypeIs { s with heap:=s.heap.push (nS w) } (.ref s.heap.objs.size) "set":=⟨_,hS,rfl⟩;have b0:=F.called_set.init.lookup;have b2:=F.called_set.init.bind (.ref s.heap.objs.size)
   repeat (any_goals (first | assumption | wp_step))
   refine JA (UP (R:=wants (fun r g=>r=.none/\∃ h' tk ks,g={ s with heap:=h',toks:=tk } /\
     cX prog w V h' s.heap.objs.size ks/\lM ks (fun i=>kl.getD i []) items.size /\
     (∀ b o,s.heap.get? b=some o->h'.get? b=some o)) E) F.called_set.init.plain F.entry_set_init (check_set_init_1 hT ?_)) fun y g a=>?_
   ·obtain⟨ol,G,N,nl,M⟩:=hl;obtain⟨a4,m,T,d⟩:=ol
    simp only at N M
    subst N;subst M;have B:(s.heap.push (nS w)).get? l=some { cls:=.type "list",dict:=m,data:=.seq items nl,slots:=d }:=Qc _ G;have a6:=F.sub_list_set;have a7:=F.sub_list_frozenset
    have a9:(Value.type "list" == Value.type "dict")=false:=by decide
    have J:(s.heap.push (nS w)).IsList l items:=⟨_,B,rfl,nl,rfl⟩;unfold Builtin.«set.__init__» noKeywords Builtin.Frozenset.updateFrom;generalize hPI:pyIter=PI
    wp_walk
    subst hPI;refine Jl J ?_;refine Qa (wpAny_runValue ?_);have I:l<s.heap.objs.size:=Qs G
    have Y:A.in1.in1.in1.handled=none:=by simp [hh]
    have H:l≠(s.heap.push (nS w)).objs.size:=by
     rw [Yp];exact Qu (YG I)
    have a0:s.heap.objs.size∉[(s.heap.push (nS w)).objs.size,l]:=by
     rw [Yp];simp only [Qj,Qd,UJ,or_false,not_or]
     exact⟨Qu (YC _),Yw I⟩
    have f:A.in1.in1.in1.units<J8:=by
     show A.units+1+1+1<J8
     lia
    refine HK (V:=V) ((Walks.list Y _ l H items).toS) s.heap.objs.size
     a0 f (fun i=>kl.getD i []) s.heap (fun b o e=>?_) (fun i v _ hv=>hi i v hv) hb (items.size-0) 0 _ [] (by lia) (QU _)
     ⟨⟨_,Qr _ rfl,rfl,rfl⟩,(J.push _)⟩ (fun b o e=>?_) ?hS0 ?hK0 ?hR
    ·have n:b<s.heap.objs.size:=Qs e
     refine⟨Qu n,fun u=>?_⟩
     rw [Yp]at u
     have:b=s.heap.objs.size+1:=Qd.mp u
     rw [this]at n;exact absurd n (Nat.not_lt.mpr (Nat.le_succ _))
    ·exact Qc _ (Qc _ e)
    case hS0=>
     have K:((s.heap.push (nS w)).push { cls:=.type "list_iterator",data:=.fields #[.ref l,.int 0 0] }).get? s.heap.objs.size
       = some (nS w):=Qc _ hS
     exact⟨_,#[],0,_,K,⟨rfl,rfl,rfl⟩,rfl,⟨.inl rfl,rfl,rfl,ZO,fun x hx=>by simp [SetTable.fresh]at hx,(by show 0 * 5<7 * 3;decide),fun q hq=>by simp at hq⟩,⟨rfl,rfl⟩,.nil,JL,fun e Z=>by simp at Z⟩
    case hK0=>
     intro k;simp
    case hR=>
     intro s' ks u h0 p hK;obtain⟨h',g',d',O,S⟩:=s';have eg:g'=s.gens:=u.gens;have ed:d'=s.drawn:=u.drawn;have eo:S=s.os:=u.os;subst eg;subst ed;subst eo
     show JZ _ _ _ _ _ _
     refine Qb ?_
     show JZ _ _ (ret Value.none) _ _ _
     obtain⟨o',a2,a3,t',z1,z2,z3,z4,z5,z6,z7,z8⟩:=p;exact Qb ⟨rfl,h',O,ks,rfl,⟨o',a2,a3,t',z1,z2,z3,z4,z5,z6,z7,fun e Z=>(z8 e Z).1⟩,hK,fun b o e=>h0 b o e⟩
   ·cases y with
    | error e=>exact a
    | ok t=>
     cases t with
     | ret r=>
      obtain⟨rfl,h',tk,ks,rfl,p,a1,X⟩:=a
      repeat (any_goals (first | assumption | wp_step))
      exact h _ _ _ p a1 X
     | _=>exact a.elim
  | _=>exact U.elim
theorem M0{l:JY}{items:Array Value}{kl:List (List Int)}{Q:Value->YP->Prop}
  (hh:A.handled=none) (hu:A.units+8<J8) (hl:s.heap.IsTuple l items) (hi:∀ i v,items[i]?=some v->V v/\∃ b,v=.ref b/\TK prog w s.heap (kl.getD i []) b) (hb:items.size<=75)
  (h:∀(h':Heap) (tk:Nat) ks,cX prog w V h' s.heap.objs.size ks->lM ks (fun i=>kl.getD i []) items.size->
   (∀ b o,s.heap.get? b=some o->h'.get? b=some o)->Q (.ref s.heap.objs.size) { s with heap:=h',toks:=tk }):
  JZ (J1 prog w) A (call (.type "set") [.ref l]) Q E s:=by
 obtain⟨c,tl,a8⟩:=F.called_set.mro;have W:=F.called_set.made;have a5:=F.called_set.sub;refine wpAny_call (codeAny_of_tree ?_)
 show JZ _ _ (callAny (.type "set") _) _ _ _
 refine Qb ⟨Code.quiet_builtin _ (by decide +kernel),Yh F.entry_type_call ?_⟩;rw [Around.under_plain (weight_type_call_type "set" [.ref l] []) rfl];have h1:=F.called_set.notType;have h2:=F.called_set.canCreate;have b1:=F.typeCall_set_1 (.ref l)
 repeat (any_goals (first | assumption | wp_step))
 refine JA (FI (.ref l) (E:=E) (Q₁:=fun z j=>z=.ref s.heap.objs.size/\j={ s with heap:=s.heap.push (nS w) }) ⟨rfl,rfl⟩) fun r j U=>?_
 cases r with
 | error e=>exact U
 | ok fl=>
  cases fl with
  | ret z=>
   obtain⟨rfl,rfl⟩:=U;have hS:(s.heap.push (nS w)).get? s.heap.objs.size=some (nS w):=Qr _ rfl;have hT:Shared.TypeIs { s with heap:=s.heap.push (nS w) } (.ref s.heap.objs.size) "set":=⟨_,hS,rfl⟩;have b0:=F.called_set.init.lookup;have b2:=F.called_set.init.bind (.ref s.heap.objs.size)
   repeat (any_goals (first | assumption | wp_step))
   refine JA (UP (R:=wants (fun r g=>r=.none/\∃ h' tk ks,g={ s with heap:=h',toks:=tk } /\
     cX prog w V h' s.heap.objs.size ks/\lM ks (fun i=>kl.getD i []) items.size /\
     (∀ b o,s.heap.get? b=some o->h'.get? b=some o)) E) F.called_set.init.plain F.entry_set_init (check_set_init_1 hT ?_)) fun y g a=>?_
   ·obtain⟨ol,G,N,nl,M⟩:=hl;obtain⟨a4,m,T,d⟩:=ol
    simp only at N M
    subst N;subst M;have B:(s.heap.push (nS w)).get? l=some { cls:=.type "tuple",dict:=m,data:=.seq items nl,slots:=d }:=Qc _ G;have a6:=Vf;have a7:=T9
    have a9:(Value.type "tuple" == Value.type "dict")=false:=by decide
    have J:(s.heap.push (nS w)).IsTuple l items:=⟨_,B,rfl,nl,rfl⟩;unfold Builtin.«set.__init__» noKeywords Builtin.Frozenset.updateFrom;generalize hPI:pyIter=PI
    wp_walk
    subst hPI;refine JE J ?_;refine Qa (wpAny_runValue ?_);have I:l<s.heap.objs.size:=Qs G
    have Y:A.in1.in1.in1.handled=none:=by simp [hh]
    have H:l≠(s.heap.push (nS w)).objs.size:=by
     rw [Yp];exact Qu (YG I)
    have a0:s.heap.objs.size∉[(s.heap.push (nS w)).objs.size,l]:=by
     rw [Yp];simp only [Qj,Qd,UJ,or_false,not_or]
     exact⟨Qu (YC _),Yw I⟩
    have f:A.in1.in1.in1.units<J8:=by
     show A.units+1+1+1<J8
     lia
    refine HK (V:=V) ((Walks.tuple Y _ l H items).toS) s.heap.objs.size
     a0 f (fun i=>kl.getD i []) s.heap (fun b o e=>?_) (fun i v _ hv=>hi i v hv) hb (items.size-0) 0 _ [] (by lia) (QU _)
     ⟨⟨_,Qr _ rfl,rfl,rfl⟩,(J.push _)⟩ (fun b o e=>?_) ?hS0 ?hK0 ?hR
    ·have n:b<s.heap.objs.size:=Qs e
     refine⟨Qu n,fun u=>?_⟩
     rw [Yp]at u
     have:b=s.heap.objs.size+1:=Qd.mp u
     rw [this]at n;exact absurd n (Nat.not_lt.mpr (Nat.le_succ _))
    ·exact Qc _ (Qc _ e)
    case hS0=>
     have K:((s.heap.push (nS w)).push { cls:=.type "tuple_iterator",data:=.fields #[.ref l,.int 0 0] }).get? s.heap.objs.size
       = some (nS w):=Qc _ hS
     exact⟨_,#[],0,_,K,⟨rfl,rfl,rfl⟩,rfl,⟨.inl rfl,rfl,rfl,ZO,fun x hx=>by simp [SetTable.fresh]at hx,(by show 0 * 5<7 * 3;decide),fun q hq=>by simp at hq⟩,⟨rfl,rfl⟩,.nil,JL,fun e Z=>by simp at Z⟩
    case hK0=>
     intro k;simp
    case hR=>
     intro s' ks u h0 p hK;obtain⟨h',g',d',O,S⟩:=s';have eg:g'=s.gens:=u.gens;have ed:d'=s.drawn:=u.drawn;have eo:S=s.os:=u.os;subst eg;subst ed;subst eo
     show JZ _ _ _ _ _ _
     refine Qb ?_
     show JZ _ _ (ret Value.none) _ _ _
     obtain⟨o',a2,a3,t',z1,z2,z3,z4,z5,z6,z7,z8⟩:=p;exact Qb ⟨rfl,h',O,ks,rfl,⟨o',a2,a3,t',z1,z2,z3,z4,z5,z6,z7,fun e Z=>(z8 e Z).1⟩,hK,fun b o e=>h0 b o e⟩
   ·cases y with
    | error e=>exact a
    | ok t=>
     cases t with
     | ret r=>
      obtain⟨rfl,h',tk,ks,rfl,p,a1,X⟩:=a
      repeat (any_goals (first | assumption | wp_step))
      exact h _ _ _ p a1 X
     | _=>exact a.elim
  | _=>exact U.elim
end
end ST
namespace PySem.F
theorem set_iter_entry:entryFor table "set.__iter__"=some Builtin.«frozenset.__iter__»:=
 entryFor_alias (id':="frozenset.__iter__") (by kernel_rfl) rfl (by decide +kernel) (by kernel_rfl)
theorem set_sub_entry:entryFor table "set.__sub__"=some Builtin.«frozenset.__sub__»:=
 entryFor_alias (id':="frozenset.__sub__") (by kernel_rfl) rfl (by decide +kernel) (by kernel_rfl)
theorem G3:Manifest.owners.lookup (String.ofList ['r','o','t','a','r','e','t','i','_','t','e','s'].reverse)=some Manifest.sig_set_iterator:=by kernel_rfl
theorem si_next:Slot "set_iterator" "__next__" "set_iterator.__next__":=
 .of (owner:="set_iterator") (n:="__next__") (by rw [typeLookup_type,UE];kernel_rfl) (by decide +kernel) (by decide +kernel) (by decide +kernel)
  (.inl (by decide +kernel)) (by rw [Uu];kernel_rfl)
theorem si_iter:Slot "set_iterator" "__iter__" "set_iterator.__iter__":=
 .of (owner:="set_iterator") (n:="__iter__") (by rw [typeLookup_type,UE];kernel_rfl) (by decide +kernel) (by decide +kernel) (by decide +kernel)
  (.inl (by decide +kernel)) (by rw [Uu];kernel_rfl)
theorem si_iter_entry:entryFor table "set_iterator.__iter__"=some Builtin.«dict_keyiterator.__iter__»:=
 entryFor_alias (id':="dict_keyiterator.__iter__") (by kernel_rfl) rfl (by decide +kernel) (by kernel_rfl)
theorem si_iter_args(a:Value):argsOk "set_iterator.__iter__" ⟨[a],[]⟩:=by
 unfold argsOk;rw [signature?_of (id:="set_iterator.__iter__") (n:=['_','_','r','e','t','i','_','_']) (o:=['r','o','t','a','r','e','t','i','_','t','e','s']) (by kernel_rfl) G3];kernel_rfl
theorem si_next_entry:entryFor table "set_iterator.__next__"=some Builtin.«set_iterator.__next__»:=entryFor_of_tree (by kernel_rfl)
theorem si_next_args(a:Value):argsOk "set_iterator.__next__" ⟨[a],[]⟩:=by
 unfold argsOk;rw [signature?_of (id:="set_iterator.__next__") (n:=['_','_','t','x','e','n','_','_']) (o:=['r','o','t','a','r','e','t','i','_','t','e','s']) (by kernel_rfl) G3];kernel_rfl
end PySem.F
namespace ST
open PySem.SetTable
theorem Hl{b:Type}(next:Nat->Nat):∀(fuel k:Nat) (left:List b) (out:Array b),left.length=fuel->Zc (pickOrder.go next fuel k left out).toList (out.toList++left)
 | 0,k,left,out,h=>by
  have:left=[]:=List.length_eq_zero_iff.mp h
  subst this;rw [Yg];exact .refl _
 | fuel+1,k,left,out,h=>by
  have a:next k % left.length<left.length:=Nat.mod_lt _ (by lia);unfold pickOrder.go;rw [Qh a];dsimp only
  refine(Hl next fuel (k+1) _ _ (by rw [List.length_eraseIdx_of_lt a];lia)).trans ?_
  rw [Array.toList_push,Q6];refine List.Perm.append_left _ ?_;rw [List.eraseIdx_eq_take_drop_succ]
  have e:left=left.take (next k % left.length)++left[next k % left.length]::left.drop (next k % left.length+1):=by
   rw [<- YF a,Yn]
  refine List.Perm.trans ?_ (.of_eq e.symm)
  show Zc (left[next k % left.length]::(left.take (next k % left.length)++left.drop (next k % left.length+1))) _
  exact List.perm_middle.symm
def gR(w:J4)(a b:Nat)(es:Array (Int × Value)):Array (Int × Value):=if w.params.followText "set-order"=true then pickOrder (w.params.setOrder a b) es else es
theorem pW(w:J4)(a b:Nat)(es:Array (Int × Value)):Zc (gR w a b es).toList es.toList:=by
 unfold gR;split
 ·exact(Hl _ es.size 0 es.toList #[] (by simp)).trans (by simp)
 ·exact .refl _
theorem wD(w:J4)(a b:Nat)(es:Array (Int × Value)):(gR w a b es).size=es.size:=by
 have:=(pW w a b es).length_eq
 simpa using this
theorem MM(xs:Array Nat)(s:Up xs.toList):Zh xs 0=0:=by
 obtain⟨e,b,d⟩:=o3 xs s 0;by_cases c:Zh xs 0=0
 ·exact c
 ·have a:0<xs.toList.length:=by rw [Qt];lia
  have:=b 0 _ (Qh a) (by lia)
  lia
theorem ML(xs:Array Nat)(s:Up xs.toList){i j:Nat}(h:xs.toList[i]?=some j):Zh xs (j+1)=i+1:=by
 obtain⟨k,g,f⟩:=o3 xs s (j+1);have d:=(Qf.mp h).1;rw [Qt]at d;by_cases a:Zh xs (j+1)<=i
 ·have:=f i j h a
  lia
 ·by_cases b:Zh xs (j+1)=i+1
  ·exact b
  ·have c:i+1<xs.toList.length:=by rw [Qt];lia
   have e:=Qh c
   have:=g _ _ e (by lia)
   have:=s.at h e (by lia)
   lia
structure iU(w:J4)(h:Heap)(a:JY)(o:Obj)(es:Array (Int × Value))(ep:Nat)(t:SetTable):Prop where
 get:h.get? a=some o
 ex:o.ExactSet
 data:o.data=.set es ep t
 fits:t.fits es.size=true
 up:Up t.place.toList
 plain:t.plain=true
 led:t.led=jT w
theorem iU.at{w:J4}{h h':Heap}{a:JY}{o:Obj}{es:Array (Int × Value)}{b:Nat}{t:SetTable}(S:iU w h a o es b t)(e:h'.get? a=some o):iU w h' a o es b t:=⟨e,S.ex,S.data,S.fits,S.up,S.plain,S.led⟩
def oY(h:Heap)(I a:JY)(slot i n b:Nat):Prop:=∃ o,h.get? I=some o/\o.cls=.type "set_iterator"/\o.data=.fields #[.int slot 0,.int i 0,.ref a,.int n 0,.int b 0]
section
variable {prog:J2}{w:J4}{A:Around}{E:Value->YP->Prop}{s:YP}{I a:JY}{o:Obj}{es:Array (Int × Value)}{ep slot i:Nat}{t:SetTable}
theorem oY.typeIs{n:Nat}(h:oY s.heap I a slot i n ep):s.TypeIs (.ref I) "set_iterator":=by
 obtain⟨o,c,b,_⟩:=h
 exact⟨o,c,b⟩
theorem vA{Q:Bool->YP->Prop}(h:Q (w.params.followText "set-order") s):JZ (J1 prog w) A setsByText Q E s:=by
 unfold setsByText;exact Qa (UI (Qb h))
theorem HP{Q:Array (Int × Value)->YP->Prop}(S:iU w s.heap a o es ep t)(h:Q (gR w a ep es) s):JZ (J1 prog w) A (setWalk a) Q E s:=by
 unfold setWalk;refine Qa (QR S.get S.data S.fits ?_);dsimp only;refine Qa (vA ?_);unfold gR at h
 cases c:w.params.followText "set-order" with
 | true=>
  rw [c,if_pos rfl]at h;rw [if_pos rfl];exact Qa (UI (Qb h))
 | false=>
  rw [c,if_neg Qx]at h;rw [if_neg Qx]
  have d:(!t.plain && decide (es.size > 1))=false:=by rw [S.plain];rfl
  have b:(!t.led && decide (es.size > 1))=false:=by rw [S.led,jT,c];rfl
  show JZ _ _ (if(!t.plain && decide (es.size > 1))=true then _ else _) _ _ s
  rw [d,if_neg Qx];refine Qa ?_
  show JZ _ _ (if(!t.led && decide (es.size > 1))=true then _ else _) _ _ s
  rw [b,if_neg Qx];exact Qb (Qb h)
theorem FL{Q:Option (Value × Nat)->YP->Prop}(S:iU w s.heap a o es ep t)(m:w.params.followText "set-order"=false->Zh t.place slot=i)
  (d:∀ x next,(gR w a ep es)[i]?=some x->(w.params.followText "set-order"=false->Zh t.place next=i+1)->Q (some (x.2,next)) s) (f:es.size<=i->Q none s):
  JZ (J1 prog w) A (setNext a slot i ep) Q E s:=by
 unfold setNext;refine Qa (QR S.get S.data S.fits ?_);dsimp only;refine Qa (vA ?_)
 cases c:w.params.followText "set-order" with
 | true=>
  rw [if_pos rfl,if_neg (by simp)];refine Qa (HP S (Qb ?_));by_cases l:i<es.size
  ·have b:i<(gR w a ep es).size:=by rw [wD];exact l
   rw [QJ b]
   exact d _ _ (QJ b) fun e=>by rw [c]at e;cases e
  ·rw [Yl (by rw [wD];lia)];exact f (by lia)
 | false=>
  rw [if_neg Qx]
  have k:(!t.plain && decide (es.size > 1))=false:=by rw [S.plain];rfl
  have j:(!t.led && !es.isEmpty)=false:=by rw [S.led,jT,c];rfl
  show JZ _ _ (if(!t.plain && decide (es.size > 1))=true then _ else _) _ _ s
  rw [k,if_neg Qx];refine Qa ?_
  show JZ _ _ (if(!t.led && !es.isEmpty)=true then _ else _) _ _ s
  rw [j,if_neg Qx];refine Qb (Qb ?_)
  have g:t.place.size=es.size:=by
   have:=S.fits
   unfold Ue at this;rw [QO,beq_iff_eq]at this;exact this.1
  rw [m c]
  have h:gR w a ep es=es:=by unfold gR;rw [c,if_neg Qx]
  rw [h]at d;by_cases l:i<es.size
  ·have b:i<t.place.size:=by lia
   rw [QJ l,QJ b];refine d _ _ (QJ l) fun _=>ML _ S.up ?_;rw [QI,QJ b]
  ·rw [Yl (by lia)];exact f (by lia)
theorem O5{Q:Value->YP->Prop}(S:iU w s.heap a o es ep t)
  (h:Q (.ref s.heap.objs.size) { s with heap:=s.heap.push { cls:=.type "set_iterator",data:=.fields #[.int 0 0,.int 0 0,.ref a,.int (es.size:Nat) 0,.int (ep:Nat) 0] } }):JZ (J1 prog w) A (pyIter (.ref a)) Q E s:=by
 have b:s.TypeIs (.ref a) "set":=⟨o,S.get,S.ex.1⟩;refine wpAny_pyIter_slot b F.slot_set_iter (Q9 F.slot_set_iter b F.set_iter_entry ?_ (F.args_set_iter_1 _));unfold Builtin.«frozenset.__iter__» Builtin.Frozenset.slot0 slotArgs;simp only [List.isEmpty_nil,YN,Qq,↓reduceIte,bind_assoc,Y2,bne_self_eq_false];unfold ZS Ug;refine Qa (Qb ?_);refine Qa (Qb ?_);refine Qa (Qa (JS S.get S.data S.fits (Qb ?_)));unfold setDrawn;refine Qa (Qa (QR S.get S.data S.fits ?_));dsimp only;refine Qa (vA ?_);refine Qb ?_
 have c:(!(w.params.followText "set-order") && (!t.plain && decide (es.size > 1)))=false:=by rw [S.plain];simp
 show JZ _ _ (if(!(w.params.followText "set-order") && (!t.plain && decide (es.size > 1)))=true then _ else _) _ _ s
 rw [c,if_neg Qx];refine Qa (Qb ?_);unfold setEpoch;refine Qa (Qa (QR S.get S.data S.fits (Qb ?_)));exact Qa (Q0 (Qb ⟨_,rfl,"set_iterator",_,⟨_,Qr _ rfl,rfl⟩,F.si_next.lookup,h⟩))
theorem Rl{Q:Option Value->YP->Prop}(c:oY s.heap I a slot i es.size ep)(S:iU w s.heap a o es ep t)(k:w.params.followText "set-order"=false->Zh t.place slot=i)(g:i<es.size)
  (l:∀ x h' next,(gR w a ep es)[i]?=some x->(w.params.followText "set-order"=false->Zh t.place next=i+1)->oY h' I a next (i+1) es.size ep->Zi I s.heap h'->Q (some x.2) { s with heap:=h' }):
  JZ (J1 prog w) A (ZU (.ref I)) Q E s:=by
 obtain⟨p,b,j,f⟩:=id c;unfold ZU
 refine Qa (UL (Yf (name:=Str.ofString "__next__") c.typeIs F.si_next
  (Q9 F.si_next c.typeIs F.si_next_entry ?_ (F.si_next_args _))))
 show JZ _ _ (fieldsOf (.ref I) >>= _) _ _ s
 refine Qa (U1 b f ?_);dsimp only;refine Qa (JS S.get S.data S.fits ?_);rw [if_neg (by simp)];refine Qa (FL (i:=i) (slot:=slot) S k (fun x next n m=>?_) fun h=>absurd g (by lia));dsimp only;refine Qa (Jt b f (by simp) ?_);have e:=QQ (Obj.mapFields (·.setIfInBounds 0 (Z0 next))) b (JJ (YK f _));have d:=YK f (fun x=>x.setIfInBounds 0 (Z0 next));refine Qa (Jt e d (by simp) (Qb ⟨_,rfl,Qb (l x _ next n m ?_ ((QY ..).trans (QY ..)))⟩))
 refine⟨_,QQ _ e (JJ (YK d _)),((Uv ..).trans (Uv ..)).trans j,?_⟩
 rw [YK d]
 simp [Z0]
theorem Ri{Q:Option Value->YP->Prop}(e:A.handled=none)(c:oY s.heap I a slot es.size es.size ep)(S:iU w s.heap a o es ep t)(h:w.params.followText "set-order"=false->Zh t.place slot=es.size)
  (j:∀ h',Heap.ExtBut I s.heap h'->Q none { s with heap:=h' }):
  JZ (J1 prog w) A (ZU (.ref I)) Q E s:=by
 obtain⟨k,d,l,f⟩:=id c;unfold ZU
 refine Qa (UL (Yf (name:=Str.ofString "__next__") c.typeIs F.si_next
  (Q9 F.si_next c.typeIs F.si_next_entry ?_ (F.si_next_args _))))
 show JZ _ _ (fieldsOf (.ref I) >>= _) _ _ s
 refine Qa (U1 d f ?_);dsimp only;refine Qa (JS S.get S.data S.fits ?_);rw [if_neg (by simp)];refine Qa (FL (i:=es.size) (slot:=slot) S h (fun x next g n=>?_) fun _=>?_)
 ·rw [Yl (by rw [wD];exact Ql _)]at g;cases g
 dsimp only;refine Qa (Jt d f (by simp) ?_)
 show JZ _ _ (newExc (.type "StopIteration") [] >>= _) _ _ _
 refine Qa ?_;simp only [newExc,newTuple];refine Qa (Q0 ?_ (by size_fits));refine Qa (m:=Z2 _ _) (Jy (a:=Value.none) (by first | rfl | (simp only [Z2];rfl)) ?_);refine Q0 ?_ (by size_fits);simp only [raiseNew];refine Qa (wpAny_handled ?_)
 first | rw [show A.in1.handled=none from e] | rw [e]
 refine Qa (Qb (wpAny_throw ?_));refine Qa (Ju (T:="StopIteration") (b:=true) ⟨_,Qr _ rfl,rfl⟩ isSubtype_stop ?_);exact Qb (j _ (((QY ..).extBut.push _).push _))
theorem Walks.set{prog:J2}{w:J4}{A:Around}(y:A.handled=none)(I a:JY)(j:a≠I)(o:Obj)(es:Array (Int × Value))(m:Nat)(t:SetTable):
  Walks prog w A I [I,a] [I] es.size (fun i v=>∃ x,(gR w a m es)[i]?=some x/\v=x.2) (fun i h=>∃ slot,(w.params.followText "set-order"=false->Zh t.place slot=i)/\oY h I a slot i es.size m/\iU w h a o es m t) where
 sub:=fun b d=>by simp at d;simp [d]
 frame:=fun _ _ _ ⟨slot,f,⟨r,G,B,z⟩,S⟩ n=>⟨slot,f,⟨r,n I (by simp) _ G,B,z⟩,S.at (n a (by simp) _ S.get)⟩
 item:=fun i s Q E u ⟨slot,f,c,S⟩ g=>
  Rl c S f u fun x l next K J H p=>g _ l s.toks ⟨x,K,rfl⟩ ⟨next,J,H,S.at ((p.2 a j).trans S.get)⟩ fun b o d e=>p.extBut b o (fun h=>d (by simp [h])) e
 done:=fun s Q E ⟨slot,f,c,S⟩ g=>Ri y c S f fun l k=>g l s.toks fun b o d e=>k b o (fun h=>d (by simp [h])) e
 self:=fun i s Q E q g=>by
  obtain⟨slot,f,c,S⟩:=q;refine wpAny_pyIter_slot c.typeIs F.si_iter (Q9 F.si_iter c.typeIs F.si_iter_entry ?_ (F.si_iter_args _))
  show JZ _ _ (ret (.ref I)) _ _ s
  exact Qb ⟨_,rfl,"set_iterator",_,c.typeIs,F.si_next.lookup,g⟩
end
structure hW(t:SetTable)(hs:List Int):Prop where
 good:fA t.mask
 len:t.place.toList.length=hs.length
 up:Up t.place.toList
 dup:Up t.dummies.toList
 apart:∀ x∈t.dummies.toList,x∉t.place.toList
 room:(t.place.toList.length+t.dummies.toList.length) * 5<t.mask * 3
 reach:∀ q∈t.place.toList.zip hs,∃ n,(P t.mask q.2 n).j=q.1/\∀ m,m<n->(P t.mask q.2 m).j∈t.place.toList++t.dummies.toList
theorem gI.toD{t:SetTable}{hs:List Int}(T:gI t hs):hW t hs:=by
 refine⟨T.good,T.len,T.up,?_,?_,?_,fun q c=>?_⟩
 ·rw [T.dum];exact ZO
 ·rw [T.dum];intro x b;simp at b
 ·rw [T.dum];exact T.room
 ·obtain⟨n,e,a⟩:=T.reach q c
  exact⟨n,e,fun m d=>QK _ (a m d)⟩
theorem Bh{xs:Array Nat}(s:Up xs.toList)(j:Nat):has xs j=true ↔ j∈xs.toList:=by
 obtain⟨n,l,k⟩:=o3 xs s j;unfold has;constructor
 ·intro h
  have:=Yt h
  rw [<- QI]at this;exact QM this
 ·intro f;obtain⟨i,c⟩:=Q1 f;have m:=(Qf.mp c).1
  have e:i=Zh xs j:=by
   by_cases a:i<Zh xs j
   ·have:=l i j c a;lia
   ·by_cases b:i=Zh xs j
    ·exact b
    ·have g:Zh xs j<xs.toList.length:=by lia
     have d:=Qh g
     have:=s.at d c (by lia)
     have:=k _ _ d (Ql _)
     lia
  rw [<- e,<- QI,c];simp
theorem wW{t:SetTable}{hs:List Int}(T:hW t hs)(j:Nat):(∃ i,t.slot j=.live i/\t.place.toList[i]?=some j) ∨ (t.slot j=.dummy/\j∉t.place.toList/\j∈t.dummies.toList) ∨ (t.slot j=.empty/\j∉t.place.toList++t.dummies.toList):=by
 unfold slot;dsimp only;by_cases c:(t.place[Zh t.place j]? == some j)=true
 ·rw [if_pos c];exact .inl ⟨_,rfl,by rw [QI];exact Yt c⟩
 ·rw [if_neg c];have a:j∉t.place.toList:=fun b=>c ((Bh T.up j).mpr b);by_cases d:has t.dummies j=true
  ·rw [if_pos d];exact .inr (.inl ⟨rfl,a,(Bh T.dup j).mp d⟩)
  ·rw [if_neg d];exact .inr (.inr ⟨rfl,fun h=>(Qv.mp h).elim a fun h=>d ((Bh T.dup j).mpr h)⟩)
theorem Gx{t:SetTable}{hs:List Int}(T:hW t hs){j i:Nat}(h:t.slot j=.live i):t.place.toList[i]?=some j:=by
 rcases wW T j with⟨c,a,b⟩ | ⟨a,_⟩ | ⟨a,_⟩
 ·rw [h]at a;cases a;exact b
 ·rw [h]at a;cases a
 ·rw [h]at a;cases a
theorem hW.fits{t:SetTable}{hs:List Int}(T:hW t hs){n:Nat}(e:hs.length=n):t.fits n=true:=by
 have b:=T.len;have a:=T.room;rw [Qt]at b a;rw [Qt]at a;unfold Ue Uf;rw [b,e];rw [b]at a;simp only [QO,beq_iff_eq,decide_eq_true_eq]
 refine⟨?_,?_⟩
 ·trivial
 ·show n+t.dummies.size<=t.mask
  lia
theorem hW.odd{t:SetTable}{hs:List Int}(T:hW t hs):t.gaveWay=false:=by
 unfold SetTable.gaveWay
 rcases T.good with h | h | h | h | h | h | h <;> rw [h] <;> rfl
def Pd(M:Nat)(h:Int)(n:Nat)(d:Option Nat):Probe:={ P M h n with dummy:=d }
theorem Io(M:Nat)(p:Probe)(d:Option Nat):iN M { p with dummy:=d }={ iN M p with dummy:=d }:=by
 unfold iN;dsimp only
 split <;> rfl
theorem DX(M:Nat)(h:Int)(n:Nat)(d:Option Nat):iN M (Pd M h n d)=Pd M h (n+1) d:=Io M (P M h n) d
section
variable {t:SetTable}{hs:List Int}{hashAt:Nat->Int}{h:Int}{n:Nat}
theorem Nd(a c:Nat)(d:Option Nat):UO t hashAt h (a+1) (Pd t.mask h c d)=match t.slot (P t.mask h c).j with
  | .empty=>some (.empty (P t.mask h c).j d)
  | .dummy=>UO t hashAt h a (Pd t.mask h (c+1) (some (P t.mask h c).j))
  | .live i=>if(hashAt i == h)=true then some (.candidate (P t.mask h c).j i (Pd t.mask h (c+1) d))else UO t hashAt h a (Pd t.mask h (c+1) d):=by
 conv=>lhs;unfold UO
 rw [<- DX t.mask h c d,<- DX t.mask h c (some (P t.mask h c).j)];rfl
theorem Be(T:hW t hs)(s:(P t.mask h n).j∉t.place.toList++t.dummies.toList)(u:∀ m,m<n->(P t.mask h m).j∈t.place.toList++t.dummies.toList):∀ fuel c d,c<=n->n-c<fuel->
  (∃ d',UO t hashAt h fuel (Pd t.mask h c d)=some (.empty (P t.mask h n).j d')/\∀ m,c<=m->m<n->∀ i,t.slot (P t.mask h m).j=.live i->hashAt i≠h)
  ∨ ∃ m i d',c<=m/\m<n/\t.slot (P t.mask h m).j=.live i/\hashAt i=h/\(∀ m',c<=m'->m'<m->∀ i,t.slot (P t.mask h m').j=.live i->hashAt i≠h)/\UO t hashAt h fuel (Pd t.mask h c d)=some (.candidate (P t.mask h m).j i (Pd t.mask h (m+1) d'))
 | 0,c,d,_,hf=>absurd hf (Yz _)
 | fuel+1,c,d,hc,hf=>by
  rw [Nd];by_cases e:c=n
  ·subst e;rcases wW T (P t.mask h c).j with⟨i,l,r⟩ | ⟨l,r,v⟩ | ⟨l,_⟩
   ·exact absurd (QK _ (QM r)) s
   ·exact absurd (Qk _ v) s
   ·rw [l];exact .inl ⟨d,rfl,fun m a b=>by lia⟩
  ·rcases wW T (P t.mask h c).j with⟨i,l,r⟩ | ⟨l,r,v⟩ | ⟨_,r⟩
   ·rw [l];dsimp only;by_cases k:(hashAt i == h)=true
    ·rw [if_pos k];exact .inr ⟨c,i,d,Ql _,by lia,l,Yt k,fun m' a b=>by lia,rfl⟩
    ·rw [if_neg k];have w:hashAt i≠h:=fun e=>k (by rw [e];simp);rcases Be T s u fuel (c+1) d (by lia) (by lia)with⟨d',a,b⟩ | ⟨m,i',d',a1,a2,a3,a4,a5,a6⟩
     ·refine .inl ⟨d',a,fun m p g o f=>?_⟩;by_cases q:m=c
      ·subst q;rw [l]at f;cases f;exact w
      ·exact b m (by lia) g o f
     ·refine .inr ⟨m,i',d',by lia,a2,a3,a4,fun m' p g o f=>?_,a6⟩;by_cases q:m'=c
      ·subst q;rw [l]at f;cases f;exact w
      ·exact a5 m' (by lia) g o f
   ·rw [l];dsimp only;rcases Be T s u fuel (c+1) (some (P t.mask h c).j) (by lia) (by lia)with⟨d',a,b⟩ | ⟨m,i',d',a1,a2,a3,a4,a5,a6⟩
    ·refine .inl ⟨d',a,fun m p g o f=>?_⟩;by_cases q:m=c
     ·subst q;rw [l]at f;cases f
     ·exact b m (by lia) g o f
    ·refine .inr ⟨m,i',d',by lia,a2,a3,a4,fun m' p g o f=>?_,a6⟩;by_cases q:m'=c
     ·subst q;rw [l]at f;cases f
     ·exact a5 m' (by lia) g o f
   ·exact absurd (u c (by lia)) r
theorem IX(T:hW t hs)(k:(P t.mask h n).j∉t.place.toList++t.dummies.toList){i j:Nat}(b:t.place.toList[i]?=some j)(g:hs[i]?=some h):∃ m,m<n/\(P t.mask h m).j=j:=by
 have f:(j,h)∈t.place.toList.zip hs:=QM (i:=i) (by rw [YE];exact⟨b,g⟩);obtain⟨m,e,a⟩:=T.reach _ f
 refine⟨m,YD fun c=>k ?_,e⟩
 by_cases d:n=m
 ·subst d;rw [e];exact QK _ (QM b)
 ·exact a n (by lia)
end
section
variable {prog:J2}{w:J4}{A:Around}{E:Value->YP->Prop}{s:YP}
theorem EW{a x:JY}{o:Obj}{es:Array (Int × Value)}{ep:Nat}{t:SetTable}{ks:List (List Int)}{k:List Int}{n:Nat}{Q:SetFound->YP->Prop}
  (hu:A.units<J8) (Z:s.heap.get? a=some o) (hd:o.data=.set es ep t) (T:hW t (es.toList.map (·.1))) (X:bY prog w s.heap es.toList ks) (hk:TK prog w s.heap k x)
  (h1:(P t.mask (TH prog w k) n).j∉t.place.toList++t.dummies.toList) (h2:∀ m,m<n->(P t.mask (TH prog w k) m).j∈t.place.toList++t.dummies.toList)
  (q1:∀ i,ks[i]?=some k->Q (.there (some i)) s) (S:k∉ks->∀ j b,Q (.free j b) s):
  ∀ fuel c d,c<=n->n<10 * Ve t.mask->n-c<fuel->(∀ m,m<c->∀ i,t.slot (P t.mask (TH prog w k) m).j=.live i->ks[i]?≠some k)->∀ stand:Option Probe,stand.getD (t.probeStart (TH prog w k))=Pd t.mask (TH prog w k) c d->
  JZ (J1 prog w) A (setSearchFrom a (.ref x) (TH prog w k) false fuel stand) Q E s
 | 0,c,d,_,_,hf,_,_,_=>absurd hf (Yz _)
 | fuel+1,c,d,hc,hN,hf,inv,stand,hst=>by
  have u:t.fits es.size=true:=T.fits (by simp);unfold setSearchFrom;refine Qa (QR Z hd u ?_);dsimp only;rw [hst,if_neg (by rw [T.odd];exact Qx)];refine Qa (Qb ?_);generalize R:t.probe _ (TH prog w k) (Pd t.mask (TH prog w k) c d)=met;obtain⟨f,a6,R⟩:∃ f:Nat->Int,(∀ i,f i=(es[i]?.map (·.1)).getD 0)/\t.probe f (TH prog w k) (Pd t.mask (TH prog w k) c d)=met:=⟨_,fun _=>rfl,R⟩
  have key:∀ m i,t.slot (P t.mask (TH prog w k) m).j=.live i->f i≠TH prog w k->ks[i]?≠some k:=fun m i G a0 a2=>by
   have Y:=Gx T G
   have q:i<es.toList.length:=by
    have:=(Qf.mp Y).1
    rw [T.len]at this
    simpa using this
   obtain⟨F,b,v,N,e3⟩:=X.at (Qh q);rw [a2]at v;cases v;apply a0;rw [a6,<- QI,Qh q,N];rfl
  have a5:=Be (hashAt:=f) T h1 h2 (10 * Ve t.mask) c d hc (by lia);rcases a5 with⟨O,g1,g2⟩ | ⟨m,i,O,g1,g2,g3,g4,g5,g6⟩
  ·have:met=some (.empty (P t.mask (TH prog w k) n).j O):=R.symm.trans g1
   subst this
   have H:k∉ks:=fun K=>by
    obtain⟨i,G⟩:=Q1 K
    have q:i<es.toList.length:=by rw [X.length];exact(Qf.mp G).1
    obtain⟨F,b,v,N,e3⟩:=X.at (Qh q);rw [G]at v;cases v
    have J:i<t.place.toList.length:=by rw [T.len];simpa using q
    obtain⟨m,hm,hj⟩:=IX T h1 (Qh J) (h:=TH prog w k) (by rw [QF,Qh q,N];rfl);rcases wW T (P t.mask (TH prog w k) m).j with⟨p,B,g⟩ | ⟨_,g,_⟩ | ⟨_,g⟩
    ·have a3:p=i:=by
      rw [hj]at g;have a1:=Qh J;by_cases W:p<i
      ·have:=T.up.at g a1 W;lia
      ·by_cases U:i<p
       ·have:=T.up.at a1 g U;lia
       ·lia
     subst a3;by_cases cm:m<c
     ·exact inv m cm p B G
     ·exact key m p B (g2 m (by lia) hm p B) G
    ·rw [hj]at g;exact g (YB _)
    ·rw [hj]at g;exact g (QK _ (YB _))
   dsimp only
   cases O with
   | none=>exact Qb (S H _ _)
   | some dd=>
    dsimp only;rw [if_neg (by simp)];exact Qb (S H _ _)
  ·have:met=some (.candidate (P t.mask (TH prog w k) m).j i (Pd t.mask (TH prog w k) (m+1) O)):=R.symm.trans g6
   subst this;have Y:=Gx T g3
   have q:i<es.toList.length:=by
    have:=(Qf.mp Y).1
    rw [T.len]at this
    simpa using this
   obtain⟨F,b,v,N,e3⟩:=X.at (Qh q)
   have M:es[i]?=some (TH prog w F,.ref b):=by rw [<- QI,Qh q,N]
   dsimp only
   have z:∀ y∈(es.filter (fun x=>x.1 == TH prog w k)).toList.map (fun x=>x.2),∃ F b,y=.ref b/\TK prog w s.heap F b:=fun y hy=>by
    obtain⟨e,he,rfl⟩:=QN.mp hy
    have a7:e∈es.toList:=by
     rw [Array.toList_filter]at he
     exact(Yo.mp he).1
    obtain⟨i2,a4⟩:=Q1 a7;obtain⟨k2,b2,_,z2,z3⟩:=X.at a4
    exact⟨k2,b2,by rw [z2],z3⟩
   split
   all_goals try (refine Qa (FR hk z ?_);rw [if_neg Qx])
   all_goals
    rw [M];dsimp only;refine Qa (QV (wpAny_eqBool_tuple hu e3 hk ?_));refine Qa (QR Z hd u ?_);dsimp only;rw [if_neg (by simp),show t.sameMemory t.moves t.mask=some true by unfold sameMemory;simp];dsimp only;rw [if_pos rfl,g3];dsimp only;rw [M];dsimp only;refine Qa (wpAny_isSame_ref_self ?_);simp only [if_true];refine Qa (Qb ?_);dsimp only;by_cases r:F=k
    ·rw [if_pos (by simp [r])];exact Qb (q1 i (r ▸ v))
    ·rw [if_neg (by simp [r])];refine EW hu Z hd T X hk h1 h2 q1 S fuel (m+1) O (by lia) hN (by lia) (fun I a8 p l=>?_) _ rfl;by_cases W:I<c
     ·exact inv I W p l
     ·by_cases U:I=m
      ·subst U;rw [g3]at l;cases l;rw [v];exact fun e=>r (QL e)
      ·exact key I p l (g5 I (by lia) (by lia) p l)
theorem EY{a x:JY}{o:Obj}{es:Array (Int × Value)}{G:Nat}{t:SetTable}{ks:List (List Int)}{k:List Int}{Q:Option Nat->YP->Prop}
  (v:A.units<J8) (f:s.heap.get? a=some o) (h:o.data=.set es G t) (T:hW t (es.toList.map (·.1))) (X:bY prog w s.heap es.toList ks) (B:TK prog w s.heap k x)
  (q:∀ i,ks[i]?=some k->Q (some i) s) (p:k∉ks->Q none s):JZ (J1 prog w) A (setFind a (.ref x) (TH prog w k)) Q E s:=by
 have c:t.fits es.size=true:=T.fits (by simp);have d:=T.room;obtain⟨n,e,u,r⟩:=Fe (l:=t.place.toList++t.dummies.toList) T.good (by rw [Qm];lia) (TH prog w k)
 have H:t.mask<=511:=by rcases T.good with g | g | g | g | g | g | g <;> lia
 unfold setFind setFindIn;refine Qa (QR f h c ?_);dsimp only;rw [if_neg (by simp [byScan,Value.scannable])];refine Qa ?_;unfold setSearch;refine EW v f h T X B u r ?_ ?_ 100000 0 none (QU _) e (by unfold Ve at e;lia) (fun m z=>absurd z (Yz _)) none ?_
 ·intro i F;exact Qb (q i F)
 ·intro y j b;exact Qb (p y)
 ·show P t.mask (TH prog w k) 0=_
  rfl
end
theorem qY{a:Type}(xs:Array a)(p:Nat):(ZX xs p).toList=xs.toList.take p++xs.toList.drop (p+1):=by
 unfold ZX;rw [Array.toList_append,Array.toList_extract,Array.toList_extract];simp only [List.extract_eq_take_drop,Nat.sub_zero,List.drop_zero];congr 1;exact Uw (by rw [YL,Qt];lia)
theorem Fx{l:List Nat}(s:Up l){i j:Nat}(c:l[i]?=some j)(x:Nat):x∈l.take i++l.drop (i+1) ↔ x∈l/\x≠j:=by
 have d:=(Qf.mp c).1
 have e:l=l.take i++j::l.drop (i+1):=by
  have:l[i]=j:=by rw [Qh d]at c;exact QL c
  rw [<- this,<- YF d,Yn]
 have f:(l.take i++j::l.drop (i+1)).Nodup:=by rw [<- e];exact s.nodup
 constructor
 ·intro a
  refine⟨?_,fun q=>?_⟩
  ·rw [e];rcases Qv.mp a with h | h
   ·exact QK _ h
   ·exact Qk _ (Qg _ h)
  ·subst q
   have:=(List.perm_middle.nodup_iff.mp f)
   exact(Ys.mp this).1 a
 ·rintro⟨a,b⟩
  rw [e]at a;rcases Qv.mp a with h | h
  ·exact QK _ h
  ·rcases Qj.mp h with h | h
   ·exact absurd h b
   ·exact Qk _ h
theorem Tq{xs:Array Nat}(s:Up xs.toList){j:Nat}(m:j∉xs.toList):Up (Zm xs (Zh xs j) j).toList:=by
 obtain⟨p,o,n⟩:=o3 xs s j;rw [lJ];unfold Up;rw [YX]
 have d:∀ x∈xs.toList.take (Zh xs j),x<j:=fun x g=>by
  obtain⟨i,c⟩:=Q1 g;rw [Uk]at c
  split at c
  ·rename_i q;exact o i x c q
  ·cases c
 have f:∀ x∈xs.toList.drop (Zh xs j),j<x:=fun x g=>by
  obtain⟨i,c⟩:=Q1 g;rw [Ul]at c
  have:=n _ x c (by lia)
  have l:x≠j:=fun e=>m (e ▸ QM c);lia
 refine⟨s.sublist (List.take_sublist _ _),Ym.mpr ⟨f,s.sublist (List.drop_sublist _ _)⟩,fun a k b h=>?_⟩
 rcases Qj.mp h with rfl | h
 ·exact d a k
 ·exact JP (d a k) (f b h)
theorem Fy{xs:Array Nat}{p j x:Nat}:x∈(Zm xs p j).toList ↔ x=j ∨ x∈xs.toList:=by
 rw [lJ,Qv,Qj]
 conv=>rhs;rw [<- Yn p xs.toList,Qv]
 constructor
 ·rintro(a | a | a)
  ·exact .inr (.inl a)
  ·exact .inl a
  ·exact .inr (.inr a)
 ·rintro(a | a | a)
  ·exact .inr (.inl a)
  ·exact .inl a
  ·exact .inr (.inr a)
theorem SS{d c:Type}{l:List d}{m:List c}{i:Nat}(b:l.length=m.length){q:d × c}(h:q∈(l.take i++l.drop (i+1)).zip (m.take i++m.drop (i+1))):q∈l.zip m:=by
 rw [List.zip_append (by rw [Q8,Q8,b]),Qv]at h;rcases h with h | h
 ·obtain⟨n,a⟩:=Q1 h;rw [YE,Uk,Uk]at a
  split at a
  ·exact QM (i:=n) (by rw [YE];exact a)
  ·cases a.1
 ·obtain⟨n,a⟩:=Q1 h;rw [YE,Ul,Ul]at a;exact QM (i:=i+1+n) (by rw [YE];exact a)
theorem Nu{t:SetTable}{hs:List Int}{i:Nat}(T:hW t hs)(y:i<hs.length):hW (t.drop i) (hs.take i++hs.drop (i+1))/\(t.drop i).plain=t.plain/\(t.drop i).led=t.led:=by
 have p:i<t.place.toList.length:=by rw [T.len];exact y
 obtain⟨j,g⟩:∃ j,t.place.toList[i]?=some j:=⟨_,Qh p⟩
 have l:t.place[i]?=some j:=by rw [<- QI];exact g
 have o:j∈t.place.toList:=QM g;have s:j∉t.dummies.toList:=fun h=>T.apart j h o
 have e:t.drop i={ t with place:=ZX t.place i,dummies:=Zm t.dummies (Zh t.dummies j) j }:=by
  unfold SetTable.drop;rw [l]
 rw [e];have d:(ZX t.place i).toList=t.place.toList.take i++t.place.toList.drop (i+1):=qY _ _
 have A:(ZX t.place i).toList.length+1=t.place.toList.length:=by
  rw [d,Qm,Q8,YL];lia
 have r:(Zm t.dummies (Zh t.dummies j) j).toList.length=t.dummies.toList.length+1:=by
  rw [(Y9 _ _ _).length_eq];simp
 have k:∀ x,x∈(ZX t.place i).toList++(Zm t.dummies (Zh t.dummies j) j).toList ↔ x∈t.place.toList++t.dummies.toList:=fun x=>by
  rw [Qv,Qv,d,Fx T.up g,Fy];constructor
  ·rintro(⟨a,_⟩ | a | a)
   ·exact .inl a
   ·exact .inl (a ▸ o)
   ·exact .inr a
  ·rintro(a | a)
   ·by_cases c:x=j
    ·exact .inr (.inl c)
    ·exact .inl ⟨a,c⟩
   ·exact .inr (.inr a)
 refine⟨⟨T.good,?_,?_,Tq T.dup s,fun x u=>?_,?_,fun q v=>?_⟩,rfl,rfl⟩
 ·show(ZX t.place i).toList.length=_
  rw [d,Qm,Qm,Q8,YL,Q8,YL,T.len]
 ·show Up (ZX t.place i).toList
  rw [d];refine T.up.sublist ?_
  have:(t.place.toList.take i++t.place.toList.drop (i+1)).Sublist (t.place.toList.take i++t.place.toList.drop i):=List.Sublist.append (List.Sublist.refl _) (by
   rw [YF p];exact List.sublist_cons_self _ _)
  rwa [Yn]at this
 ·show x∉(ZX t.place i).toList
  rw [d,Fx T.up g]
  rintro⟨a,b⟩
  rcases Fy.mp u with c | c
  ·exact b c
  ·exact T.apart x c a
 ·show((ZX t.place i).toList.length+(Zm t.dummies (Zh t.dummies j) j).toList.length) * 5<t.mask * 3
  have:=T.room
  rw [r];lia
 ·have f:q∈(ZX t.place i).toList.zip (hs.take i++hs.drop (i+1)):=v;rw [d]at f;obtain⟨n,z,a⟩:=T.reach q (SS T.len f)
  exact⟨n,z,fun m w=>(k _).mpr (a m w)⟩
def mO(prog:J2)(w:J4)(V:Value->Prop)(h:Heap)(a:JY)(ks:List (List Int)):Prop:=
 ∃ o es ep t,h.get? a=some o/\o.ExactSet/\o.data=.set es ep t/\hW t (es.toList.map (·.1))/\(t.plain=true/\t.led=jT w)/\bY prog w h es.toList ks/\ks.Nodup/\∀ e∈es.toList,V e.2
theorem cX.toD{prog:J2}{w:J4}{V:Value->Prop}{h:Heap}{a:JY}{ks:List (List Int)}(S:cX prog w V h a ks):mO prog w V h a ks:=by
 obtain⟨o,k,l,t,j,i,g,f,e,d,c,b⟩:=S
 exact⟨o,k,l,t,j,i,g,f.toD,e,d,c,b⟩
section
variable {prog:J2}{w:J4}{A:Around}{E:Value->YP->Prop}{s:YP}{V:Value->Prop}
theorem Di{a:Type}{l:List a}{i:Nat}{x:a}(h:l[i]?=some x):Zc l (x::(l.take i++l.drop (i+1))):=by
 have b:=(Qf.mp h).1
 have:l[i]=x:=by rw [Qh b]at h;exact QL h
 have e:l=l.take i++x::l.drop (i+1):=by rw [<- this,<- YF b,Yn]
 exact(List.Perm.of_eq e).trans List.perm_middle
theorem No{a x:JY}{ks:List (List Int)}{k:List Int}{Q:Bool->YP->Prop}(F:A.units<J8)(S:mO prog w V s.heap a ks)(I:TK prog w s.heap k x)
  (y:k∉ks->Q false s) (v:∀ h' ks',Zi a s.heap h'->mO prog w V h' a ks'->Zc ks (k::ks')->Q true { s with heap:=h' }) (hsz:ks.length<=1000):
  JZ (J1 prog w) A (setDiscardHashed a (.ref x) (TH prog w k)) Q E s:=by
 obtain⟨o,c,M,t,h,q,f,T,r,X,l,u⟩:=S;have j:t.fits c.size=true:=T.fits (by simp);unfold setDiscardHashed;refine Qa (EY F h f T X I (fun i p=>?_) fun G=>Qb (y G));dsimp only;have m:i<ks.length:=(Qf.mp p).1
 have n:i<c.toList.length:=by rw [X.length];exact m
 refine Qa (QR h f j ?_);dsimp only
 have K:c.size=ks.length:=by rw [<- X.length,Qt]
 have H:(ZX c i).size<=c.size:=by
  rw [<- Qt,qY,Qm,Q8,YL,Qt];lia
 refine Qa (Jk h f ?_ (by rw [Yj];lia))
 have J:(s.heap.update a (Zw (ZX c i) (t.drop i))).get? a=some { o with data:=.set (ZX c i) (M+1) (t.drop i) }:=by
  have:=QQ (Zw (ZX c i) (t.drop i)) h (by rw [Jr _ _ f];rfl)
  rw [Jr _ _ f]at this;exact this
 have g:=QY s.heap a (Zw (ZX c i) (t.drop i));obtain⟨N,B,z⟩:=Nu (i:=i) T (by rw [Qo];exact n);refine Qa (wpAny_point (Qb (v _ (ks.take i++ks.drop (i+1)) g ⟨_,_,_,_,J,q,rfl,?_,⟨by rw [B];exact r.1,by rw [z];exact r.2⟩,?_,?_,fun e d=>?_⟩ (Di p))))
 ·rw [qY,Yb,List.map_take,List.map_drop];exact N
 ·rw [qY]
  exact((X.take i).append (X.drop (i+1))).mono fun k b=>TK.keep h f g
 ·exact(Ys.mp ((Di p).nodup_iff.mp l)).2
 ·rw [qY]at d;rcases Qv.mp d with d | d
  ·exact u e (List.mem_of_mem_take d)
  ·exact u e (List.mem_of_mem_drop d)
abbrev q8(w:J4):Obj:={ cls:=.type "set",dict:=none,data:=.set #[] 0 (.fresh 0 0 (jT w)) }
theorem FJ{Q:Value->YP->Prop}(h:Q (.ref s.heap.objs.size) { s with heap:=s.heap.push (q8 w) }):JZ (J1 prog w) A (newSet (.type "set")) Q E s:=by
 unfold newSet setsByText;refine Qa (Qa (UI (Qb ?_)));dsimp only;simp only [newObj];exact Qa (wpAny_alloc (Qb h))
structure w6(w:J4)(t:SetTable)(M:Nat):Prop where
 good:fA M
 mask:t.mask=M
 place:t.place=#[]
 dum:t.dummies=#[]
 plain:t.plain=true
 led:t.led=jT w
theorem RW(t:SetTable)(a:Nat):t.relaid #[] a=some ({ mask:=Ze a-1,place:=#[],dummies:=#[],finger:=t.finger,led:=t.led,moves:=t.movedTo (Ze a-1),plain:=t.plain },#[]):=by
 unfold relaid laid layClean
 have e:∀ M:Nat,((J5 (M+1)).filterMap fun j=>((Uj (M+1) (none:Option Nat)).getD j none).map (j,·))=[]:=fun M=>by
  rw [List.filterMap_eq_nil_iff];intro j _
  have:(Uj (M+1) (none:Option Nat)).getD j none=none:=by
   unfold U0;split
   ·simp
   ·rfl
  rw [this];rfl
 show some _=_
 simp only [e];rfl
theorem Nf{n:Nat}(a:n * 5 >= 21)(f:n<=75):∃ M,Ze (n * 2)-1=M/\fA M/\n * 5<M * 3/\¬ Ze (n * 2) > sizeLine:=by
 have h:∀ n:Fin 76,n.val * 5 >= 21->(Ze (n.val * 2)-1=15 ∨ Ze (n.val * 2)-1=31 ∨ Ze (n.val * 2)-1=63 ∨ Ze (n.val * 2)-1=127 ∨ Ze (n.val * 2)-1=255)/\n.val * 5<(Ze (n.val * 2)-1) * 3/\Ze (n.val * 2)<=256:=by decide +kernel
 obtain⟨d,c,b⟩:=h ⟨n,by lia⟩ a
 refine⟨_,rfl,?_,c,by rw [Yj];exact Nat.not_lt.mpr (Qz b (by decide))⟩
 unfold fA
 rcases d with e | e | e | e | e <;> simp only at e <;> lia
theorem SZ{n:Nat}(d:n<=63):∃ M,Ze (grown n)-1=M/\fA M/\n * 5<M * 3/\¬ Ze (grown n) > sizeLine:=by
 have h:∀ n:Fin 64,(Ze (grown n.val)-1=7 ∨ Ze (grown n.val)-1=15 ∨ Ze (grown n.val)-1=31 ∨ Ze (grown n.val)-1=63 ∨ Ze (grown n.val)-1=127 ∨ Ze (grown n.val)-1=255)/\n.val * 5<(Ze (grown n.val)-1) * 3/\Ze (grown n.val)<=256:=by decide +kernel
 obtain⟨c,b,a⟩:=h ⟨n,by lia⟩
 refine⟨_,rfl,?_,b,by rw [Yj];exact Nat.not_lt.mpr (Qz a (by decide))⟩
 unfold fA
 rcases c with e | e | e | e | e | e <;> simp only at e <;> lia
theorem R8{r n:Nat}{o:Obj}{t:SetTable}{j:Nat}{Q:Unit->YP->Prop}(e:s.heap.get? r=some o)(f:o.ExactSet)(d:o.data=.set #[] j t)(B:w6 w t 7)(q:n<=75)
  (h:∀ h' o' ep' t' M,Zi r s.heap h'->h'.get? r=some o'->o'.ExactSet->o'.data=.set #[] ep' t'->w6 w t' M->n * 5<M * 3->Q () { s with heap:=h' }):JZ (J1 prog w) A (setRoomFor r n) Q E s:=by
 have b:t.fits (#[]:Array (Int × Value)).size=true:=by unfold Ue Uf;rw [B.place,B.dum];simp
 unfold setRoomFor;refine Qa (QR e d b ?_);unfold SetTable.roomFor Uf;rw [B.place,B.dum,B.mask];by_cases c:(0+n) * 5 >= 7 * 3
 ·rw [if_pos (by simpa using c)];obtain⟨M,p,m,l,k⟩:=Nf (n:=n) (by lia) q;unfold setRelay;refine Qa (QR e d b ?_);dsimp only
  have u:((#[]:Array Nat).size+n) * 2=n * 2:=by simp
  rw [u,if_neg k];have i:=RW t (n * 2);rw [p]at i
  have v:((#[]:Array (Int × Value)).map (·.1))=#[]:=by simp
  rw [v,i];refine Qa (Jy (a:=((#[]:Array (Int × Value)),({ mask:=M,place:=#[],dummies:=#[],finger:=t.finger,led:=t.led,moves:=t.movedTo M,plain:=t.plain }:SetTable))) (by rfl) ?_);dsimp only;refine Jk e d ?_ (by simp);have g:=QQ (Zw #[] { mask:=M,place:=#[],dummies:=#[],finger:=t.finger,led:=t.led,moves:=t.movedTo M,plain:=t.plain }) e (by rw [Jr _ _ d];rfl);rw [Jr _ _ d]at g;exact h _ _ _ _ M (QY ..) g f rfl ⟨m,rfl,rfl,rfl,B.plain,B.led⟩ l
 ·rw [if_neg (by simpa using c)];exact Qb (h s.heap o j t 7 (Heap.SameBut.refl ..) e f d B (by lia))
theorem OO{r a:JY}{o:Obj}{t:SetTable}{ep:Nat}{ks:List (List Int)}{Q:Unit->YP->Prop}(G:r≠a)(U:s.heap.get? r=some o)(K:o.ExactSet)(Z:o.data=.set #[] ep t)(B:w6 w t 7)
  (S:cX prog w V s.heap a ks) (hn:ks.length<=75) (h:∀ h' ks',Zi r s.heap h'->cX prog w V h' r ks'->Zc ks' ks->Q () { s with heap:=h' }):JZ (J1 prog w) A (setMerge r a (pure ())) Q E s:=by
 obtain⟨oa,f,a2,m,ha,a0,Y,T,N,X,H,hV⟩:=S
 have y:f.size=ks.length:=by rw [<- X.length,Qt]
 unfold setMerge;rw [if_neg (by simpa using G)];refine Qa (QR ha Y (T.fits (by simp)) ?_);dsimp only;by_cases em:f.isEmpty=true
 ·rw [if_pos em]
  have e0:f=#[]:=by simpa using em
  have k0:ks=[]:=by
   rw [e0]at y;exact Jz y.symm
  subst k0;refine Qb (h s.heap [] (Heap.SameBut.refl ..) ⟨o,#[],ep,t,U,K,Z,?_,⟨B.plain,B.led⟩,.nil,JL,fun e W=>by simp at W⟩ (.refl _))
  exact⟨by rw [B.mask];exact B.good,B.dum,by rw [B.place];rfl,by rw [B.place];exact ZO,fun x hx=>by rw [B.place]at hx;simp at hx,by rw [B.place,B.mask];decide,fun q hq=>by rw [B.place]at hq;simp at hq⟩
 ·rw [if_neg em];refine Qa (R8 U K Z B (by rw [y];exact hn) fun z o1 a3 j M sb1 l u g B1 hM=>?_);have a1:z.get? a=some oa:=(sb1.2 a (Zy G)).trans ha;have X1:bY prog w z f.toList ks:=X.mono fun k b=>TK.keep U Z sb1;refine Qa (QR (s:={ s with heap:=z }) l g (by unfold Ue Uf;rw [B1.place,B1.dum];simp) ?_);dsimp only
  have hf:(j.fill != 0)=false:=by unfold Uf;rw [B1.place,B1.dum];rfl
  have F:f.size<=sizeLine:=by rw [Yj];lia
  unfold SetTable.road;rw [hf,if_neg Qx];by_cases c:(j.mask == m.mask && m.dummies.isEmpty)=true
  ·rw [if_pos c];dsimp only;refine Jk (s:={ s with heap:=z }) l g ?_ F;have J:=QQ (Zw f { m with finger:=j.finger,led:=j.led && m.led,moves:=j.moves,plain:=j.plain && m.plain }) l (by rw [Jr _ _ g];rfl);rw [Jr _ _ g]at J;have sb2:=QY z r (Zw f { m with finger:=j.finger,led:=j.led && m.led,moves:=j.moves,plain:=j.plain && m.plain });refine h _ ks (sb1.trans sb2) ⟨_,_,_,_,J,u,rfl,⟨T.good,T.dum,T.len,T.up,T.le,T.room,T.reach⟩,⟨?_,?_⟩,X1.mono fun k b=>TK.keep l g sb2,H,hV⟩ (.refl _)
   ·show(j.plain && m.plain)=true
    rw [B1.plain,N.1];rfl
   ·show(j.led && m.led)=jT w
    rw [B1.led,N.2,Bool.and_self]
  ·rw [if_neg c];dsimp only;obtain⟨O,d,r1,R,r3,r4,r5⟩:=Gi (hs:=f.map (·.1)) (M:=M) j.finger j.moves (j.led && m.led) (j.plain && m.plain) B1.good (by rw [Je];exact hM)
   have I:∀ i∈d.toList,i<f.toList.length:=fun i hi=>by
    have:=QS.mp (R.mem_iff.mp hi)
    simpa using this
   have v:(d.filterMap (f[·]?)).toList=d.toList.filterMap (f.toList[·]?):=by
    rw [JD];congr 1
    funext i
    rw [QI]
   have p:Zc (d.filterMap (f[·]?)).toList f.toList:=by
    rw [JD]
    refine(R.filterMap _).trans ?_
    rw [Je,filterMap_getElem?_range]
   have n:(d.filterMap (f[·]?)).size=f.size:=by rw [<- Qt,p.length_eq,Qt]
   rw [B1.mask,r1];refine Qa ?_
   show JZ _ _ (if((d.filterMap (f[·]?)).size != f.size)=true then _ else pure (d.filterMap (f[·]?),O)) _ _ _
   rw [if_neg (by simp [n])];refine Qb ?_;dsimp only;refine Jk (s:={ s with heap:=z }) l g ?_ (by rw [n];exact F);have J:=QQ (Zw (d.filterMap (f[·]?)) O) l (by rw [Jr _ _ g];rfl);rw [Jr _ _ g]at J;have sb2:=QY z r (Zw (d.filterMap (f[·]?)) O)
   have kp:Zc (d.toList.filterMap (ks[·]?)) ks:=by
    refine(R.filterMap _).trans ?_
    rw [Je,<- Qt,X.length,Y6]
   refine h _ (d.toList.filterMap (ks[·]?)) (sb1.trans sb2) ⟨_,_,_,_,J,u,rfl,?_,⟨by rw [r5,B1.plain,N.1];rfl,by rw [r4,B1.led,N.2,Bool.and_self]⟩,?_,kp.nodup_iff.mpr H,fun e W=>hV e (p.mem_iff.mp W)⟩ kp
   ·rw [v,Bj _ _ I]
    simpa using r3
   ·rw [v]
    exact(X1.pick _ I).mono fun k b=>TK.keep l g sb2
theorem vX{a:JY}{Q:Bool->YP->Prop}(b:s.TypeIs (.ref a) "set")(h:Q true s):JZ (J1 prog w) A (Z3 (.ref a)) Q E s:=by
 unfold Z3 orM;refine Qa (Ju b sub_set_self ?_);exact Qb h
theorem o0{a:JY}{Q:Value->YP->Prop}(b:s.TypeIs (.ref a) "set")(h:Q (.type "set") s):JZ (J1 prog w) A (Builtin.Frozenset.baseOf a) Q E s:=by
 unfold Builtin.Frozenset.baseOf;refine Qa (Ju b sub_set_self ?_);rw [if_pos rfl];exact Qb h
theorem wU{a:JY}{o:Obj}{es:Array (Int × Value)}{e:Nat}{t:SetTable}{Q:Nat->YP->Prop}(b:s.heap.get? a=some o)(d:o.data=.set es e t)(c:t.fits es.size=true)(h:Q es.size s):JZ (J1 prog w) A (Ug a) Q E s:=by
 unfold Ug;exact Qa (JS b d c (Qb h))
theorem NQ{a:JY}{ks:List (List Int)}{Q:Value->YP->Prop}(S:cX prog w V s.heap a ks)(m:ks.length<=75)
  (h:∀ h' ks',(∀ b o,s.heap.get? b=some o->h'.get? b=some o)->cX prog w V h' s.heap.objs.size ks'->Zc ks' ks->Q (.ref s.heap.objs.size) { s with heap:=h' }):JZ (J1 prog w) A (Builtin.Frozenset.copyOf a) Q E s:=by
 obtain⟨j,y,q,u,f,c,n,T,v,X,l,x⟩:=id S;have p:s.TypeIs (.ref a) "set":=⟨j,f,c.1⟩;have k:=Qs f;unfold Builtin.Frozenset.copyOf;refine Qa (o0 p (Qa (FJ ?_)));refine Qa (Qb ?_);have t:cX prog w V (s.heap.push (q8 w)) a ks:=S.moved fun b o e _=>Qc _ e;refine Qa (OO (s:={ s with heap:=s.heap.push (q8 w) }) (r:=s.heap.objs.size) (Yw k) (Qr _ rfl) ⟨rfl,rfl,rfl⟩ rfl ⟨.inl rfl,rfl,rfl,rfl,rfl,rfl⟩ t m fun h' ks' g d i=>?_);exact Qb (h h' ks' (fun b o e=>(g.2 b (Qu (Qs e))).trans (Qc _ e)) d i)
end
end ST
namespace DL
open PySem.Spec L2
abbrev D:=PyData
def kO(K:PySem.W.Frag)(F:JY->Prop)(H:Hp)(a:JY)(vs:List V):Prop:=(F a/\Rd H a (.lst vs)) ∨ cJ K (fun _=>none) a vs
theorem kO.sq{K:PySem.W.Frag}{F:JY->Prop}{H:Hp}{a:JY}{vs:List V}(h:kO K F H a vs):cJ K H a vs:=by
 rcases h with⟨_,h⟩ | (h | ⟨o,h⟩) | h
 ·exact .inl h
 ·cases h
 ·cases h
 ·exact .inr h
abbrev eW:=Sum (List Int) (List (List Int))
def iR(ks:List Int):D:=.tuple (ks.map .int)
def tW:eW->D
 | .inl b=>iR b
 | .inr a=>.tuple (a.map iR)
def D7(ks:List Int):Int:=reduceHash (Builtin.Tuple.tupleHashOf (ks.map hashInt))
def D6:eW->Int
 | .inl b=>D7 b
 | .inr a=>reduceHash (Builtin.Tuple.tupleHashOf (a.map D7))
def nZ(K:PySem.W.Frag)(H:Hp)(k:eW)(b:JY):Prop:=match k with
 | .inl c=>bR K H b (c.map V.int)
 | .inr a=>a≠[]/\∃ bs:List JY,bR K H b (bs.map V.ref)/\Paired (fun(c:List Int) (b:JY)=>bR K H b (c.map V.int)) a bs
def bZ(a:JY)(es:List (eW × JY × V))(b:Nat):HO:=.ext fun h=>(a == Zg)=false/\∃ o raw,h.get? a=some o/\o.ExactDict/\o.data=.dict raw b/\Paired (fun(e:eW × JY × V) (r:Zz)=>r.hash=D6 e.1/\r.key=.ref e.2.1/\RelV e.2.2 r.val) es raw.toList
def HZ(a C:JY):HO:=.ext fun h=>∃ o,h.get? a=some o/\o.cls=.ref C
def Cu(x:Str):D:=.dict [(.none,.str x)]
def Ib(a:JY)(vs:List V):HO:=.ext fun h=>vs.length<=sizeLine/\∃(its:List Value) (n:Nat),Vals vs its/\h.get? a=some { cls:=.type "list",data:=.seq its.toArray n }
mutual
inductive aV(K:PySem.W.Frag)(F:JY->Prop)(H:Hp):D->V->Prop
 | non:aV K F H .none .non
 | bl (b:Bool):aV K F H (.bool b) (.bl b)
 | int (i:Int):aV K F H (.int i) (.int i)
 | str (x:Str):aV K F H (.str x) (.str x)
 | tup {a:JY}{vs:List V}{ds:List D}:bR K H a vs->Reps K F H ds vs->aV K F H (.tuple ds) (.ref a)
 | lst {a:JY}{vs:List V}{ds:List D}:kO K F H a vs->Reps K F H ds vs->aV K F H (.list ds) (.ref a)
 | dct {a:JY}{es:List (eW × JY × V)}{kvs:List (D × D)}{ep:Nat}:F a->H a=some (bZ a es ep)->(es.map (·.1)).Nodup->es.length<=1000->DReps K F H kvs es->aV K F H (.dict kvs) (.ref a)
 | exn {a C:JY}{x:Str}:F a->H a=some (HZ a C)->PySem.W.nsIn K Za x=some (some (.ref C))->aV K F H (Cu x) (.ref a)
inductive DReps(K:PySem.W.Frag)(F:JY->Prop)(H:Hp):List (D × D)->List (eW × JY × V)->Prop
 | nil:DReps K F H [] []
 | cons {k:eW}{b:JY}{d:D}{v:V}{kvs:List (D × D)}{es:List (eW × JY × V)}:nZ K H k b->aV K F H d v->DReps K F H kvs es->DReps K F H ((tW k,d)::kvs) ((k,b,v)::es)
inductive Reps(K:PySem.W.Frag)(F:JY->Prop)(H:Hp):List D->List V->Prop
 | nil:Reps K F H [] []
 | cons {d:D}{v:V}{ds:List D}{vs:List V}:aV K F H d v->Reps K F H ds vs->Reps K F H (d::ds) (v::vs)
end
structure cK(K:PySem.W.Frag)(F F':JY->Prop)(H H':Hp):Prop where
 up:∀ a,F a->F' a
 tp:∀ a xs,bR K H a xs->bR K H' a xs
 ls:∀ a xs,F a->Rd H a (.lst xs)->Rd H' a (.lst xs)
 xt:∀ a φ,F a->H a=some (.ext φ)->H' a=some (.ext φ)
theorem nZ.stay{K:PySem.W.Frag}{F f:JY->Prop}{H a:Hp}(S:cK K F f H a){k:eW}{b:JY}(h:nZ K H k b):nZ K a k b:=by
 cases k with
 | inl g=>exact S.tp _ _ h
 | inr c=>obtain⟨n,bs,e,d⟩:=h;exact⟨n,bs,S.tp _ _ e,Paired.mapP d fun _ _ z=>S.tp _ _ z⟩
theorem kO.stay{K:PySem.W.Frag}{F c:JY->Prop}{H b:Hp}(S:cK K F c H b){a:JY}{vs:List V}(h:kO K F H a vs):kO K c b a vs:=by
 rcases h with⟨f,h⟩ | h
 ·exact .inl ⟨S.up a f,S.ls a vs f h⟩
 ·exact .inr h
mutual
theorem aV.stay{K:PySem.W.Frag}{F c:JY->Prop}{H a:Hp}(S:cK K F c H a){d:D}{v:V}(h:aV K F H d v):aV K c a d v:=by
 cases h with
 | non=>exact .non
 | bl b=>exact .bl b
 | int i=>exact .int i
 | str x=>exact .str x
 | tup h r=>exact .tup (S.tp _ _ h) (Reps.stay S r)
 | lst h r=>exact .lst (h.stay S) (Reps.stay S r)
 | dct f h n l r=>exact .dct (S.up _ f) (S.xt _ _ f h) n l (DReps.stay S r)
 | exn f h n=>exact .exn (S.up _ f) (S.xt _ _ f h) n
theorem DReps.stay{K:PySem.W.Frag}{F c:JY->Prop}{H b:Hp}(S:cK K F c H b){a:List (D × D)}{es:List (eW × JY × V)}(h:DReps K F H a es):DReps K c b a es:=by
 cases h with
 | nil=>exact .nil
 | cons h r t=>exact .cons (h.stay S) (aV.stay S r) (DReps.stay S t)
theorem Reps.stay{K:PySem.W.Frag}{F b:JY->Prop}{H a:Hp}(S:cK K F b H a){ds:List D}{vs:List V}(h:Reps K F H ds vs):Reps K b a ds vs:=by
 cases h with
 | nil=>exact .nil
 | cons h r=>exact .cons (aV.stay S h) (Reps.stay S r)
end
theorem Reps.length{K:PySem.W.Frag}{F:JY->Prop}{H:Hp}:∀{ds:List D}{vs:List V},Reps K F H ds vs->ds.length=vs.length
 | _,_,.nil=>rfl
 | _,_,.cons _ r=>by simp [Reps.length r]
theorem Reps.get{K:PySem.W.Frag}{F:JY->Prop}{H:Hp}:∀{ds:List D}{vs:List V}{i:Nat}{d:D},Reps K F H ds vs->ds[i]?=some d->∃ v,vs[i]?=some v/\aV K F H d v
 | _,_,_,_,.nil,e=>by simp at e
 | _,_,0,_,.cons h _,e=>by simp at e;subst e;exact⟨_,rfl,h⟩
 | _,_,i+1,d,.cons _ r,e=>by
  obtain⟨v,b,a⟩:=Reps.get (i:=i) (d:=d) r (by simpa using e)
  exact⟨v,by simpa using b,a⟩
theorem Reps.append{K:PySem.W.Frag}{F:JY->Prop}{H:Hp}:∀{ds es:List D}{vs us:List V},Reps K F H ds vs->Reps K F H es us->Reps K F H (ds++es) (vs++us)
 | _,_,_,_,.nil,s=>s
 | _,_,_,_,.cons h r,s=>.cons h (Reps.append r s)
theorem Reps.take{K:PySem.W.Frag}{F:JY->Prop}{H:Hp}:∀{ds:List D}{vs:List V} (n:Nat),Reps K F H ds vs->Reps K F H (ds.take n) (vs.take n)
 | _,_,0,_=>.nil
 | _,_,_+1,.nil=>.nil
 | _,_,n+1,.cons h r=>.cons h (Reps.take n r)
theorem Reps.drop{K:PySem.W.Frag}{F:JY->Prop}{H:Hp}:∀{ds:List D}{vs:List V} (n:Nat),Reps K F H ds vs->Reps K F H (ds.drop n) (vs.drop n)
 | _,_,0,r=>r
 | _,_,_+1,.nil=>.nil
 | _,_,n+1,.cons _ r=>Reps.drop n r
structure aM(F F':JY->Prop)(H H':Hp):Prop where
 same:eJ H H'
 up:∀ a,F a->F' a
 new:∀ a,F' a->F a ∨ (H a=none/\H' a≠none)
theorem aM.refl(F:JY->Prop)(H:Hp):aM F F H H:=⟨eJ.refl H,fun _ h=>h,fun _ h=>.inl h⟩
theorem aM.trans{F g f:JY->Prop}{H e H2:Hp}(a:aM F g H e)(b:aM g f e H2):aM F f H H2:=
 ⟨a.same.trans b.same,fun x h=>b.up x (a.up x h),fun x h=>by
  rcases b.new x h with d | ⟨d,j⟩
  ·rcases a.new x d with c | ⟨c,i⟩
   ·exact .inl c
   ·refine .inr ⟨c,fun z=>i (b.same.free z)⟩
  ·exact .inr ⟨a.same.free d,j⟩⟩
theorem eJ.sqT{K:PySem.W.Frag}{H b:Hp}{a:JY}{xs:List V}(e:eJ H b)(h:bR K H a xs):bR K b a xs:=by
 rcases h with(h | ⟨o,h⟩) | h
 ·exact .inl (.inl (e _ _ h))
 ·exact .inl (.inr ⟨o,e _ _ h⟩)
 ·exact .inr h
theorem eJ.rd{H b:Hp}{a:JY}{u:HO}(e:eJ H b)(h:Rd H a u):Rd b a u:=by
 rcases h with h | ⟨o,h⟩
 ·exact .inl (e _ _ h)
 ·exact .inr ⟨o,e _ _ h⟩
theorem aM.stay{K:PySem.W.Frag}{F a:JY->Prop}{H H':Hp}(e:aM F a H H'):cK K F a H H':=
 ⟨e.up,fun _ _ h=>eJ.sqT e.same h,fun _ _ _ h=>eJ.rd e.same h,fun _ _ _ h=>e.same _ _ h⟩
theorem GT{H:Hp}{p:JY}{o:HO}(a:H p=none):eJ H (aZ H p o):=fun b u e=>by
 rw [bI (fV e a)];exact e
theorem aM.fresh{F:JY->Prop}{H:Hp}{p:JY}{o:HO}(a:H p=none):aM F F H (aZ H p o):=⟨GT a,fun _ h=>h,fun _ h=>.inl h⟩
theorem aM.frozen{F:JY->Prop}{H:Hp}{p:JY}{o:HO}(b:H p=none):aM F (fun a=>F a ∨ a=p) H (aZ H p o):=
 ⟨GT b,fun _ h=>.inl h,fun a h=>h.elim .inl fun e=>.inr (by subst e;exact⟨b,by rw [dY];simp⟩)⟩
theorem aV.newTup{K:PySem.W.Frag}{F:JY->Prop}{H:Hp}{p:JY}{vs:List V}{ds:List D}(a:H p=none)(r:Reps K F H ds vs):aV K F (aZ H p (.tup vs)) (.tuple ds) (.ref p):=
 .tup (.inl (.inl dY)) (r.stay (aM.fresh a).stay)
theorem aV.newLst{K:PySem.W.Frag}{F:JY->Prop}{H:Hp}{p:JY}{vs:List V}{ds:List D}(b:H p=none)(r:Reps K F H ds vs):aV K (fun a=>F a ∨ a=p) (aZ H p (.lst vs)) (.list ds) (.ref p):=
 .lst (.inl ⟨.inr rfl,.inl dY⟩) (r.stay (aM.frozen b).stay)
inductive Sl where
 | no
 | dat (d:D)
 | own (ds:List D)
 | ownD (kvs:List (D × D))
 | ownM (kvs:List (List Int × List D))
structure Q4 where
 k:List Int
 b:JY
 c:JY
 vs:List V
def Q4.ent(q:Q4):eW × JY × V:=(.inl q.k,q.b,.ref q.c)
structure Ic(K:PySem.W.Frag)(F:JY->Prop)(H H₀:Hp)(kv:List Int × List D)(q:Q4):Prop where
 key:kv.1=q.k
 sq:bR K H q.b (q.k.map V.int)
 hc:H q.c=some (Ib q.c q.vs)
 nf:¬ F q.c
 h0:H₀ q.c=none
 rs:Reps K F H kv.2 q.vs
structure v3(K:PySem.W.Frag)(F:JY->Prop)(H H₀:Hp)(kvs:List (List Int × List D))(a:JY)(qs:List Q4)(ep:Nat):Prop where
 hd:H a=some (bZ a (qs.map Q4.ent) ep)
 nf:¬ F a
 h0:H₀ a=none
 nd:(qs.map (·.k)).Nodup
 ln:qs.length<=1000
 nv:(qs.map (·.c)).Nodup
 na:a∉qs.map (·.c)
 ps:Paired (Ic K F H H₀) kvs qs
def qD(K:PySem.W.Frag)(F:JY->Prop)(H H₀:Hp):Option V->Sl->Prop
 | _,.no=>True
 | o,.dat d=>∃ v,o=some v/\aV K F H d v
 | o,.own ds=>∃ a vs,o=some (.ref a)/\H a=some (.lst vs)/\¬ F a/\H₀ a=none/\Reps K F H ds vs
 | o,.ownD kvs=>∃ a es ep,o=some (.ref a)/\H a=some (bZ a es ep)/\¬ F a/\H₀ a=none/\(es.map (·.1)).Nodup/\es.length<=1000/\DReps K F H kvs es
 | o,.ownM kvs=>∃ a es ep,o=some (.ref a)/\v3 K F H H₀ kvs a es ep
abbrev j3:=Sum (List D) (List (D × D))
def jD:j3->Sl
 | .inl b=>.own b
 | .inr a=>.ownD a
structure bL(K:PySem.W.Frag)(F:JY->Prop)(H H₀:Hp)(σ:L2.St)(ρ:List Sl):Prop where
 len:σ.length=ρ.length
 sl:∀(i:Nat) (s:Sl),ρ[i]?=some s->∃ o,σ[i]?=some o/\qD K F H H₀ o s
 sep:∀(i j:Nat) (a:JY) (ds es:j3),i≠j->ρ[i]?=some (jD ds)->ρ[j]?=some (jD es)->σ[i]?=some (some (.ref a))->σ[j]?≠some (some (.ref a))
 fz:∀ a,F a->H a≠none
theorem v3.to{K:PySem.W.Frag}{F e:JY->Prop}{H d H₀:Hp}{c:List (List Int × List D)}{a:JY}{es:List Q4}{ep:Nat}(m:v3 K F H H₀ c a es ep)(T:cK K F e H d)
  (k:∀ b φ,H b=some (.ext φ)->¬ F b->d b=some (.ext φ)/\¬ e b):v3 K e d H₀ c a es ep:=
 ⟨(k _ _ m.hd m.nf).1,(k _ _ m.hd m.nf).2,m.h0,m.nd,m.ln,m.nv,m.na,Paired.mapP m.ps fun _ _ q=>⟨q.key,T.tp _ _ q.sq,(k _ _ q.hc q.nf).1,(k _ _ q.hc q.nf).2,q.h0,q.rs.stay T⟩⟩
theorem qD.ext{K:PySem.W.Frag}{F w:JY->Prop}{H u H₀:Hp}(e:aM F w H u){o:Option V}{s:Sl}(h:qD K F H H₀ o s):qD K w u H₀ o s:=by
 cases s with
 | no=>trivial
 | ownM i=>
  obtain⟨a,k,p,q,m⟩:=h
  refine⟨a,k,p,q,m.to e.stay fun b y t c=>⟨e.same _ _ t,fun f=>?_⟩⟩
  rcases e.new b f with f | ⟨f,_⟩
  ·exact c f
  ·rw [t]at f;cases f
 | ownD i=>
  obtain⟨a,k,p,q,g,c,j,n,l,r⟩:=h
  refine⟨a,k,p,q,e.same _ _ g,fun f=>?_,j,n,l,r.stay e.stay⟩
  rcases e.new a f with f | ⟨f,_⟩
  ·exact c f
  ·rw [g]at f;cases f
 | dat d=>obtain⟨v,q,r⟩:=h;exact⟨v,q,r.stay e.stay⟩
 | own z=>
  obtain⟨a,x,q,g,c,j,r⟩:=h
  refine⟨a,x,q,e.same _ _ g,fun f=>?_,j,r.stay e.stay⟩
  rcases e.new a f with f | ⟨f,_⟩
  ·exact c f
  ·rw [g]at f;cases f
theorem aM.fz{F c:JY->Prop}{H b:Hp}(e:aM F c H b)(z:∀ a,F a->H a≠none):∀ a,c a->b a≠none:=fun a f q=>by
 rcases e.new a f with f | ⟨_,f⟩
 ·exact z a f (e.same.free q)
 ·exact f q
theorem bL.ext{K:PySem.W.Frag}{F b:JY->Prop}{H a H₀:Hp}{σ:L2.St}{ρ:List Sl}(S:bL K F H H₀ σ ρ)(e:aM F b H a):bL K b a H₀ σ ρ:=
 ⟨S.len,fun i s h=>let⟨o,q,r⟩:=S.sl i s h;⟨o,q,r.ext e⟩,S.sep,e.fz S.fz⟩
theorem bL.dat{K:PySem.W.Frag}{F:JY->Prop}{H H₀:Hp}{σ:L2.St}{ρ:List Sl}(S:bL K F H H₀ σ ρ){i:Nat}{d:D}(h:ρ[i]?=some (.dat d)):∃ v,σ[i]?=some (some v)/\aV K F H d v:=by
 obtain⟨o,q,v,e,r⟩:=S.sl i _ h
 exact⟨v,by rw [q,e],r⟩
theorem bL.ownD{K:PySem.W.Frag}{F:JY->Prop}{H H₀:Hp}{σ:L2.St}{ρ:List Sl}(S:bL K F H H₀ σ ρ){i:Nat}{b:List (D × D)}(h:ρ[i]?=some (.ownD b)):
  ∃ a es ep,σ[i]?=some (some (.ref a))/\H a=some (bZ a es ep)/\¬ F a/\H₀ a=none/\(es.map (·.1)).Nodup/\es.length<=1000/\DReps K F H b es:=by
 obtain⟨o,q,a,es,ep,e,r⟩:=S.sl i _ h
 exact⟨a,es,ep,by rw [q,e],r⟩
theorem bL.own{K:PySem.W.Frag}{F:JY->Prop}{H H₀:Hp}{σ:L2.St}{ρ:List Sl}(S:bL K F H H₀ σ ρ){i:Nat}{ds:List D}(h:ρ[i]?=some (.own ds)):
  ∃ a vs,σ[i]?=some (some (.ref a))/\H a=some (.lst vs)/\¬ F a/\H₀ a=none/\Reps K F H ds vs:=by
 obtain⟨o,q,a,vs,e,r⟩:=S.sl i _ h
 exact⟨a,vs,by rw [q,e],r⟩
theorem bL.ow{K:PySem.W.Frag}{F:JY->Prop}{H H₀:Hp}{σ:L2.St}{ρ:List Sl}(S:bL K F H H₀ σ ρ){i:Nat}{ds:j3}(h:ρ[i]?=some (jD ds)):∃ a u,σ[i]?=some (some (.ref a))/\H a=some u:=by
 cases ds with
 | inl ds=>obtain⟨a,e,c,b,_⟩:=S.own h;exact⟨a,_,c,b⟩
 | inr d=>obtain⟨a,f,g,c,b,_⟩:=S.ownD h;exact⟨a,_,c,b⟩
theorem bL.sepNew{K:PySem.W.Frag}{F:JY->Prop}{H H₀:Hp}{σ:L2.St}{ρ:List Sl}(S:bL K F H H₀ σ ρ){i:Nat}{s:Sl}{p:JY}(x:H p=none)(j k:Nat)(a:JY)(ds es:j3)(f:j≠k)(q:(ρ.set i s)[j]?=some (jD ds))(o:(ρ.set i s)[k]?=some (jD es))(n:(σ.set i (some (.ref p)))[j]?=some (some (.ref a))):(σ.set i (some (.ref p)))[k]?≠some (some (.ref a)):=fun l=>by
 have old:∀(m:Nat) (es:j3),i≠m->(ρ.set i s)[m]?=some (jD es)->(σ.set i (some (.ref p)))[m]?≠some (some (.ref p)):=fun m es w r d=>by
  rw [QC w]at r d;obtain⟨b,u,v,t⟩:=S.ow r;rw [v]at d;cases d;rw [x]at t;cases t
 have h:∀(m:Nat) (es:j3),i=m->(ρ.set i s)[m]?=some (jD es)->(σ.set i (some (.ref p)))[m]?=some (some (.ref a))->a=p:=fun m es e r d=>by
  subst e
  have y:i<ρ.length:=by simpa using(Qf.mp r).1
  rw [QG (by rw [S.len];exact y)]at d;cases d;rfl
 by_cases c:i=j
 ·have e:=h j ds c q n;subst e c;exact old k es f o l
 ·by_cases g:i=k
  ·have e:=h k es g o l;subst e;exact old j ds c q n
  ·rw [QC c]at q n;rw [QC g]at o l;exact S.sep j k a ds es f q o n l
theorem bL.sepTurn{K:PySem.W.Frag}{F:JY->Prop}{H H₀:Hp}{σ:L2.St}{ρ:List Sl}(S:bL K F H H₀ σ ρ){i:Nat}{s:Sl}{x:j3}(e:ρ[i]?=some (jD x))(j k:Nat)(a:JY)(ds es:j3)(d:j≠k)(l:(ρ.set i s)[j]?=some (jD ds))(h:(ρ.set i s)[k]?=some (jD es))(f:σ[j]?=some (some (.ref a))):σ[k]?≠some (some (.ref a)):=by
 have get:∀(m:Nat) (b:j3),(ρ.set i s)[m]?=some (jD b)->∃ y:j3,ρ[m]?=some (jD y):=fun m b g=>by
  by_cases c:i=m
  ·subst c;exact⟨x,e⟩
  ·rw [QC c]at g;exact⟨b,g⟩
 obtain⟨q,o⟩:=get j ds l;obtain⟨p,n⟩:=get k es h;exact S.sep j k a q p d o n f
theorem bL.put{K:PySem.W.Frag}{F:JY->Prop}{H H₀:Hp}{σ:L2.St}{ρ:List Sl}(S:bL K F H H₀ σ ρ){i:Nat}{d:D}{v:V}(r:aV K F H d v):bL K F H H₀ (σ.set i (some v)) (ρ.set i (.dat d)):=by
 refine⟨by simp [S.len],fun j s h=>?_,fun j k a p n l g f m=>?_,S.fz⟩
 ·by_cases b:i=j
  ·subst b
   have c:i<ρ.length:=by
    have:=Qf.mp h
    simpa using this.1
   rw [QG c]at h;cases h
   exact⟨some v,by rw [QG (by rw [S.len];exact c)],v,rfl,r⟩
  ·rw [QC b]at h;obtain⟨o,q,w⟩:=S.sl j s h
   exact⟨o,by rw [QC b];exact q,w⟩
 ·have u:i≠j:=by
   intro e;subst e
   have c:i<ρ.length:=by
    have:=Qf.mp g
    simpa using this.1
   rw [QG c]at g;cases p <;> cases g
  have t:i≠k:=by
   intro e;subst e
   have c:i<ρ.length:=by
    have:=Qf.mp f
    simpa using this.1
   rw [QG c]at f;cases n <;> cases f
  rw [QC u]at g m;rw [QC t]at f ⊢;exact S.sep j k a p n l g f m
theorem bL.putOwn{K:PySem.W.Frag}{F:JY->Prop}{H H₀:Hp}{σ:L2.St}{ρ:List Sl}(S:bL K F H H₀ σ ρ){i:Nat}{ds:List D}{vs:List V}{p:JY}(b:H p=none)(g:H₀ p=none)(r:Reps K F H ds vs):
  bL K F (aZ H p (.lst vs)) H₀ (σ.set i (some (.ref p))) (ρ.set i (.own ds)):=by
 have e:aM F F H (aZ H p (.lst vs)):=aM.fresh b;have S':=S.ext e;have d:¬ F p:=fun f=>S.fz p f b
 refine⟨by simp [S.len],fun j s h=>?_,S.sepNew b,S'.fz⟩
 ·by_cases a:i=j
  ·subst a
   have c:i<ρ.length:=by
    have:=Qf.mp h
    simpa using this.1
   rw [QG c]at h;cases h
   exact⟨some (.ref p),by rw [QG (by rw [S.len];exact c)],p,vs,rfl,dY,d,g,r.stay e.stay⟩
  ·rw [QC a]at h;obtain⟨o,q,w⟩:=S'.sl j s h
   exact⟨o,by rw [QC a];exact q,w⟩
theorem bL.turn{K:PySem.W.Frag}{F:JY->Prop}{H H₀:Hp}{σ:L2.St}{ρ:List Sl}(S:bL K F H H₀ σ ρ){i:Nat}{ds es:List D}{vs us:List V}{p:JY}(E:ρ[i]?=some (.own ds))(hs:σ[i]?=some (some (.ref p)))
  (B:H p=some (.lst vs)) (G:¬ F p) (r:Reps K F H es us):bL K F (aZ H p (.lst us)) H₀ σ (ρ.set i (.own es))/\cK K F F H (aZ H p (.lst us)):=by
 have T:cK K F F H (aZ H p (.lst us)):=⟨fun _ h=>h,fun a U h=>by
   rcases h with(h | ⟨o,h⟩) | h
   ·exact .inl (.inl (by rw [bI (by intro z;subst z;rw [B]at h;cases h)];exact h))
   ·exact .inl (.inr ⟨o,by rw [bI (by intro z;subst z;rw [B]at h;cases h)];exact h⟩)
   ·exact .inr h,fun a U f h=>by
   have k:a≠p:=fun z=>G (z ▸ f);rcases h with h | ⟨o,h⟩
   ·exact .inl (by rw [bI k];exact h)
   ·exact .inr ⟨o,by rw [bI k];exact h⟩,fun a R f h=>by rw [bI (fun z=>G (by rw [<- z];exact f))];exact h⟩
 refine⟨⟨by simp [S.len],fun j s h=>?_,S.sepTurn (x:=.inl ds) E,fun a f z=>S.fz a f (by
  have k:a≠p:=fun y=>G (by rw [<- y];exact f)
  rwa [bI k]at z)⟩,T⟩
 ·by_cases e:i=j
  ·subst e;have Y:i<ρ.length:=(Qf.mp E).1;rw [QG Y]at h;cases h;obtain⟨a,ws,Q,_,_,X,_⟩:=S.own E;rw [hs]at Q;cases Q
   exact⟨_,hs,p,us,rfl,dY,G,X,r.stay T⟩
  ·rw [QC e]at h;obtain⟨o,q,w⟩:=S.sl j s h
   refine⟨o,q,?_⟩
   cases s with
   | no=>trivial
   | ownM I=>
    obtain⟨a,g,N,c,m⟩:=w
    exact⟨a,g,N,c,m.to T fun b R J u=>⟨by rw [bI (by intro z;subst z;rw [B]at J;cases J)];exact J,u⟩⟩
   | ownD I=>
    obtain⟨a,g,N,c,A,u,M,n,l,t⟩:=w
    exact⟨a,g,N,c,by rw [bI (by intro z;subst z;rw [B]at A;cases A)];exact A,u,M,n,l,t.stay T⟩
   | dat d=>obtain⟨v,c,t⟩:=w;exact⟨v,c,t.stay T⟩
   | own O=>
    obtain⟨a,ws,c,A,u,M,t⟩:=w
    have k:a≠p:=by
     intro z;subst z;exact S.sep i j a (.inl ds) (.inl O) e E h hs (by rw [q,c])
    exact⟨a,ws,c,by rw [bI k];exact A,u,M,t.stay T⟩
def frz:Sl->Sl
 | .own b=>.dat (.list b)
 | .ownD a=>.dat (.dict a)
 | .ownM _=>.no
 | s=>s
def gH(σ:L2.St)(ρ:List Sl)(a:JY):Prop:=(∃(i:Nat) (ds:List D),ρ[i]?=some (.own ds)/\σ[i]?=some (some (.ref a))) ∨ ∃(i:Nat) (kvs:List (D × D)),ρ[i]?=some (.ownD kvs)/\σ[i]?=some (some (.ref a))
theorem bL.frz{K:PySem.W.Frag}{F:JY->Prop}{H H₀:Hp}{σ:L2.St}{ρ:List Sl}(S:bL K F H H₀ σ ρ):bL K (fun a=>F a ∨ gH σ ρ a) H H₀ σ (ρ.map frz):=by
 have T:cK K F (fun a=>F a ∨ gH σ ρ a) H H:=⟨fun _ h=>.inl h,fun _ _ h=>h,fun _ _ _ h=>h,fun _ _ _ h=>h⟩
 refine⟨by simp [S.len],fun j s h=>?_,fun j k a u I _ p=>?_,fun a f=>?_⟩
 ·rw [QF]at h
  cases e:ρ[j]? with
  | none=>rw [e]at h;cases h
  | some t=>
   rw [e]at h;obtain⟨o,q,w⟩:=S.sl j t e
   refine⟨o,q,?_⟩
   cases t with
   | no=>cases h;trivial
   | ownM g=>cases h;trivial
   | ownD g=>
    cases h;obtain⟨a,I,J,c,y,E,G,n,l,r⟩:=w
    exact⟨.ref a,c,.dct (.inr (.inr ⟨j,g,e,by rw [q,c]⟩)) y n l (r.stay T)⟩
   | dat d=>cases h;obtain⟨v,c,r⟩:=w;exact⟨v,c,r.stay T⟩
   | own u=>
    cases h;obtain⟨a,B,c,y,E,G,r⟩:=w
    exact⟨.ref a,c,.lst (.inl ⟨.inr (.inl ⟨j,u,e,by rw [q,c]⟩),.inl y⟩) (r.stay T)⟩
 ·rw [QF]at p
  cases e:ρ[j]? with
  | none=>rw [e]at p;cases p
  | some t=>rw [e]at p;cases u <;> cases t <;> cases p
 ·rcases f with f | ⟨i,u,x,m⟩ | ⟨i,g,x,m⟩
  ·exact S.fz a f
  ·obtain⟨b,B,A,z,_⟩:=S.own x;rw [A]at m;cases m;rw [z];simp
  ·obtain⟨b,B,J,A,z,_⟩:=S.ownD x;rw [A]at m;cases m;rw [z];simp
theorem bL.frz1{K:PySem.W.Frag}{F:JY->Prop}{H H₀:Hp}{σ:L2.St}{ρ:List Sl}(S:bL K F H H₀ σ ρ){i:Nat}{ds:List D}(O:ρ[i]?=some (.own ds)):
  ∃ a,H₀ a=none/\bL K (fun b=>F b ∨ b=a) H H₀ σ (ρ.set i (.dat (.list ds))):=by
 obtain⟨a,vs,R,A,nf,h0,r⟩:=S.own O;have T:cK K F (fun b=>F b ∨ b=a) H H:=⟨fun _ h=>.inl h,fun _ _ h=>h,fun _ _ _ h=>h,fun _ _ _ h=>h⟩;have M:i<ρ.length:=(Qf.mp O).1
 refine⟨a,h0,by simp [S.len],fun j s h=>?_,fun j k b p X N I G h3=>?_,fun b f=>f.elim (S.fz b) fun z=>by subst z;rw [A];simp⟩
 ·by_cases u:i=j
  ·subst u;rw [QG M]at h;cases h
   exact⟨_,R,.ref a,rfl,.lst (.inl ⟨.inr rfl,.inl A⟩) (r.stay T)⟩
  ·rw [QC u]at h;obtain⟨o,q,w⟩:=S.sl j s h
   refine⟨o,q,?_⟩
   cases s with
   | no=>trivial
   | ownM J=>
    obtain⟨b,y,Q,t,m⟩:=w
    refine⟨b,y,Q,t,m.to T fun c φ U g=>⟨U,fun f=>?_⟩⟩
    rcases f with f | f
    ·exact g f
    ·subst f;rw [U]at A;cases A
   | ownD J=>
    obtain⟨b,y,Q,t,E,g,x,n,l,B⟩:=w
    refine⟨b,y,Q,t,E,fun f=>?_,x,n,l,B.stay T⟩
    rcases f with f | f
    ·exact g f
    ·subst f;rw [E]at A;cases A
   | dat d=>obtain⟨v,t,B⟩:=w;exact⟨v,t,B.stay T⟩
   | own p=>
    obtain⟨b,ws,t,E,g,x,B⟩:=w
    refine⟨b,ws,t,E,fun f=>?_,x,B.stay T⟩
    rcases f with f | f
    ·exact g f
    ·subst f;exact S.sep i j b (.inl ds) (.inl p) u O h R (by rw [q,t])
 ·have Z:i≠j:=by intro e;subst e;rw [QG M]at I;cases p <;> cases I
  have Y:i≠k:=by intro e;subst e;rw [QG M]at G;cases X <;> cases G
  rw [QC Z]at I;rw [QC Y]at G;exact S.sep j k b p X N I G h3
end DL
namespace DL
open PySem.Spec L2
abbrev aA:=List Sl
section
variable {X:Cx}
theorem eQ{e:Expr}{t t':TE}(h:PE X e t)(m:∀ σ H Q,t' σ H Q->t σ H Q):PE X e t':=fun a s σ H Q I q=>h a s σ H Q I (m σ H Q q)
theorem wH{e:Expr}{t t':TT}(h:PT X e t)(m:∀ σ H Q,t' σ H Q->t σ H Q):PT X e t':=fun a s σ H Q I q=>h a s σ H Q I (m σ H Q q)
theorem Hx{e:Expr}{t t':TT}(h:PW X e t)(m:∀ σ H Q,t' σ H Q->t σ H Q):PW X e t':=fun b a s σ H Q I q=>h b a s σ H Q I (m σ H Q q)
theorem Fr{es:List Expr}{t t':TA}(h:PA X es t)(m:∀ σ H Q,t' σ H Q->t σ H Q):PA X es t':=fun b a s σ H Q I q=>h b a s σ H Q I (m σ H Q q)
theorem ps_mono{e:Zj}{t t':TS}(h:PS X e t)(m:∀ W σ H,t' W σ H->t W σ H):PS X e t':=fun a s σ H W I q=>h a s σ H W I (m W σ H q)
theorem AO{e:List Zj}{t t':TS}(h:fX X e t)(m:∀ W σ H,t' W σ H->t W σ H):fX X e t':=fun a s σ H W I q=>h a s σ H W I (m W σ H q)
theorem pV{f:Value->Value->Sem Value}{r r':R2}(h:bO X f r)(m:∀ x y H Q,r' x y H Q->r x y H Q):bO X f r':=fun a s b H x y v u Q I d c q=>h a s b H x y v u Q I d c (m x y H Q q)
theorem Tp{f:Value->Sem Value}{r r':V->Hp->VK->Prop}(h:mQ X f r)(m:∀ x H Q,r' x H Q->r x H Q):mQ X f r':=fun a s b H x v Q I c q=>h a s b H x v Q I c (m x H Q q)
theorem n3{f:Value}{r r':List V->Hp->VK->Prop}(h:dW X f r)(m:∀ x H Q,r' x H Q->r x H Q):dW X f r':=fun a s b H x v Q I c q=>h a s b H x v Q I c (m x H Q q)
theorem Gc{r r':R2}(h:fW X r)(m:∀ x y H Q,r' x y H Q->r x y H Q):fW X r':=fun a b c s d H x y v u Q I f e q g=>h a b c s d H x y v u Q I f e (m x y H Q q) g
end
inductive mP(K:PySem.W.Frag)(σ:L2.St)(H:Hp){α:Type}(g:aA->Option α)(h:(JY->Prop)->α->Prop):Prop
 | mk (F:JY->Prop) (H₀:Hp) (ρ:aA) (x:α) (S:bL K F H H₀ σ ρ) (q:g ρ=some x) (k:h F x):mP K σ H g h
def tD(K:PySem.W.Frag)(g:aA->Option D):TE:=fun a H Q=>mP K a H g fun F d=>∀ F' H' v,aM F F' H H'->aV K F' H' d v->Q v H'
def oS(K:PySem.W.Frag)(g:aA->Option Bool):TT:=fun a H Q=>mP K a H g fun F b=>∀ F' H',aM F F' H H'->Q b H'
def CI(K:PySem.W.Frag)(g:aA->Option (List D)):TA:=fun a H Q=>mP K a H g fun F b=>∀ F' H' vs,aM F F' H H'->Reps K F' H' b vs->Q vs H'
def DE(X:Cx)(e:Expr)(g:aA->Option D):Prop:=PE X e (tD X.K g)
def DT(X:Cx)(e:Expr)(g:aA->Option Bool):Prop:=PT X e (oS X.K g)
def DW(X:Cx)(e:Expr)(g:aA->Option Bool):Prop:=PW X e (oS X.K g)
def DA(X:Cx)(es:List Expr)(g:aA->Option (List D)):Prop:=PA X es (CI X.K g)
def eC(d:D):aA->Option D:=fun _=>some d
def eV(i:Nat):aA->Option D:=fun a=>match a[i]? with
 | some (.dat d)=>some d
 | _=>none
def aE(f:D->D->Option D)(ga gb:aA->Option D):aA->Option D:=fun a=>(ga a).bind fun x=>(gb a).bind fun y=>f x y
def dJ(f:D->Option D)(ga:aA->Option D):aA->Option D:=fun a=>(ga a).bind f
def aG:aA->Option (List D):=fun _=>some []
def aB(ga:aA->Option D)(gr:aA->Option (List D)):aA->Option (List D):=fun a=>(ga a).bind fun x=>(gr a).bind fun b=>some (x::b)
def bV(ga:aA->Option (List D)):aA->Option D:=fun b=>(ga b).bind fun a=>if a.length<=1000 then some (.tuple a)else none
def fY(ga:aA->Option (List D)):aA->Option D:=fun b=>(ga b).bind fun a=>if a.length<=1000 then some (.list a)else none
def aJ(G:List D->Option D)(ga:aA->Option (List D)):aA->Option D:=fun a=>(ga a).bind G
def oC:D->Option Bool
 | .bool b=>some b
 | _=>none
def Cq:D->Option Int
 | .int i=>some i
 | _=>none
def eB(ga:aA->Option D):aA->Option Bool:=fun a=>(ga a).bind oC
def jR(t u:aA->Option Bool):aA->Option Bool:=fun a=>(t a).bind fun b=>if b=true then u a else some false
def gQ(t u:aA->Option Bool):aA->Option Bool:=fun a=>(t a).bind fun b=>if b=true then some true else u a
def hY(t:aA->Option Bool):aA->Option Bool:=fun a=>(t a).bind fun b=>some (!b)
def xZ(t:aA->Option Bool)(ga gb:aA->Option D):aA->Option D:=fun a=>(t a).bind fun b=>if b=true then ga a else gb a
def lG(ga gb:aA->Option D):aA->Option D:=fun a=>(ga a).bind fun x=>(oC x).bind fun c=>if c=true then gb a else some (.bool false)
def EG(ga:aA->Option D):aA->Option D:=fun a=>(ga a).bind fun x=>(oC x).bind fun c=>some (.bool (!c))
def jZ(h h':D->D->Option D)(ga gb b:aA->Option D):aA->Option D:=fun a=>(ga a).bind fun x=>(gb a).bind fun y=>(h x y).bind fun z=>(oC z).bind fun k=>if k=true then(b a).bind fun w=>h' y w else some (.bool false)
inductive Ci(K:PySem.W.Frag)(h:D->D->Option D)(x y:V)(H:Hp)(Q:VK):Prop
 | mk (F:JY->Prop) (d e r:D) (z:∀ a,F a->H a≠none) (R1:aV K F H d x) (R2:aV K F H e y) (q:h d e=some r) (k:∀ F' H' v,aM F F' H H'->aV K F' H' r v->Q v H'):Ci K h x y H Q
def cU(K:PySem.W.Frag)(h:D->D->Option D):R2:=fun x y H Q=>Ci K h x y H Q
inductive Ch(K:PySem.W.Frag)(h:D->Option D)(x:V)(H:Hp)(Q:VK):Prop
 | mk (F:JY->Prop) (d r:D) (z:∀ a,F a->H a≠none) (R1:aV K F H d x) (q:h d=some r) (k:∀ F' H' v,aM F F' H H'->aV K F' H' r v->Q v H'):Ch K h x H Q
def CD(K:PySem.W.Frag)(h:D->Option D):V->Hp->VK->Prop:=fun x H Q=>Ch K h x H Q
inductive Cj(K:PySem.W.Frag)(h:List D->Option D)(xs:List V)(H:Hp)(Q:VK):Prop
 | mk (F:JY->Prop) (ds:List D) (r:D) (z:∀ a,F a->H a≠none) (R1:Reps K F H ds xs) (q:h ds=some r) (k:∀ F' H' v,aM F F' H H'->aV K F' H' r v->Q v H'):Cj K h xs H Q
def gS(K:PySem.W.Frag)(h:List D->Option D):List V->Hp->VK->Prop:=fun a H Q=>Cj K h a H Q
section
variable {X:Cx}{a b c e:Expr}{es:List Expr}{ga gb gc:aA->Option D}{pos p:Pos}
theorem aN{d c:Type}{o:Option d}{f:d->Option c}{b:c}(h:o.bind f=some b):∃ a,o=some a/\f a=some b:=by
 cases o with
 | none=>cases h
 | some a=>exact⟨a,rfl,h⟩
theorem vJ{v:V}{d:D}(h:PE X e (tC v))(r:∀ K F H,aV K F H d v):DE X e (eC d):=
 eQ h fun c H Q b=>by
  obtain⟨F,a,f,g,S,q,k⟩:=b;cases q;exact k F H v (aM.refl F H) (r _ _ _)
theorem aI{i:Int}{j:Nat}:DE X (.Constant (.int i) j pos) (eC (.int i)):=vJ Pj fun _ _ _=>.int i
theorem iV{i:Bool}{j:Nat}:DE X (.Constant (.bool i) j pos) (eC (.bool i)):=vJ K4 fun _ _ _=>.bl i
theorem Aj{j:Nat}:DE X (.Constant .none j pos) (eC .none):=vJ Pl fun _ _ _=>.non
theorem r8{x:Str}{j:Nat}:DE X (.Constant (.str x) j pos) (eC (.str x)):=vJ Hg fun _ _ _=>.str x
theorem aD(i:Nat){x:Str}(j:X.N[i]?=some x:=by rfl)(f:i7 X.env.scope x:=by first | exact ZD rfl | exact Zp (ZD rfl) | exact Zp (Zp rfl))(h:(x == ("__debug__":Str))=false:=by decide)
  (a:(x == ("__classdict__":Str))=false:=by decide):DE X (.Name x pos) (eV i):=
 eQ (mG j f h a) fun l H Q c=>by
  obtain⟨F,b,m,d,S,q,k⟩:=c;unfold eV at q
  split at q
  ·rename_i n e;cases q;obtain⟨v,g,r⟩:=S.dat e
   exact⟨v,g,k F H v (aM.refl F H) r⟩
  ·cases q
theorem uY{h:D->D->Option D}{σ:L2.St}{H:Hp}{Q:VK}(q:tD X.K (aE h ga gb) σ H Q):qV (cU X.K h) (tD X.K ga) (tD X.K gb) σ H Q:=by
 obtain⟨F,a,b,d,S,q,k⟩:=q;obtain⟨x,e,q⟩:=aN q;obtain⟨y,c,q⟩:=aN q
 exact⟨F,a,b,x,S,e,fun l o v E1 R1=>⟨l,a,b,y,S.ext E1,c,fun j n u E2 R2=>⟨j,x,y,d,((S.ext E1).ext E2).fz,R1.stay E2.stay,R2,q,fun i g w m f=>k i g w (E1.trans (E2.trans m)) f⟩⟩⟩
theorem bE{op:Operator}{h:D->D->Option D}(c:bO X (Zt op) (cU X.K h))(e:DE X a ga)(d:DE X b gb):DE X (.BinOp a op b pos) (aE h ga gb):=
 eQ (K5 c e d) fun _ _ _ q=>uY q
theorem vI{op:CmpOp}{h:D->D->Option D}(c:bO X (J9 op) (cU X.K h))(f:DE X a ga)(e:DE X b gb)(d:Z7 op b=false):DE X (.Compare a [op] [b] pos) (aE h ga gb):=
 eQ (PY c f e d) fun _ _ _ q=>uY q
theorem aS{h:D->D->Option D}(c:fW X (cU X.K h))(e:DE X a ga)(d:DE X b gb)(hs:rW b:=by exact fun _ _=>rfl):DE X (.Subscript a b pos) (aE h ga gb):=
 eQ (wE c e d hs) fun _ _ _ q=>uY q
theorem gX{op:UnaryOp}{h:D->Option D}(f:mQ X (unaryOp op) (CD X.K h))(g:DE X a ga):DE X (.UnaryOp op a pos) (dJ h ga):=
 eQ (K6 f g) fun r H Q e=>by
  obtain⟨F,b,c,d,S,q,k⟩:=e;obtain⟨x,i,q⟩:=aN q
  exact⟨F,b,c,x,S,i,fun o s v E1 l=>⟨o,x,d,(S.ext E1).fz,l,q,fun n m w p j=>k n m w (E1.trans p) j⟩⟩
theorem sW{K:PySem.W.Frag}{F:JY->Prop}{H:Hp}{d:D}{v:V}{b:Bool}(r:aV K F H d v)(h:oC d=some b):v=.bl b:=by
 cases r with
 | bl c=>cases h;rfl
 | _=>cases h
theorem R5{K:PySem.W.Frag}{F:JY->Prop}{H:Hp}{d:D}{v:V}{i:Int}(r:aV K F H d v)(h:Cq d=some i):v=.int i:=by
 cases r with
 | int c=>cases h;rfl
 | _=>cases h
theorem Gu{t:TE}{g:aA->Option D}(m:∀ σ H Q,tD X.K g σ H Q->t σ H Q){σ:L2.St}{H:Hp}{Q:Bool->Hp->Prop}(q:oS X.K (eB g) σ H Q):Ay t σ H Q:=by
 obtain⟨F,a,c,b,S,q,k⟩:=q;obtain⟨d,e,q⟩:=aN q;exact m σ H _ ⟨F,a,c,d,S,e,fun i h v j f=>⟨b,sW f q,k i h j⟩⟩
theorem cN{op:CmpOp}{h:D->D->Option D}(c:bO X (J9 op) (cU X.K h))(f:DE X a ga)(e:DE X b gb)(d:Z7 op b=false):DT X (.Compare a [op] [b] pos) (eB (aE h ga gb)):=
 wH (SK c f e d) fun _ _ _ q=>Gu (fun _ _ _=>uY) q
theorem Gq{h h':D->D->Option D}{σ:L2.St}{H:Hp}{Q:VK}(q:tD X.K (jZ h h' ga gb gc) σ H Q):Ax (cU X.K h) (cU X.K h') (tD X.K ga) (tD X.K gb) (tD X.K gc) σ H Q:=by
 obtain⟨F,a,b,d,S,q,k⟩:=q;obtain⟨x,n,q⟩:=aN q;obtain⟨y,m,q⟩:=aN q;obtain⟨z,l,q⟩:=aN q;obtain⟨e,j,q⟩:=aN q
 refine⟨F,a,b,x,S,n,fun G O v E1 R1=>⟨G,a,b,y,S.ext E1,m,fun E N u E2 R2=>⟨E,x,y,z,((S.ext E1).ext E2).fz,R1.stay E2.stay,R2,l,fun f t w E3 r=>⟨e,sW r j,?_⟩⟩⟩⟩
 cases e with
 | false=>
  simp only [Qq,if_false]at q ⊢;cases q;exact k f t _ (E1.trans (E2.trans E3)) (.bl false)
 | true=>
  simp only [if_true]at q ⊢;obtain⟨c,i,q⟩:=aN q;have S3:=((S.ext E1).ext E2).ext E3
  exact⟨f,a,b,c,S3,i,fun B M J E4 p=>⟨B,y,c,d,(S3.ext E4).fz,(R2.stay E3.stay).stay E4.stay,p,q,fun A s g I o=>k A s g (E1.trans (E2.trans (E3.trans (E4.trans I)))) o⟩⟩
theorem Dm{op d:CmpOp}{h h':D->D->Option D}(f:bO X (J9 op) (cU X.K h))(e:bO X (J9 d) (cU X.K h'))(k:DE X a ga)(j:DE X b gb)(i:DE X c gc)
  (g:lastMarks [op,d] [b,c]=false:=by with_unfolding_all rfl):DE X (.Compare a [op,d] [b,c] pos) (jZ h h' ga gb gc):=
 eQ (PX f e k j i g) fun _ _ _ q=>Gq q
theorem EF{op d:CmpOp}{h h':D->D->Option D}(f:bO X (J9 op) (cU X.K h))(e:bO X (J9 d) (cU X.K h'))(k:DE X a ga)(j:DE X b gb)(i:DE X c gc)
  (g:lastMarks [op,d] [b,c]=false:=by with_unfolding_all rfl):DT X (.Compare a [op,d] [b,c] pos) (eB (jZ h h' ga gb gc)):=
 wH (SJ f e k j i g) fun _ _ _ q=>Gu (fun _ _ _=>Gq) q
theorem n9(g:DE X a ga)(he:∀ whole,isTrue a X.env whole=(do let v <- whole;standAt a.pos;U5 [v] (truthy v)):=by intro _;rfl):DT X a (eB ga):=
 wH (RG g he) fun n H Q f=>by
  obtain⟨F,c,e,b,S,q,k⟩:=f;obtain⟨d,h,q⟩:=aN q
  exact⟨F,c,e,d,S,h,fun l j v m i=>⟨b,sW i q,k l j m⟩⟩
variable {t u:aA->Option Bool}{rest:List Expr}
theorem An(b:DT X a t):DW X (.BoolOp .And [a] pos) t:=RO b
theorem qW(b:DT X a t):DW X (.BoolOp .Or [a] pos) t:=RP b
theorem Am(i:DT X a t)(h:DW X (.BoolOp .And (b::rest) pos) u):DW X (.BoolOp .And (a::b::rest) pos) (jR t u):=
 Hx (RN i h) fun p H Q g=>by
  obtain⟨F,c,e,r,S,q,k⟩:=g;obtain⟨d,j,q⟩:=aN q
  refine⟨F,c,e,d,S,j,fun f m E1=>?_⟩
  cases d with
  | true=>simp only [if_true]at q ⊢;exact⟨f,c,e,r,S.ext E1,q,fun n l o=>k n l (E1.trans o)⟩
  | false=>simp only [Qq,if_false]at q ⊢;cases q;exact k f m E1
theorem pH(i:DT X a t)(h:DW X (.BoolOp .Or (b::rest) pos) u):DW X (.BoolOp .Or (a::b::rest) pos) (gQ t u):=
 Hx (La i h) fun p H Q g=>by
  obtain⟨F,c,e,r,S,q,k⟩:=g;obtain⟨d,j,q⟩:=aN q
  refine⟨F,c,e,d,S,j,fun f m E1=>?_⟩
  cases d with
  | false=>simp only [Qq,if_false]at q ⊢;exact⟨f,c,e,r,S.ext E1,q,fun n l o=>k n l (E1.trans o)⟩
  | true=>simp only [if_true]at q ⊢;cases q;exact k f m E1
theorem lP(h:DW X a t):DT X a t:=PW.pt h
theorem pG(f:DT X a t):DT X (.UnaryOp .Not a pos) (hY t):=
 wH (RF f) fun l H Q e=>by
  obtain⟨F,b,c,r,S,q,k⟩:=e;obtain⟨d,g,q⟩:=aN q;cases q
  exact⟨F,b,c,d,S,g,fun i h j=>k i h j⟩
theorem vK{op:BoolOp}(b:DE X a ga):DE X (.BoolOp op [a] pos) ga:=Pn b
theorem vG(j:DE X a ga)(i:DE X (.BoolOp .And (b::rest) pos) gb):DE X (.BoolOp .And (a::b::rest) pos) (lG ga gb):=
 eQ (PU j i) fun u H Q h=>by
  obtain⟨F,e,f,r,S,q,k⟩:=h;obtain⟨d,m,q⟩:=aN q;obtain⟨c,l,q⟩:=aN q
  refine⟨F,e,f,d,S,m,fun g p v E1 n=>⟨c,sW n l,?_⟩⟩
  cases c with
  | true=>simp only [if_true]at q ⊢;exact⟨g,e,f,r,S.ext E1,q,fun s o w t R2=>k s o w (E1.trans t) R2⟩
  | false=>simp only [Qq,if_false]at q ⊢;cases q;exact k g p _ E1 (.bl false)
theorem N4(g:DE X a ga):DE X (.UnaryOp .Not a pos) (EG ga):=
 eQ (Pm g) fun o H Q f=>by
  obtain⟨F,b,e,r,S,q,k⟩:=f;obtain⟨d,i,q⟩:=aN q;obtain⟨c,h,q⟩:=aN q;cases q
  exact⟨F,b,e,d,S,i,fun m l v n j=>⟨c,sW j h,k m l _ n (.bl _)⟩⟩
theorem Dn(m:DT X c t)(o:DE X a ga)(n:DE X b gb):DE X (.IfExp c a b pos) (xZ t ga gb):=
 eQ (Pi m o n) fun s H Q l=>by
  obtain⟨F,e,f,r,S,q,k⟩:=l;obtain⟨d,p,q⟩:=aN q
  refine⟨F,e,f,d,S,p,fun j u E1=>?_⟩
  cases d with
  | true=>simp only [if_true]at q ⊢;exact⟨j,e,f,r,S.ext E1,q,fun h g w i R2=>k h g w (E1.trans i) R2⟩
  | false=>simp only [Qq,if_false]at q ⊢;exact⟨j,e,f,r,S.ext E1,q,fun h g w i R2=>k h g w (E1.trans i) R2⟩
variable {gr:aA->Option (List D)}
theorem aL:DA X [] aG:=Fr nJ fun c H Q b=>by
 obtain⟨F,a,e,d,S,q,k⟩:=b;cases q;exact k F H [] (aM.refl F H) .nil
theorem Dk(h:DE X e ga)(g:DA X es gr)(hs:J0 (e::es) X.env=(false,Zs e X.env)::J0 es X.env:=by rfl):DA X (e::es) (aB ga gr):=
 Fr (k4 h g hs) fun o H Q c=>by
  obtain⟨F,a,b,d,S,q,k⟩:=c;obtain⟨x,j,q⟩:=aN q;obtain⟨f,i,q⟩:=aN q;cases q
  exact⟨F,a,b,x,S,j,fun n r v E1 R1=>⟨n,a,b,f,S.ext E1,i,fun m l p E2 R2=>k m l _ (E1.trans E2) (.cons (R1.stay E2.stay) R2)⟩⟩
theorem gE{n:Nat}(h:n<=1000):n<=sizeLine:=Yu (wX h)
theorem N6{x1}(h:DA X es gr):DE X (.Tuple es x1 pos) (bV gr):=
 eQ (Pp h) fun l H Q g=>by
  obtain⟨F,a,f,d,S,q,k⟩:=g;obtain⟨c,i,q⟩:=aN q
  refine⟨F,a,f,c,S,i,fun j n m E1 R1=>?_⟩
  by_cases b:c.length<=1000
  ·rw [if_pos b]at q;cases q
   refine⟨gE (by rw [<- R1.length];exact b),fun p e=>k j _ _ (E1.trans (aM.fresh e)) (aV.newTup e R1)⟩
  ·rw [if_neg b]at q;cases q
theorem kG(h:DA X es gr):DE X (.List es pos) (fY gr):=
 eQ (Hf h) fun j H Q g=>by
  obtain⟨F,a,f,d,S,q,k⟩:=g;obtain⟨c,i,q⟩:=aN q
  refine⟨F,a,f,c,S,i,fun n m l E1 R1=>?_⟩
  by_cases b:c.length<=1000
  ·rw [if_pos b]at q;cases q
   refine⟨gE (by rw [<- R1.length];exact b),fun p e=>k _ _ _ (E1.trans (aM.frozen e)) (aV.newLst e R1)⟩
  ·rw [if_neg b]at q;cases q
theorem Gs{h:List D->Option D}{σ:L2.St}{H:Hp}{Q:VK}(q:tD X.K (aJ h gr) σ H Q):zH (gS X.K h) (CI X.K gr) σ H Q:=by
 obtain⟨F,a,c,d,S,q,k⟩:=q;obtain⟨b,e,q⟩:=aN q
 exact⟨F,a,c,b,S,e,fun j n m E1 f=>⟨j,b,d,(S.ext E1).fz,f,q,fun i g w l R2=>k i g w (E1.trans l) R2⟩⟩
theorem eN{id:String}{x:Str}{h:List D->Option D}(g:dW X (.builtin id) (gS X.K h))(f:Gl X x)(d:X.mg x=none)(b:Zk x=some (.builtin id))(i:DA X (e::es) gr)(c:x≠"__name__":=by decide)(a:(x == ("__debug__":Str))=false:=by decide)
  (he:J0 (e::es) X.env=(false,Zs e X.env)::J0 es X.env:=by rfl) (hpl:(Zo pos (J0 es X.env)).any (·.1)=false:=by rfl):DE X (.Call (.Name x p) (e::es) [] pos) (aJ h gr):=
 eQ (Hb g f d b i c a he hpl) fun _ _ _ q=>Gs q
theorem vH{T:String}{x:Str}{h:List D->Option D}(g:dW X (.type T) (gS X.K h))(f:Gl X x)(d:X.mg x=none)(b:Zk x=some (.type T))(i:DA X (e::es) gr)(c:x≠"__name__":=by decide)(a:(x == ("__debug__":Str))=false:=by decide)
  (he:J0 (e::es) X.env=(false,Zs e X.env)::J0 es X.env:=by rfl) (hpl:(Zo pos (J0 es X.env)).any (·.1)=false:=by rfl):DE X (.Call (.Name x p) (e::es) [] pos) (aJ h gr):=
 eQ (Hc g f d b i c a he hpl) fun _ _ _ q=>Gs q
def aW(K:PySem.W.Frag)(n:Nat)(G:List D->Option D):Sp:=fun b H Q _=>∃(F:JY->Prop) (ds:List D) (d:D),ds.length=n/\(∀ a,F a->H a≠none)/\Reps K F H ds b/\G ds=some d/\∀ F' H' v,aM F F' H H'->aV K F' H' d v->Q v H'
theorem N0{k n:Nat}{f:JY}{i:Zu}{h:List Str}{x:Str}{G:List D->Option D}(F:aQ X.prog X.w X.K X.mg X.base aR k f i h (aW X.K n G))(o:dC k X.A)(t:Gl X x)(r:X.mg x=some (.ref f))(s:PySem.W.keepIn X.K (.ref f)=true)(u:Binds X.K i h [])
  (v:DA X (e::es) gr) (c:∀ ρ ds,gr ρ=some ds->ds.length=n) (g:(x == ("__debug__":Str))=false:=by decide) (he:J0 (e::es) X.env=(false,Zs e X.env)::J0 es X.env:=by rfl) (hpl:(Zo pos (J0 es X.env)).any (·.1)=false:=by rfl):
  DE X (.Call (.Name x p) (e::es) [] pos) (aJ G gr):=
 eQ (Ha (E:=E0) F o t r s u .nil G7 v g he hpl) fun N H Q l=>by
  obtain⟨F,a,ρ,d,S,q,k⟩:=l;obtain⟨b,j,q⟩:=aN q
  exact⟨F,a,ρ,b,S,j,fun J B m E1 y=>by
   show aW X.K n G (m++[]) B Q E0
   rw [Yg]
   exact⟨J,b,d,c ρ b j,(S.ext E1).fz,y,q,fun I z w M R2=>k I z w (E1.trans M) R2⟩⟩
theorem NB{ρ:aA}{ds:List D}(h:aG ρ=some ds):ds.length=0:=by cases h;rfl
theorem vO{n:Nat}(h':∀ ρ ds,gr ρ=some ds->ds.length=n)(ρ:aA)(ds:List D)(h:aB ga gr ρ=some ds):ds.length=n+1:=by
 obtain⟨x,c,q⟩:=aN h;obtain⟨a,b,q⟩:=aN q;cases q
 simp [h' ρ a b]
end
end DL
namespace EX
open PySem.Spec L2
def H0(h:Heap)(e:JY)(cls:Value)(a:Option JY):Prop:=
 ∃ oe vs,h.get? e=some oe/\oe.cls=cls/\oe.data=.fields vs/\match a with
  | none=>vs[1]?=some .none
  | some T=>vs[1]?=some (.ref T)/\T≠e/\∃ oT ts,h.get? T=some oT/\oT.data=.fields ts/\ts[3]?=some .none
structure ThrownC(X:Cx)(pins:List (JY × Obj))(H:Hp)(s:YP)(a:JY)(cls:Value)(tr:Option JY):Prop where
 fly:H0 s.heap a cls tr
 new:∀ b,(b=a ∨ some b=tr)->X.s₀.heap.get? b=none/\H b=none/\b≠X.env.locals/\(∀ x c,X.env.cells.lookup x=some c->c≠b)/\∀ p∈X.pn++pins,p.1≠b
section
variable {M:Model}{A:Around}{E:Value->YP->Prop}{s:YP}
end
end EX
namespace DL
open PySem.Spec L2
inductive aP where
 | nx (ρ:aA)
 | rt (d:D)
 | bk (ρ:aA)
 | ct (ρ:aA)
 | ex (x:Str) (ρ:aA)
theorem cK.refl(K:PySem.W.Frag)(F:JY->Prop)(H:Hp):cK K F F H H:=⟨fun _ h=>h,fun _ _ h=>h,fun _ _ _ h=>h,fun _ _ _ h=>h⟩
theorem cK.trans{K:PySem.W.Frag}{F i g:JY->Prop}{H e H2:Hp}(a:cK K F i H e)(b:cK K i g e H2):cK K F g H H2:=
 ⟨fun x h=>b.up x (a.up x h),fun x c h=>b.tp x c (a.tp x c h),fun x c f h=>b.ls x c (a.up x f) (a.ls x c f h),fun x d f h=>b.xt x d (a.up x f) (a.xt x d f h)⟩
def rV(X:Cx)(b:JY->Prop)(H₀:Hp)(F:JY->Prop)(H:Hp)(W:kN):aP->Prop
 | .nx ρ=>∀ F' H' σ,aM b F' H₀ H'->cK X.K F F' H H'->bL X.K F' H' H₀ σ ρ->W.nx σ H'
 | .rt d=>∀ F' H' v,aM b F' H₀ H'->aV X.K F' H' d v->W.rt v H'
 | .bk ρ=>∀ F' H' σ,aM b F' H₀ H'->cK X.K F F' H H'->bL X.K F' H' H₀ σ ρ->W.bk σ H'
 | .ct ρ=>∀ F' H' σ,aM b F' H₀ H'->cK X.K F F' H H'->bL X.K F' H' H₀ σ ρ->W.ct σ H'
 | .ex x ρ=>∀ F' H' σ pins s a C tr,aM b F' H₀ H'->bL X.K F' H' H₀ σ ρ->Inv X pins σ H' s->PySem.W.nsIn X.K Za x=some (some (.ref C))->EX.ThrownC X pins H' s a (.ref C) tr->X.xe (.ref a) s
theorem rV.from{X:Cx}{a F h:JY->Prop}{H₀ H g:Hp}{W:kN}{o:aP}(T:cK X.K F h H g)(k:rV X a H₀ F H W o):rV X a H₀ h g W o:=by
 cases o with
 | nx ρ=>exact fun f e b E c S=>k f e b E (T.trans c) S
 | rt d=>exact k
 | bk ρ=>exact fun f e b E c S=>k f e b E (T.trans c) S
 | ct ρ=>exact fun f e b E c S=>k f e b E (T.trans c) S
 | ex x ρ=>exact k
inductive Cn(X:Cx)(g:aA->Option aP)(W:kN)(σ:L2.St)(H:Hp):Prop
 | mk (F₀:JY->Prop) (H₀:Hp) (F:JY->Prop) (ρ:aA) (o:aP) (E:aM F₀ F H₀ H) (S:bL X.K F H H₀ σ ρ) (q:g ρ=some o) (k:rV X F₀ H₀ F H W o):Cn X g W σ H
def uR(X:Cx)(g:aA->Option aP):TS:=fun W a H=>Cn X g W a H
def DS(X:Cx)(a:Zj)(g:aA->Option aP):Prop:=PS X a (uR X g)
def iL(X:Cx)(a:List Zj)(g:aA->Option aP):Prop:=fX X a (uR X g)
def aO(c b:aA->Option aP):aA->Option aP:=fun a=>(c a).bind fun o=>match o with
 | .nx ρ'=>b ρ'
 | o=>some o
def cR:aA->Option aP:=fun a=>some (.nx a)
def bN(g:aA->Option D):aA->Option aP:=fun a=>(g (a.map frz)).bind fun d=>some (.rt d)
def bQ(i:Nat)(g:aA->Option D):aA->Option aP:=fun a=>(g a).bind fun d=>some (.nx (a.set i (.dat d)))
def jW(i:Nat)(g:aA->Option (List D)):aA->Option aP:=fun a=>(g a).bind fun b=>if b.length<=1000 then some (.nx (a.set i (.own b)))else none
def A4(i:Nat)(ρ:aA):aA:=match ρ[i]? with
 | some (.own ds)=>ρ.set i (.dat (.list ds))
 | _=>ρ
def jV(i:Nat)(g:aA->Option aP):aA->Option aP:=fun a=>g (A4 i a)
def cG(t:aA->Option Bool)(d c:aA->Option aP):aA->Option aP:=fun a=>(t (a.map frz)).bind fun b=>if b=true then d a else c a
def iJ(g:aA->Option D):aA->Option aP:=fun a=>(g a).bind fun _=>some (.nx a)
def jF(i:Nat)(g:aA->Option D):aA->Option aP:=fun a=>match a[i]? with
 | some (.own ds)=>(g a).bind fun d=>if ds.length<1000 then some (.nx (a.set i (.own (ds++[d]))))else none
 | _=>none
def i5(t:aA->Option Bool)(g:aA->Option aP):Nat->aA->Option aP
 | 0,_=>none
 | n+1,ρ=>(t (ρ.map frz)).bind fun b=>if b=true then(g ρ).bind fun o=>match o with
   | .nx ρ'=>i5 t g n ρ'
   | .ct ρ'=>i5 t g n ρ'
   | .bk ρ'=>some (.nx ρ')
   | .rt d=>some (.rt d)
   | .ex x ρ'=>some (.ex x ρ')
  else some (.nx ρ)
def fZ(s:D->aA->Option aA)(g:aA->Option aP):List D->aA->Option aP
 | [],ρ=>some (.nx ρ)
 | d::ds,ρ=>(s d ρ).bind fun a=>(g a).bind fun o=>match o with
   | .nx ρ'=>fZ s g ds ρ'
   | .ct ρ'=>fZ s g ds ρ'
   | .bk ρ'=>some (.nx ρ')
   | .rt d=>some (.rt d)
   | .ex x ρ'=>some (.ex x ρ')
def eM(gi:aA->Option (List D))(s:D->aA->Option aA)(g:aA->Option aP):aA->Option aP:=fun a=>(gi a).bind fun b=>fZ s g b a
section
variable {X:Cx}{e a b c tg:Expr}{es:List Expr}{st:Zj}{rest body orelse:List Zj}{g g1 g2 gb:aA->Option aP}{ga:aA->Option D}{gr:aA->Option (List D)}{t:aA->Option Bool}{pos p:Pos}
theorem eG:iL X [] cR:=AO SH fun W c H d=>by
 obtain⟨b,a,F,e,o,E,S,q,k⟩:=d;cases q;exact k F H c E (cK.refl _ F H) S
theorem RB{a:JY->Prop}{H₀:Hp}{F:JY->Prop}{ρ:aA}{o:aP}{W:kN}{σ:L2.St}{H:Hp}(E:aM a F H₀ H)(S:bL X.K F H H₀ σ ρ)(q:aO g1 g2 ρ=some o)(k:rV X a H₀ F H W o):uR X g1 { W with nx:=uR X g2 W } σ H:=by
 obtain⟨b,e,q⟩:=aN q
 refine⟨a,H₀,F,ρ,b,E,S,e,?_⟩
 cases b with
 | nx ρ'=>exact fun h j c i f g=>⟨a,H₀,h,ρ',o,i,g,q,k.from f⟩
 | rt d=>cases q;exact k
 | bk ρ'=>cases q;exact k
 | ct ρ'=>cases q;exact k
 | ex x ρ'=>cases q;exact k
theorem aY(d:DS X st g1)(c:iL X rest g2):iL X (st::rest) (aO g1 g2):=
 AO (SF d c) fun W e H ⟨b,a,F,f,o,E,S,q,k⟩=>RB E S q k
theorem bC(a:DS X st g):iL X [st] g:=SI a
theorem aM.thaw{K:PySem.W.Frag}{c F k:JY->Prop}{H₀ H H':Hp}{σ:L2.St}{ρ:aA}(E:aM c F H₀ H)(S:bL K F H H₀ σ ρ)(E':aM (fun a=>F a ∨ gH σ ρ a) k H H'):aM c k H₀ H':=
 ⟨E.same.trans E'.same,fun a f=>E'.up a (.inl (E.up a f)),fun a f=>by
  rcases E'.new a f with(f | ⟨i,p,e,d⟩ | ⟨i,p,e,d⟩) | ⟨n,m⟩
  ·rcases E.new a f with f | ⟨f,o⟩
   ·exact .inl f
   ·exact .inr ⟨f,fun z=>o (E'.same.free z)⟩
  ·obtain⟨b,l,j,h,_,g,_⟩:=S.own e;rw [j]at d;cases d;exact .inr ⟨g,by rw [E'.same _ _ h];simp⟩
  ·obtain⟨b,l,q,j,h,_,g,_⟩:=S.ownD e;rw [j]at d;cases d;exact .inr ⟨g,by rw [E'.same _ _ h];simp⟩
  ·exact .inr ⟨E.same.free n,m⟩⟩
theorem bT(g:DE X e ga):DS X (.Return (some e) pos) (bN ga):=ps_mono (Sz g) fun W n H f=>by
 obtain⟨b,a,F,c,o,E,S,q,k⟩:=f;obtain⟨d,h,q⟩:=aN q;cases q
 exact⟨_,a,c.map frz,d,S.frz,h,fun l j v m i=>k l j v (E.thaw S m) i⟩
theorem cD{i:Nat}{x:Str}{a:Pos}(n:X.N.Nodup)(m:DE X e ga)(j:X.N[i]?=some x:=by rfl)(h:i6 X.env.scope x:=by first | exact ZD rfl | exact Zp rfl)(hs:ZB e (some (.Name x a)) pos.line X.env=pure false:=by rfl)(l:X.fn x=true ∨ X.env.scope.names.lookup x=some .local:=by first | exact .inl rfl | exact .inr rfl | assumption):
  DS X (.Assign [.Name x a] e pos) (bQ i ga):=ps_mono (k6 n j h m hs l) fun W u H g=>by
 obtain⟨c,b,F,f,o,E,S,q,k⟩:=g;obtain⟨d,p,q⟩:=aN q;cases q
 exact⟨F,b,f,d,S,p,fun t s v E' r=>k t s _ (E.trans E') E'.stay ((S.ext E').put r)⟩
theorem aM.lend{K:PySem.W.Frag}{F h:JY->Prop}{H H₀ H':Hp}{σ:L2.St}{ρ:aA}(S:bL K F H H₀ σ ρ)(E':aM (fun a=>F a ∨ gH σ ρ a) h H H'):aM F (fun a=>h a/\¬ gH σ ρ a) H H':=
 ⟨E'.same,fun a f=>⟨E'.up a (.inl f),fun z=>by
   rcases z with⟨i,m,d,c⟩ | ⟨i,m,d,c⟩
   ·obtain⟨b,k,g,l,e,_⟩:=S.own d;rw [g]at c;cases c;exact e f
   ·obtain⟨b,k,o,g,l,e,_⟩:=S.ownD d;rw [g]at c;cases c
    exact e f⟩,fun a j=>by
  obtain⟨f,n⟩:=j;rcases E'.new a f with(f | f) | f
  ·exact .inl f
  ·exact absurd f n
  ·exact .inr f⟩
theorem l7{i:Nat}{x:Str}{b a:Pos}(r:X.N.Nodup)(p:DA X es gr)(m:X.N[i]?=some x:=by rfl)(l:i6 X.env.scope x:=by first | exact ZD rfl | exact Zp rfl)(hs:ZB (.List es a) (some (.Name x b)) pos.line X.env=pure false:=by rfl)(n:X.fn x=true ∨ X.env.scope.names.lookup x=some .local:=by first | exact .inl rfl | exact .inr rfl | assumption):
  DS X (.Assign [.Name x b] (.List es a) pos) (jW i gr):=ps_mono (k6 r m l (Hf p) hs n) fun W u H j=>by
 obtain⟨g,c,F,h,o,E,S,q,k⟩:=j;obtain⟨f,s,q⟩:=aN q;by_cases e:f.length<=1000
 ·rw [if_pos e]at q;cases q
  refine⟨F,c,h,f,S,s,fun t y v E' R'=>⟨gE (by rw [<- R'.length];exact e),fun w d=>?_⟩⟩
  exact k t _ _ ((E.trans E').trans (aM.fresh d)) (E'.stay.trans (aM.fresh d).stay) ((S.ext E').putOwn d ((E.trans E').same.free d) R')
 ·rw [if_neg e]at q;cases q
theorem vN(i:Nat)(h:iL X rest g):iL X rest (jV i g):=AO h fun W m H e=>by
 obtain⟨c,b,F,d,o,E,S,q,k⟩:=e;unfold jV A4 at q
 split at q
 ·rename_i n l;obtain⟨a,j,S'⟩:=S.frz1 l
  refine⟨c,b,_,_,o,⟨E.same,fun x f=>.inl (E.up x f),fun x f=>?_⟩,S',q,k.from ⟨fun _ f=>.inl f,fun _ _ f=>f,fun _ _ _ f=>f,fun _ _ _ f=>f⟩⟩
  rcases f with f | rfl
  ·exact E.new x f
  ·exact .inr ⟨j,S'.fz x (.inr rfl)⟩
 ·exact⟨c,b,F,d,o,E,S,q,k⟩
theorem eF(f:DT X c t)(h:iL X body g1)(g:iL X orelse g2):DS X (.If c body orelse pos) (cG t g1 g2):=ps_mono (K8 f h g) fun W j H e=>by
 obtain⟨b,a,F,d,o,E,S,q,k⟩:=e;obtain⟨r,i,q⟩:=aN q
 refine⟨_,a,d.map frz,r,S.frz,i,fun m l E'=>?_⟩
 have E2:=E'.lend S
 cases r with
 | true=>simp only [if_true]at q ⊢;exact⟨b,a,_,d,o,E.trans E2,S.ext E2,q,k.from E2.stay⟩
 | false=>simp only [Qq,if_false]at q ⊢;exact⟨b,a,_,d,o,E.trans E2,S.ext E2,q,k.from E2.stay⟩
theorem kI(h:DE X e ga)(hs:ZB e none pos.line X.env=pure false:=by rfl):DS X (.Expr e pos) (iJ ga):=ps_mono (wG h hs) fun W c H g=>by
 obtain⟨b,a,F,f,o,E,S,q,k⟩:=g;obtain⟨d,i,q⟩:=aN q;cases q
 exact⟨F,a,f,d,S,i,fun l j v E' m=>k l j c (E.trans E') E'.stay (S.ext E')⟩
theorem aM.turn{c F:JY->Prop}{H₀ H:Hp}{p:JY}{o:HO}(E:aM c F H₀ H)(e:H₀ p=none):aM c F H₀ (aZ H p o):=
 ⟨fun b u q=>by rw [bI (fV q e)];exact E.same b u q,E.up,fun a f=>by
  rcases E.new a f with f | ⟨h,g⟩
  ·exact .inl f
  ·refine .inr ⟨h,fun z=>?_⟩;by_cases d:a=p
   ·subst d;rw [dY]at z;cases z
   ·rw [bI d]at z;exact g z⟩
theorem sC{i:Nat}{x:Str}{b a:Pos}(R:DE X e ga)(U:X.N[i]?=some x:=by rfl)(O:i7 X.env.scope x:=by first | exact ZD rfl | exact Zp (ZD rfl) | exact Zp (Zp rfl))(Q:(x == ("__debug__":Str))=false:=by decide)
  (t:(x == ("__classdict__":Str))=false:=by decide) (h:J0 [e] X.env=(false,Zs e X.env)::J0 [] X.env:=by rfl)
  (g:ZY (.Name x p) "append" X.env (Zs (.Name x p) X.env)=Zs (.Name x p) X.env:=by rfl)
  (j:((Zo a (J0 [e] X.env)).all (fun x => !x.1) && (Ut a (ZN [] X.env)).all (fun x=>x.1.isSome)
   && decide ([e].length+([]:List Z1).length+(if([]:List Z1).isEmpty then 0 else 1)<30))=true:=by rfl)
  (f:(b.endLine == a.line)=true:=by rfl) (c:(Zo a (J0 [] X.env)).any (·.1)=false:=by rfl) (s:ZB (.Call (.Attribute (.Name x p) "append" b) [e] [] a) none pos.line X.env=pure false:=by rfl):
  DS X (.Expr (.Call (.Attribute (.Name x p) "append" b) [e] [] a) pos) (jF i ga):=
 ps_mono (wG (AK PySem.F.plainAttrs_list PySem.F.slot_list_append PySem.F.type_list_append AF (mG U O Q t) (k4 R nJ h) g j f h c) s) fun W G H J=>by
 obtain⟨B,m,F,I,o,E,S,q,k⟩:=J;unfold jF at q
 split at q
 ·rename_i ds u;obtain⟨d,Z,q⟩:=aN q;by_cases w:ds.length<1000
  ·rw [if_pos w]at q;cases q;obtain⟨l,vs,r,M,q3,K,q5⟩:=S.own u
   refine⟨_,r,.inl ⟨rfl,_,cJ.of M⟩,F,m,I,d,S,Z,fun F' H' v E' R'=>?_⟩
   have S':=S.ext E';obtain⟨l',n,A,z,Y,g4,y⟩:=S'.own u;rw [r]at A;cases A
   refine⟨l,n,v,rfl,rfl,z,wX (by rw [<- y.length];lia),?_⟩
   obtain⟨S2,T⟩:=S'.turn u r z Y (y.append (.cons R' .nil));exact k F' _ G ((E.trans E').turn K) (E'.stay.trans T) S2
  ·rw [if_neg w]at q;cases q
 ·cases q
end
end DL
namespace DL
open PySem.Spec L2
inductive Cm(K:PySem.W.Frag)(s:D->aA->Option aA)(v:V)(σ:L2.St)(H:Hp)(Q:L2.St->Hp->Prop):Prop
 | mk (F:JY->Prop) (H₀:Hp) (ρ:aA) (d:D) (ρ':aA) (S:bL K F H H₀ σ ρ) (R:aV K F H d v) (q:s d ρ=some ρ') (k:∀ σ',bL K F H H₀ σ' ρ'->Q σ' H):Cm K s v σ H Q
def zI(K:PySem.W.Frag)(s:D->aA->Option aA):TG:=fun v a H Q=>Cm K s v a H Q
def L0(K:PySem.W.Frag)(s:List D->aA->Option aA):kP:=fun b a H Q=>∃(F:JY->Prop) (H₀:Hp) (ρ:aA) (ds:List D) (ρ':aA),bL K F H H₀ a ρ/\Reps K F H ds b/\s ds ρ=some ρ'/\∀ σ',bL K F H H₀ σ' ρ'->Q σ' H
def DG(X:Cx)(a:Expr)(s:D->aA->Option aA):Prop:=PG X a (zI X.K s)
def tH(X:Cx)(a:List Expr)(s:List D->aA->Option aA):Prop:=mM X a (L0 X.K s)
def bM(i:Nat):D->aA->Option aA:=fun d a=>some (a.set i (.dat d))
def jX:List D->aA->Option aA
 | [],ρ=>some ρ
 | _::_,_=>none
def fG(c:D->aA->Option aA)(b:List D->aA->Option aA):List D->aA->Option aA
 | [],_=>none
 | d::ds,ρ=>(c d ρ).bind fun a=>b ds a
def jY(n:Nat)(s:List D->aA->Option aA):D->aA->Option aA
 | .tuple ds,ρ=>if ds.length=n then s ds ρ else none
 | _,_=>none
section
variable {X:Cx}{e tg:Expr}{es:List Expr}{pos:Pos}
theorem Hh{t t':TG}(h:PG X tg t)(m:∀ v σ H Q,t' v σ H Q->t v σ H Q):PG X tg t':=fun a s σ H v u Q I r q=>h a s σ H v u Q I r (m v σ H Q q)
theorem Hi{t t':kP}(h:mM X es t)(m:∀ v σ H Q,t' v σ H Q->t v σ H Q):mM X es t':=fun a s σ H v u Q I r q=>h a s σ H v u Q I r (m v σ H Q q)
theorem cV{i:Nat}{x:Str}(h:X.N.Nodup)(f:X.N[i]?=some x:=by rfl)(e:i6 X.env.scope x:=by first | exact ZD rfl | exact Zp rfl)(g:X.fn x=true ∨ X.env.scope.names.lookup x=some .local:=by first | exact .inl rfl | exact .inr rfl | assumption):DG X (.Name x pos) (bM i):=
 Hh (Se h f e g) fun v j H Q c=>by
  obtain⟨F,a,l,d,b,S,R,q,k⟩:=c;cases q;exact k _ (S.put R)
theorem sB:tH X [] jX:=Hi Sh fun v b H Q d=>by
 obtain⟨F,a,e,f,c,S,R,q,k⟩:=d
 cases R with
 | nil=>cases q;exact⟨rfl,k b S⟩
 | cons _ _=>cases q
theorem kH{f:D->aA->Option aA}{d:List D->aA->Option aA}(m:DG X e f)(l:tH X es d)
  (hs:(ZP (e::es) X.env).map (·.2)=assign e X.env::(ZP es X.env).map (·.2):=by rfl):tH X (e::es) (fG f d):=
 Hi (Sg m l hs) fun v p H Q i=>by
  obtain⟨F,a,h,s,c,S,R,q,k⟩:=i
  cases R with
  | nil=>cases q
  | cons r j=>
   obtain⟨b,n,q⟩:=aN q
   exact⟨_,_,rfl,F,a,h,_,b,S,r,n,fun g o=>⟨F,a,b,_,c,o,j,q,k⟩⟩
theorem sA{n k:Nat}{s:List D->aA->Option aA}(l:X.calm=true)(h:tH X es s)(j:(ZP es X.env).length=n:=by rfl)(f:(ZP es X.env).findIdx? (·.1)=none:=by rfl):DG X (.Tuple es k pos) (jY n s):=
 Hh (Sf l h j f) fun v m H Q i=>by
  obtain⟨F,c,e,d,ρ',S,R,q,k⟩:=i
  cases R with
  | @tup a vs ds hq r=>
   by_cases g:ds.length=n
   ·have b:(if ds.length=n then s ds e else none)=some ρ':=q;rw [if_pos g]at b
    exact⟨_,_,rfl,hq,by rw [<- r.length];exact g,F,c,e,_,ρ',S,r,b,k⟩
   ·have b:(if ds.length=n then s ds e else none)=some ρ':=q;rw [if_neg g]at b;cases b
  | non=>cases q
  | dct _ _ _ _ _=>cases q
  | exn _ _ _=>cases q
  | bl _=>cases q
  | int _=>cases q
  | str _=>cases q
  | lst _ _=>cases q
end
def qR(ga:aA->Option D)(s:D->aA->Option aA):aA->Option aP:=fun b=>(ga b).bind fun d=>(s d b).bind fun a=>some (.nx a)
section
variable {X:Cx}{e a b c tg iter:Expr}{es:List Expr}{st:Zj}{rest body orelse:List Zj}{g g1 g2 gb:aA->Option aP}{ga:aA->Option D}{gr:aA->Option (List D)}{t:aA->Option Bool}{pos p:Pos}
theorem Nw{s:D->aA->Option aA}(m:DE X e ga)(l:DG X tg s)(hs:swapsWithSole [tg] e pos.line X.env=pure false:=by rfl)(j:swappedStores [tg] e X.env=pure none:=by rfl)
  (n:(ZP [tg] X.env).map (·.2)=[assign tg X.env]:=by rfl):DS X (.Assign [tg] e pos) (qR ga s):=
 ps_mono (Sx m l hs j n) fun W x H i=>by
  obtain⟨g,a,F,f,o,E,S,q,k⟩:=i;obtain⟨d,r,q⟩:=aN q;obtain⟨c,p,q⟩:=aN q;cases q
  exact⟨F,a,f,d,S,r,fun h w v E' u=>⟨h,a,f,d,c,S.ext E',u,p,fun b t=>k h w b (E.trans E') E'.stay t⟩⟩
theorem vM(n:Nat)(I:PassesOwn (J1 X.prog X.w) X.A X.env X.xe)(J:DT X c t)(M:iL X body g):DS X (.While c body [] pos) (i5 t g n):=
 ps_mono (SE I J M) fun W T H G=>by
  obtain⟨f,a,z,y,o,E,S,q,k⟩:=G
  refine⟨fun m j v=>∃ F h,aM f F a v/\cK X.K z F H v/\bL X.K F v a j h/\i5 t g m h=some o,⟨n,z,y,E,cK.refl _ _ _,S,q⟩,?_⟩
  rintro m j v ⟨F,h,E',T',S',e⟩
  cases m with
  | zero=>cases e
  | succ m=>
   obtain⟨r,Q,e⟩:=aN e
   refine⟨_,a,h.map frz,r,S'.frz,Q,fun U R E2'=>?_⟩
   have E2:=E2'.lend S'
   cases r with
   | false=>
    simp only [Qq,if_false]at e ⊢;cases e;exact k _ R j (E'.trans E2) (T'.trans E2.stay) (S'.ext E2)
   | true=>
    simp only [if_true]at e ⊢;obtain⟨B,O,e⟩:=aN e
    refine⟨fun b i=>∃ F h,aM f F a i/\cK X.K z F H i/\bL X.K F i a b h/\i5 t g m h=some o,fun b i N=>⟨m,YC m,N⟩,f,a,_,h,B,E'.trans E2,S'.ext E2,O,?_⟩
    cases B with
    | nx ρ3=>exact fun s i b u l p=>⟨s,ρ3,u,(T'.trans E2.stay).trans l,p,e⟩
    | ct ρ3=>exact fun s i b u l p=>⟨s,ρ3,u,(T'.trans E2.stay).trans l,p,e⟩
    | bk ρ3=>cases e;exact fun s i b u l p=>k s i b u ((T'.trans E2.stay).trans l) p
    | rt d=>cases e;exact k
    | ex x ρ3=>cases e;exact k
def lL(K:PySem.W.Frag)(F:JY->Prop)(H:Hp)(ds:List D)(J:It):Prop:=
 ∀ F2 H2,cK K F F2 H H2->(∀ a,F2 a->H2 a≠none)->∀ i:Nat,(∀ d,ds[i]?=some d->J.go i H2/\∀ x H3,J.yld i H2 x H3->∃ F3,aM F2 F3 H2 H3/\aV K F3 H3 d x)/\(ds.length<=i->J.stop i H2)
def CJ(K:PySem.W.Frag)(gi:aA->Option (List D)):TI:=fun a H R=>mP K a H gi fun F b=>∀ F' H' J,aM F F' H H'->lL K F' H' b J->R J H'
def DI(X:Cx)(b a:Expr)(gi:aA->Option (List D)):Prop:=PI X b a (CJ X.K gi)
theorem AL{b wi':TI}(h:PI X tg iter b)(m:∀ σ H R,wi' σ H R->b σ H R):PI X tg iter wi':=fun a s σ H R I q=>h a s σ H R I (m σ H R q)
structure BG(K:PySem.W.Frag)(s:D->aA->Option aA)(g:aA->Option aP)(xs:List D)(o:aP)(F₀ F F1:JY->Prop)(H₀ H H1:Hp)(i:Nat)(σ2:L2.St)(H2:Hp)(F2:JY->Prop)(ρ2:aA):Prop where
 E:aM F₀ F2 H₀ H2
 T0:cK K F F2 H H2
 T1:cK K F1 F2 H1 H2
 S:bL K F2 H2 H₀ σ2 ρ2
 q:fZ s g (xs.drop i) ρ2=some o
theorem iE{gi:aA->Option (List D)}{s:D->aA->Option aA}(hp:PassesOwn (J1 X.prog X.w) X.A X.env X.xe)(hc:X.calm=true)(hi:DI X tg iter gi)(hg:DG X tg s)(hb:iL X body g)
  (hs:∀ x,Us iter X.env x=pure x:=by intro _;rfl):DS X (.For tg iter body [] pos) (eM gi s g):=
 ps_mono (Sy hp hc hi hg hb hs) fun W σ H zz=>by
  obtain⟨e,a,F,U,o,E,S,q,k⟩:=zz;obtain⟨b,e1,q⟩:=aN q
  refine⟨F,a,U,b,S,e1,fun T H1 J E1 I1=>?_⟩
  refine⟨fun i m l I=>m=b.length-i/\i<=b.length/\∃ M n,BG X.K s g b o e F T a H H1 i l I M n,
   ⟨b.length,rfl,QU _,T,U,E.trans E1,E1.stay,cK.refl _ _ _,S.ext E1,q⟩,?_⟩
  rintro i m l I ⟨rfl,a1,M,n,E2,T0,T1,S2,c⟩;obtain⟨Q,O⟩:=I1 M I T1 S2.fz i;by_cases f:i<b.length
  ·right
   have u:b[i]?=some b[i]:=by simp [f]
   obtain⟨go,N⟩:=Q _ u;rw [YF f]at c;obtain⟨t,e3,c⟩:=aN c;obtain⟨Y,e4,c⟩:=aN c
   refine⟨go,fun r Z=>∃ F4 ρ4,BG X.K s g b o e F T a H H1 (i+1) r Z F4 ρ4,fun r Z h=>⟨b.length-(i+1),by lia,rfl,f,h⟩,fun x H3 y=>?_⟩
   obtain⟨F3,E3,R3⟩:=N x H3 y
   refine⟨F3,a,n,b[i],t,S2.ext E3,R3,e3,fun a0 S5=>⟨e,a,F3,t,Y,E2.trans E3,S5,e4,?_⟩⟩
   have TT0:=T0.trans E3.stay;have TT1:=T1.trans E3.stay
   cases Y with
   | nx ρ6=>exact fun B R j G p z=>⟨B,ρ6,G,TT0.trans p,TT1.trans p,z,c⟩
   | ct ρ6=>exact fun B R j G p z=>⟨B,ρ6,G,TT0.trans p,TT1.trans p,z,c⟩
   | bk ρ6=>cases c;exact fun B R j G p z=>k B R j G (TT0.trans p) z
   | rt d=>cases c;exact k
   | ex x ρ6=>cases c;exact k
  ·left
   have v:b.length<=i:=JN f
   refine⟨O v,?_⟩
   rw [List.drop_eq_nil_of_le v]at c;cases c;exact k M I l E2 T0 S2
def oP:List D->Option (List D)
 | [.int j]=>if -4611686018427387904<=j/\j<4611686018427387904 then some ((J5 j.toNat).map fun(k:Nat)=>.int (0+(k:Int)))else none
 | _=>none
theorem OZ{K:PySem.W.Frag}{F:JY->Prop}{H:Hp}(a:Int)(n:Nat):lL K F H ((J5 n).map fun(k:Nat)=>.int (a+(k:Int))) (tL a n):=fun j m T z i=>by
 refine⟨fun d c=>?_,fun h=>?_⟩
 ·have e:i<n:=by
   have:=(Qf.mp c).1
   simpa using this
  have b:d=.int (a+(i:Int)):=by
   rw [QF,List.getElem?_range e]at c;cases c;rfl
  subst b
  refine⟨e,fun x l y=>?_⟩
  obtain⟨g,f⟩:=y;subst g f
  exact⟨j,aM.refl _ _,.int _⟩
 ·show n<=i
  simpa using h
theorem Ob(g:Gl X "range")(f:X.mg "range"=none)(h:DA X [a] gr)(hs:J0 [a] X.env=[(false,Zs a X.env)]:=by rfl):DI X tg (.Call (.Name "range" p) [a] [] pos) (fun ρ=>(gr ρ).bind oP):=
 AL (Sj g f h hs) fun s H R d=>by
  obtain⟨F,b,ρ,v,S,q,k⟩:=d;obtain⟨t,i,q⟩:=aN q;unfold oP at q
  split at q
  ·rename_i j;by_cases c:-4611686018427387904<=j/\j<4611686018427387904
   ·rw [if_pos c]at q;cases q
    refine⟨F,b,ρ,_,S,i,fun n m u o l=>?_⟩
    cases l with
    | cons r e=>
     cases r;cases e
     exact⟨j,rfl,by lia,by lia,k n m _ o (OZ 0 _)⟩
   ·rw [if_neg c]at q;cases q
  ·cases q
def m5:D->Option (List D)
 | .list a=>some a
 | .tuple a=>some a
 | _=>none
theorem OY{K:PySem.W.Frag}{F:JY->Prop}{H:Hp}{a:JY}{vs:List V}{ds:List D}(h:kO K F H a vs)(r:Reps K F H ds vs):lL K F H ds (BJ K a):=fun m o T z i=>by
 have b:=h.stay T;have c:=r.stay T
 refine⟨fun d l=>?_,fun k=>⟨vs,b.sq,by rw [<- c.length];exact k⟩⟩
 obtain⟨v,e,j⟩:=c.get l
 refine⟨⟨vs,v,b.sq,e⟩,fun x n y=>?_⟩
 obtain⟨g,f⟩:=y;subst g
 have:=f vs b.sq
 rw [e]at this;cases this
 exact⟨m,aM.refl _ _,j⟩
theorem O2{K:PySem.W.Frag}{F:JY->Prop}{H:Hp}{a:JY}{vs:List V}{ds:List D}(h:bR K H a vs)(r:Reps K F H ds vs):lL K F H ds (BK K a):=fun m o T z i=>by
 have b:=T.tp _ _ h;have c:=r.stay T
 refine⟨fun d l=>?_,fun k=>⟨vs,b,by rw [<- c.length];exact k⟩⟩
 obtain⟨v,e,j⟩:=c.get l
 refine⟨⟨vs,v,b,e⟩,fun x n y=>?_⟩
 obtain⟨g,f⟩:=y;subst g
 have:=f vs b
 rw [e]at this;cases this
 exact⟨m,aM.refl _ _,j⟩
theorem CP(A:DE X e ga):DI X tg e (fun ρ=>(ga ρ).bind m5):=by
 intro i s u H R I h;obtain⟨F,l,ρ,E,S,q,k⟩:=h;obtain⟨d,B,q⟩:=aN q;refine bH (A i s u H (fun x f=>∃ g,aM F g H f/\aV X.K g f d x) I ⟨F,l,ρ,d,S,B,fun g f v m r=>⟨g,m,r⟩⟩) fun v c w=>?_;obtain⟨x,f,I1,t,g,m,r⟩:=w
 cases r with
 | @lst a vs ds' hq rr=>
  cases q;cases t;obtain⟨j,y,p,z⟩:=I1.list hq.sq;refine Jl p.isList ?_
  refine⟨c.heap.objs.size,[c.heap.objs.size],_,_,f,rfl,I1.kept (t':=c.toks) fun b o e=>Qc _ e,Tf a _,⟨_,Qr _ rfl,rfl,rfl⟩,fun b n=>?_,k g f _ m (OY hq rr)⟩
  have e:b=c.heap.objs.size:=by simpa using n
  subst e;exact I1.fpOk (Ql _) (I1.hok.fresh (Ql _))
 | @tup a vs ds' hq rr=>
  cases q;cases t;obtain⟨j,y,p,z⟩:=I1.tuple hq;refine JE (show c.heap.IsTuple a j.toArray from p) ?_
  refine⟨c.heap.objs.size,[c.heap.objs.size],_,_,f,rfl,I1.kept (t':=c.toks) fun b o e=>Qc _ e,Tj a _,⟨_,Qr _ rfl,rfl,rfl⟩,fun b n=>?_,k g f _ m (O2 hq rr)⟩
  have e:b=c.heap.objs.size:=by simpa using n
  subst e;exact I1.fpOk (Ql _) (I1.hok.fresh (Ql _))
 | non=>cases q
 | dct _ _ _ _ _=>cases q
 | exn _ _ _=>cases q
 | bl _=>cases q
 | int _=>cases q
 | str _=>cases q
end
def eU(n:Nat)(ds:List D):aA:=ds.map .dat++List.replicate (n-ds.length) .no
def bU(n:Nat)(g:aA->Option aP):List D->Option D:=fun a=>match g (eU n a)with
 | some (.rt d)=>some d
 | some (.nx _)=>some .none
 | _=>none
theorem wY{K:PySem.W.Frag}{F:JY->Prop}{H:Hp}{N:List Str}{ds:List D}{vs:List V}(z:∀ a,F a->H a≠none)(r:Reps K F H ds vs):bL K F H H (L2.start N vs) (eU N.length ds):=by
 have l:=r.length
 refine⟨by simp [L2.start,eU,l],fun i s h=>?_,fun i j a g n m b=>?_,z⟩
 ·unfold eU at h;by_cases c:i<ds.length
  ·rw [YS (by simpa using c),QF]at h
   cases e:ds[i]? with
   | none=>rw [e]at h;cases h
   | some d=>
    rw [e]at h;cases h;obtain⟨v,o,k⟩:=r.get e
    refine⟨some v,?_,v,rfl,k⟩
    unfold L2.start;rw [YS (by simpa using(by lia:i<vs.length)),QF,o];rfl
  ·rw [YQ (by simpa using c),Jq]at h
   split at h
   ·rename_i f;cases h
    refine⟨none,?_,trivial⟩
    unfold L2.start;rw [YQ (by simpa using(by lia:vs.length<=i)),Jq,if_pos (by simp at f ⊢;lia)]
   ·cases h
 ·unfold eU at b;by_cases c:i<ds.length
  ·rw [YS (by simpa using c),QF]at b
   cases e:ds[i]? with
   | none=>rw [e]at b;cases b
   | some d=>rw [e]at b;cases g <;> cases b
  ·rw [YQ (by simpa using c),Jq]at b
   split at b
   ·cases g <;> cases b
   ·cases b
theorem II{P:J2}{w:J4}{K:PySem.W.Frag}{mg:Str->Option Value}{base:Heap}{x a:Str}{b:Zj}{f:JY}{o:Zu}{N c:List Str}{k:Nat}{g:aA->Option aP}(F:mK K x a b f o)(S:bX N c (bB b))
  (B:∀(cdv:Value) (A:Around) (outer:List Env) (s:YP) (H:Hp) (E:XK),dC k (A.deeper (UZ a (bB b) s.heap.objs.size f cdv))->
   iL (kQ aR P w K mg base N a (bB b) f cdv A outer s H E).nox (fM b) g):aQ P w K mg base aR (k+1) f o c (aW K c.length (bU N.length g)):=by
 refine F.ok S (fun u H Q E h=>?_) (fun cdv A outer s H u Q E y h=>?_)
 ·obtain⟨F,G,d,n,_,r,_⟩:=h;rw [<- r.length,n]
 ·obtain⟨F,G,d,n,z,r,q,m⟩:=h
  refine⟨_,B cdv A outer s H E y,?_⟩
  unfold bU at q
  split at q
  ·rename_i J e;cases q
   exact⟨F,H,F,_,_,aM.refl F H,wY z r,e,fun j i v l I=>m j i v l I⟩
  ·rename_i t e;cases q
   exact⟨F,H,F,_,_,aM.refl F H,wY z r,e,fun j i p l M O=>m j i .non l .non⟩
  ·cases q
end DL
namespace DL
open PySem.Spec PySem.SeqAt L2
mutual
theorem aV.reads{X:Cx}{pins:List (JY × Obj)}{σ:L2.St}{H:Hp}{s:YP}{F:JY->Prop}(I:L2.Inv X pins σ H s){d:D}{x:V}{u:Value}(h:aV X.K F H d x)(c:d.canLay0=true)(r:L2.RelV x u):∃ as,UX s.heap u d as:=by
 cases h with
 | non=>cases r;exact⟨_,.none⟩
 | bl b=>cases r;exact⟨_,.bool b⟩
 | int i=>obtain⟨t,rfl⟩:=r;exact⟨_,.int i t⟩
 | str x=>obtain⟨t,rfl⟩:=r;exact⟨_,.str x t⟩
 | tup h q=>
  cases r;obtain⟨e,a,⟨o,g,k,n,j⟩,_⟩:=I.tuple h;obtain⟨as,z⟩:=Reps.reads I q c a
  exact⟨_,.tuple g k j z⟩
 | lst h q=>
  cases r;obtain⟨e,a,m,_⟩:=I.list h.sq;obtain⟨o,n,g,k,_,j⟩:=m;obtain⟨as,z⟩:=Reps.reads I q c a
  exact⟨_,.list g k j z⟩
 | dct f h n l r=>cases c
 | exn f h n=>cases c
theorem Reps.reads{X:Cx}{pins:List (JY × Obj)}{σ:L2.St}{H:Hp}{s:YP}{F:JY->Prop}(I:L2.Inv X pins σ H s){ds:List D}{xs:List V}{us:List Value}(h:Reps X.K F H ds xs)(c:Zd ds=true)(r:L2.Vals xs us):∃ as,U9 s.heap us ds as:=by
 cases h with
 | nil=>cases r;exact⟨_,.nil⟩
 | cons h q=>
  have c:=QD.mp c
  cases r with
  | cons b a=>
   obtain⟨as,z⟩:=aV.reads I h c.1 b;obtain⟨bs,y⟩:=Reps.reads I q c.2 a
   exact⟨_,.cons z y⟩
end
def oG(t:Int->Int->D):D->D->Option D
 | .int i,.int j=>some (t i j)
 | _,_=>none
def oH(C:Int->Int->Bool)(t:Int->Int->D):D->D->Option D
 | .int i,.int j=>if C i j=true then some (t i j)else none
 | _,_=>none
def mE(i j:Int):Bool:=(decide (-18446744073709551616<i) && decide (i<18446744073709551616)) || (decide (-18446744073709551616<j) && decide (j<18446744073709551616))
def pT(_ j:Int):Bool:=decide (0<j) && decide (j<1073741824)
def Fm(_ j:Int):Bool:=decide (0<j)
section
variable {X:Cx}
theorem t6{f:Value->Value->Sem Value}{g:Int->Int->V}{t:Int->Int->D}(h:bO X f (lX g))(r:∀ i j K F H,aV K F H (t i j) (g i j)):bO X f (cU X.K (oG t)):=
 pV h fun x y H Q b=>by
  obtain⟨F,d,e,q,z,c,R2,a,k⟩:=b;unfold oG at a
  split at a
  ·cases a;cases c;cases R2
   exact⟨_,_,rfl,rfl,k F H _ (aM.refl F H) (r _ _ _ _ _)⟩
  ·cases a
theorem t7{f:Value->Value->Sem Value}{C:Int->Int->Prop}{B:Int->Int->Bool}{g:Int->Int->V}{t:Int->Int->D}(h:bO X f (rI C g))(l:∀ i j,B i j=true->C i j)(r:∀ i j K F H,aV K F H (t i j) (g i j)):bO X f (cU X.K (oH B t)):=
 pV h fun x y H Q c=>by
  obtain⟨F,d,e,q,z,m,R2,a,k⟩:=c;unfold oH at a
  split at a
  ·rename_i i j;by_cases b:B i j=true
   ·rw [if_pos b]at a;cases a;cases m;cases R2
    exact⟨_,_,rfl,rfl,l _ _ b,k F H _ (aM.refl F H) (r _ _ _ _ _)⟩
   ·rw [if_neg b]at a;cases a
  ·cases a
def j7:D->D->Option D:=oG fun i j=>.int (i-j)
def cF:D->D->Option D:=oH mE fun i j=>.int (i * j)
def lB:D->D->Option D:=oH pT fun i j=>.int (i / j)
def iP:D->D->Option D:=oH Fm fun i j=>.int (i % j)
def hX:D->D->Option D:=oG fun i j=>.bool (decide (i<j))
def jA:D->D->Option D:=oG fun i j=>.bool (decide (i<=j))
def j5:D->D->Option D:=oG fun i j=>.bool (decide (j<i))
theorem mF:bO X (Zt .Sub) (cU X.K j7):=t6 PH fun _ _ _ _ _=>.int _
theorem eO:bO X (Zt .Mult) (cU X.K cF):=t7 PC (fun i j h=>by
 unfold mE at h;simp only [Bool.or_eq_true,QO,decide_eq_true_eq]at h;unfold tG
 lia) fun _ _ _ _ _=>.int _
theorem sQ:bO X (Zt .FloorDiv) (cU X.K lB):=t7 Py (fun i j h=>by
 unfold pT at h;simp only [QO,decide_eq_true_eq]at h
 exact h) fun _ _ _ _ _=>.int _
theorem nG:bO X (Zt .Mod) (cU X.K iP):=t7 PB (fun i j h=>by
 unfold Fm at h
 simpa using h) fun _ _ _ _ _=>.int _
theorem nF:bO X (J9 .Lt) (cU X.K hX):=t6 KZ fun _ _ _ _ _=>.bl _
theorem nD:bO X (J9 .LtE) (cU X.K jA):=t6 KY fun _ _ _ _ _=>.bl _
theorem sR:bO X (J9 .Gt) (cU X.K j5):=t6 KW fun _ _ _ _ _=>.bl _
def dF:D->Option D
 | .int i=>some (.int (-i))
 | _=>none
theorem hO:mQ X (unaryOp .USub) (CD X.K dF):=Tp To fun x H Q b=>by
 obtain⟨F,d,q,z,c,a,k⟩:=b;unfold dF at a
 split at a
 ·cases a;cases c
  exact⟨_,rfl,k F H _ (aM.refl F H) (.int _)⟩
 ·cases a
def gP(d e:D):Option D:=if(shaped d && shaped e)=true then some (.bool (ZE d e))else none
def dZ(d e:D):Option D:=if(shaped d && shaped e)=true then some (.bool (!PyData.eqv d e))else none
theorem u7(j:X.A.units+64<J8):bO X (J9 .Eq) (cU X.K gP):=fun f s n H x y v u Q I i h g=>by
 obtain⟨F,d,e,q,z,R1,R2,a,k⟩:=g;unfold gP at a;by_cases c:(shaped d && shaped e)=true
 ·rw [if_pos c]at a;cases a;have b:=QD.mp c;obtain⟨o,m⟩:=R1.reads I (QT b.1) i;obtain⟨bs,l⟩:=R2.reads I (QT b.2) h;exact eq_dataH m l b.1 b.2 j ⟨.bl _,H,I,rfl,k F H _ (aM.refl F H) (.bl _)⟩
 ·rw [if_neg c]at a;cases a
theorem k3(j:X.A.units+64<J8):bO X (J9 .NotEq) (cU X.K dZ):=fun f s n H x y v u Q I i h g=>by
 obtain⟨F,d,e,q,z,R1,R2,a,k⟩:=g;unfold dZ at a;by_cases c:(shaped d && shaped e)=true
 ·rw [if_pos c]at a;cases a;have b:=QD.mp c;obtain⟨o,m⟩:=R1.reads I (QT b.1) i;obtain⟨bs,l⟩:=R2.reads I (QT b.2) h;exact ne_dataH m l b.1 b.2 j ⟨.bl _,H,I,rfl,k F H _ (aM.refl F H) (.bl _)⟩
 ·rw [if_neg c]at a;cases a
def i9(b:Bool)(d:D):D->Option D
 | .list a=>if(shaped d && shaped (.list a))=true then some (.bool (if b then !(a.any fun y=>ZE y d)else a.any fun y=>ZE y d))else none
 | .tuple a=>if(shaped d && shaped (.tuple a))=true then some (.bool (if b then !(a.any fun y=>ZE y d)else a.any fun y=>ZE y d))else none
 | _=>none
theorem wB(m:X.A.units+65<J8):bO X (J9 .In) (cU X.K (i9 false)):=fun l s p H x y v u Q I j i n=>by
 obtain⟨F,d,e,q,z,R1,R2,a,k⟩:=n;unfold i9 at a
 split at a
 ·rename_i f;by_cases c:(shaped d && shaped (.list f))=true
  ·rw [if_pos c]at a;cases a;have b:=QD.mp c;obtain⟨o,h⟩:=R1.reads I (QT b.1) j;obtain⟨bs,g⟩:=R2.reads I (QT b.2) i;exact in_list_reads g h (QT b.2) (QT b.1) (U2 b.1 m) ⟨.bl _,H,I,rfl,k F H _ (aM.refl F H) (.bl _)⟩
  ·rw [if_neg c]at a;cases a
 ·rename_i f;by_cases c:(shaped d && shaped (.tuple f))=true
  ·rw [if_pos c]at a;cases a;have b:=QD.mp c;obtain⟨o,h⟩:=R1.reads I (QT b.1) j;obtain⟨bs,g⟩:=R2.reads I (QT b.2) i;exact in_tuple_reads g h (QT b.2) (QT b.1) (U2 b.1 m) ⟨.bl _,H,I,rfl,k F H _ (aM.refl F H) (.bl _)⟩
  ·rw [if_neg c]at a;cases a
 ·cases a
theorem AI(m:X.A.units+65<J8):bO X (J9 .NotIn) (cU X.K (i9 true)):=fun l s p H x y v u Q I j i n=>by
 obtain⟨F,d,e,q,z,R1,R2,a,k⟩:=n;unfold i9 at a
 split at a
 ·rename_i f;by_cases c:(shaped d && shaped (.list f))=true
  ·rw [if_pos c]at a;cases a;have b:=QD.mp c;obtain⟨o,h⟩:=R1.reads I (QT b.1) j;obtain⟨bs,g⟩:=R2.reads I (QT b.2) i;exact notIn_list_reads g h (QT b.2) (QT b.1) (U2 b.1 m) ⟨.bl _,H,I,rfl,k F H _ (aM.refl F H) (.bl _)⟩
  ·rw [if_neg c]at a;cases a
 ·rename_i f;by_cases c:(shaped d && shaped (.tuple f))=true
  ·rw [if_pos c]at a;cases a;have b:=QD.mp c;obtain⟨o,h⟩:=R1.reads I (QT b.1) j;obtain⟨bs,g⟩:=R2.reads I (QT b.2) i;exact notIn_tuple_reads g h (QT b.2) (QT b.1) (U2 b.1 m) ⟨.bl _,H,I,rfl,k F H _ (aM.refl F H) (.bl _)⟩
  ·rw [if_neg c]at a;cases a
 ·cases a
def aK:D->D->Option D
 | .tuple xs,.int i=>atI xs i
 | .list xs,.int i=>atI xs i
 | _,_=>none
theorem Reps.atI{K:PySem.W.Frag}{F:JY->Prop}{H:Hp}{ds:List D}{vs:List V}{i:Int}{d:D}(r:Reps K F H ds vs)(h:L2.atI ds i=some d):∃ v,L2.atI vs i=some v/\aV K F H d v:=by
 unfold L2.atI at h ⊢;rw [r.length]at h
 cases e:ixN vs.length i with
 | none=>rw [e]at h;cases h
 | some j=>
  rw [e]at h;obtain⟨v,b,a⟩:=r.get (show ds[j]?=some d from h)
  exact⟨v,b,a⟩
theorem aU:fW X (cU X.K aK):=Gc (O7.or Pb) fun x y H Q h=>by
 obtain⟨F,d,e,q,z,g,R2,b,k⟩:=h;unfold aK at b
 split at b
 ·rename_i j i
  cases g with
  | @tup a vs _ h1 r1=>
   cases R2;obtain⟨v,f,c⟩:=r1.atI b;exact .inr ⟨a,vs,i,v,rfl,rfl,h1,f,k F H _ (aM.refl F H) c⟩
 ·rename_i j i
  cases g with
  | @lst a vs _ h1 r1=>
   cases R2;obtain⟨v,f,c⟩:=r1.atI b;exact .inl ⟨a,vs,i,v,rfl,rfl,h1.sq,f,k F H _ (aM.refl F H) c⟩
 ·cases b
def dO:List D->Option D
 | [.list xs]=>some (.int xs.length)
 | [.tuple xs]=>some (.int xs.length)
 | _=>none
theorem kF:dW X (.builtin "len") (gS X.K dO):=n3 MW fun e H Q d=>by
 obtain⟨F,f,q,z,R,b,k⟩:=d;unfold dO at b
 split at b
 ·cases b
  cases R with
  | cons c R2=>
   cases R2
   cases c with
   | @lst a vs _ h1 r1=>exact⟨a,vs,rfl,.inl h1.sq,by rw [<- r1.length];exact k F H _ (aM.refl F H) (.int _)⟩
 ·cases b
  cases R with
  | cons c R2=>
   cases R2
   cases c with
   | @tup a vs _ h1 r1=>exact⟨a,vs,rfl,.inr h1,by rw [<- r1.length];exact k F H _ (aM.refl F H) (.int _)⟩
 ·cases b
def qF:List D->Option D
 | [.int i]=>some (.int (if i<0 then -i else i))
 | _=>none
theorem Ad:dW X (.builtin "abs") (gS X.K qF):=n3 MS fun d H Q b=>by
 obtain⟨F,e,q,z,R,a,k⟩:=b;unfold qF at a
 split at a
 ·cases a
  cases R with
  | cons c R2=>cases R2;cases c;exact⟨_,rfl,k F H _ (aM.refl F H) (.int _)⟩
 ·cases a
def cZ:List D->Option (List Int)
 | []=>some []
 | .int i::r=>(cZ r).bind fun a=>some (i::a)
 | _=>none
theorem m8{K:PySem.W.Frag}{F:JY->Prop}{H:Hp}:∀{ds:List D}{vs:List V}{is:List Int},Reps K F H ds vs->cZ ds=some is->vs=is.map V.int:=by
 intro ds
 induction ds with
 | nil=>intro vs is r h;cases r;cases h;rfl
 | cons d ds c=>
  intro vs is r h
  cases r with
  | cons b a=>
   cases d with
   | int i=>
    cases b;obtain⟨f,e,h⟩:=aN h;cases h;rw [c a e];rfl
   | _=>cases h
def vF:List D->Option D
 | [.list xs]=>some (.tuple xs)
 | [.tuple xs]=>some (.tuple xs)
 | _=>none
theorem Da:dW X (.type "tuple") (gS X.K vF):=n3 M3 fun f H Q e=>by
 obtain⟨F,g,q,z,R,b,k⟩:=e;unfold vF at b
 split at b
 ·cases b
  cases R with
  | cons c R2=>
   cases R2
   cases c with
   | @lst a vs _ h1 r1=>exact⟨a,vs,rfl,.inl ⟨h1.sq,fun l d=>k F _ _ (aM.fresh d) (aV.newTup d r1)⟩⟩
 ·cases b
  cases R with
  | cons c R2=>
   cases R2
   cases c with
   | @tup a vs _ h1 r1=>exact⟨a,vs,rfl,.inr ⟨h1,k F H _ (aM.refl F H) (.tup h1 r1)⟩⟩
 ·cases b
end
end DL
namespace DL
open PySem.Spec PySem.SeqAt L2 CL
def iX(inner:List (Option Nat))(ρ:aA):aA:=inner.map fun o=>match o with
 | some j=>match ρ[j]? with
  | some (.dat d)=>.dat d
  | _=>.no
 | none=>.no
def o8(s:D->aA->Option aA)(t:aA->Option Bool)(ge:aA->Option D):List D->aA->Option (List D)
 | [],_=>some []
 | d::ds,ρ=>(s d ρ).bind fun a=>(t a).bind fun b=>if b=true then(ge a).bind fun y=>(o8 s t ge ds a).bind fun r=>some (y::r)else o8 s t ge ds a
def dX(gi:aA->Option (List D))(s:D->aA->Option aA)(t:aA->Option Bool)(ge:aA->Option D)(inner:List (Option Nat)):aA->Option (List D):=
 fun b=>(gi b).bind fun c=>(o8 s t ge c (iX inner b)).bind fun a=>if a.length<=1000 then some a else none
def eA(g:aA->Option (List D)):aA->Option D:=fun b=>(g b).bind fun a=>some (.list a)
def eT:aA->Option Bool:=fun _=>some true
def IN:Sl->Bool
 | .own _ | .ownD _ | .ownM _=>true
 | _=>false
def k7(ρ:aA):Prop:=∀(i:Nat) (s:Sl),IN s=true->ρ[i]?≠some s
def rT(s:D->aA->Option aA):Prop:=∀ d ρ ρ',k7 ρ->s d ρ=some ρ'->k7 ρ'
def vY(s:List D->aA->Option aA):Prop:=∀ ds ρ ρ',k7 ρ->s ds ρ=some ρ'->k7 ρ'
theorem Sr{ρ:aA}{i:Nat}{d:D}(h:k7 ρ):k7 (ρ.set i (.dat d)):=fun j a ow e=>by
 by_cases c:i=j
 ·subst c;by_cases l:i<ρ.length
  ·rw [QG l]at e;cases e;cases ow
  ·rw [List.getElem?_eq_none (by simpa using JN l)]at e;cases e
 ·rw [QC c]at e;exact h j a ow e
theorem gN(i:Nat):rT (bM i):=fun d b a h e=>by cases e;exact Sr h
theorem Ou:vY jX:=fun b c a h e=>by
 cases b with
 | nil=>cases e;exact h
 | cons _ _=>cases e
theorem Gh{g:D->aA->Option aA}{f:List D->aA->Option aA}(k:rT g)(j:vY f):vY (fG g f):=fun c i b h e=>by
 cases c with
 | nil=>cases e
 | cons d c=>
  obtain⟨a,l,e⟩:=aN e;exact j c a b (k d i a h l) e
theorem Ov{n:Nat}{s:List D->aA->Option aA}(g:vY s):rT (jY n s):=fun d f ρ' h e=>by
 cases d with
 | tuple b=>
  have a:(if b.length=n then s b f else none)=some ρ':=e;by_cases c:b.length=n
  ·rw [if_pos c]at a;exact g b f ρ' h a
  ·rw [if_neg c]at a;cases a
 | _=>cases e
theorem AN(inner:List (Option Nat))(ρ:aA):k7 (iX inner ρ):=fun i ds ow e=>by
 unfold iX at e;rw [QF]at e
 cases q:inner[i]? with
 | none=>rw [q]at e;cases e
 | some o=>
  rw [q]at e
  cases o with
  | none=>cases e;cases ow
  | some j=>
   have a:(match ρ[j]? with | some (.dat d)=>Sl.dat d | _=>Sl.no)=ds:=QL e
   split at a <;> (subst a;cases ow)
theorem TY{K:PySem.W.Frag}{F:JY->Prop}{H:Hp}{p:JY}{vs us:List V}(c:H p=some (.lst vs))(d:¬ F p):cK K F F H (aZ H p (.lst us)):=
 ⟨fun _ h=>h,fun a e h=>by
  rcases h with(h | ⟨o,h⟩) | h
  ·exact .inl (.inl (by rw [bI (by intro z;subst z;rw [c]at h;cases h)];exact h))
  ·exact .inl (.inr ⟨o,by rw [bI (by intro z;subst z;rw [c]at h;cases h)];exact h⟩)
  ·exact .inr h,fun a e f h=>by
  have b:a≠p:=fun z=>d (by rw [<- z];exact f);rcases h with h | ⟨o,h⟩
  ·exact .inl (by rw [bI b];exact h)
  ·exact .inr ⟨o,by rw [bI b];exact h⟩,fun a g f h=>by rw [bI (fun z=>d (by rw [<- z];exact f))];exact h⟩
theorem bL.plain{K:PySem.W.Frag}{F k:JY->Prop}{H g H₀ b:Hp}{σ:L2.St}{ρ:aA}(S:bL K F H H₀ σ ρ)(c:k7 ρ)(T:cK K F k H g)(z:∀ a,k a->g a≠none):bL K k g b σ ρ:=
 ⟨S.len,fun i s h=>by
  obtain⟨o,q,w⟩:=S.sl i s h
  refine⟨o,q,?_⟩
  cases s with
  | no=>trivial
  | ownD f=>exact absurd h (c i _ rfl)
  | ownM f=>exact absurd h (c i _ rfl)
  | dat d=>obtain⟨v,e,r⟩:=w;exact⟨v,e,r.stay T⟩
  | own l=>exact absurd h (c i _ rfl),fun i j a l n _ m=>absurd m (c i _ (by cases l <;> rfl)),z⟩
theorem bL.inner{K:PySem.W.Frag}{F:JY->Prop}{H H₀:Hp}{σ:L2.St}{ρ:aA}(S:bL K F H H₀ σ ρ)(inner:List (Option Nat)):bL K F H H₀ (gJ inner σ) (iX inner ρ):=
 ⟨by simp [gJ,iX],fun i s h=>by
  unfold iX at h;unfold gJ;rw [QF]at h ⊢
  cases q:inner[i]? with
  | none=>rw [q]at h;cases h
  | some o=>
   rw [q]at h
   cases o with
   | none=>cases h;exact⟨none,rfl,trivial⟩
   | some j=>
    have b:(match ρ[j]? with | some (.dat d)=>Sl.dat d | _=>Sl.no)=s:=QL h
    split at b
    ·rename_i d e;cases b;obtain⟨v,f,r⟩:=S.dat e
     exact⟨some v,by simp [f],v,rfl,r⟩
    ·cases b
     exact⟨_,rfl,trivial⟩,fun i j a g k _ c=>absurd c (AN inner ρ i _ (by cases g <;> rfl)),S.fz⟩
def xB(X:Cx)(a:List Expr)(t:aA->Option Bool):Prop:=qC X a (oS X.K t)
theorem l8{X:Cx}:xB X [] eT:=fun a s e H Q I d=>by
 obtain⟨F,c,f,b,S,q,k⟩:=d;cases q;exact wpAny_tests_nil ⟨H,I,k F H (aM.refl F H)⟩
theorem m6{X:Cx}{c:Expr}{t:aA->Option Bool}(h:DT X c t):xB X [c] t:=RH h
section
variable {X:Cx}{elt tg iter:Expr}{ifs:List Expr}{scope:ZK}{pos:Pos}{N':List Str}{inner:List (Option Nat)}{gi:aA->Option (List D)}{s:D->aA->Option aA}{t:aA->Option Bool}{ge:aA->Option D}
structure HX(X:Cx)(s:D->aA->Option aA)(t:aA->Option Bool)(ge:aA->Option D)(xs out:List D)(F1:JY->Prop)(H1:Hp)(D':JY)(i m:Nat)(σ':L2.St)(H':Hp)(F2:JY->Prop)(ρ2:aA)(vs:List V)(don rst:List D):Prop where
 em:m=xs.length-i
 hi:i<=xs.length
 E:aM F1 F2 H1 H'
 T:cK X.K F1 F2 H1 H'
 S:bL X.K F2 H' H1 σ' ρ2
 pl:k7 ρ2
 dD:H' D'=some (.lst vs)
 nf:¬ F2 D'
 rd:Reps X.K F2 H' don vs
 ec:o8 s t ge (xs.drop i) ρ2=some rst
 eo:don++rst=out
 kp:∀ b o,b≠D'->H1 b=some o->H' b=some o
theorem NO(kp:rT s){σ:L2.St}{H:Hp}{Q:VK}{F:JY->Prop}{H₀:Hp}{ρ:aA}{out:List D}(S:bL X.K F H H₀ σ ρ)(q:dX gi s t ge inner ρ=some out)
  (fin:∀ F' H' D' vs,aM F F' H H'->cK X.K F F' H H'->H D'=none->H' D'=some (.lst vs)->¬ F' D'->Reps X.K F' H' out vs->bL X.K F' H' H₀ σ ρ->Q (.ref D') H'):
  GG (CJ X.K gi) (zI X.K s) (oS X.K t) (tD X.K ge) inner σ H Q:=by
 obtain⟨g,e1,q⟩:=aN q;obtain⟨u,e2,q⟩:=aN q;by_cases hl:u.length<=1000
 ·rw [if_pos hl]at q;cases q
  refine⟨F,H₀,ρ,g,S,e1,fun M n J E1 I1 D' N=>?_⟩
  have S1:=S.ext E1
  refine⟨fun i m r H'=>∃ I j vs h k,HX X s t ge g out M n D' i m r H' I j vs h k,?_,?_⟩
  ·have E2:aM M M n (aZ n D' (.lst [])):=aM.fresh N
   refine⟨g.length,M,iX inner ρ,[],[],out,rfl,QU _,E2,E2.stay,?_,AN inner ρ,dY,fun f=>S1.fz _ f N,.nil,e2,rfl,fun b o p e=>by rw [bI p];exact e⟩
   exact(S1.inner inner).plain (AN inner ρ) E2.stay (E2.fz S1.fz)
  ·rintro i m r H' ⟨I,j,vs,h,k,rfl,hi,E2,T2,S2,pl,E,W,rd,a,B,w⟩;obtain⟨Z,Y⟩:=I1 I H' T2 S2.fz i;by_cases d:i<g.length
   ·right
    have z:g[i]?=some g[i]:=by simp [d]
    obtain⟨go,T⟩:=Z _ z;rw [YF d]at a;obtain⟨c,e3,a⟩:=aN a;obtain⟨b,e4,a⟩:=aN a
    refine⟨go,fun x H3 y=>?_⟩
    obtain⟨F3,E3,R3⟩:=T x H3 y;have l:=kp _ _ _ pl e3
    refine⟨F3,n,j,g[i],c,S2.ext E3,R3,e3,fun a0 S5=>⟨F3,n,c,b,S5,e4,fun F6 H6 E6=>?_⟩⟩
    have S6:=S5.ext E6;have E36:=E3.trans E6;have d6:H6 D'=some (.lst vs):=E36.same _ _ E
    have U:¬ F6 D':=fun f=>by
     rcases E36.new _ f with f | ⟨f,_⟩
     ·exact W f
     ·rw [E]at f;cases f
    cases b with
    | false=>
     simp only [Qq,if_false]at a ⊢
     exact⟨g.length-(i+1),by lia,F6,c,vs,h,k,rfl,d,E2.trans E36,T2.trans E36.stay,S6,l,d6,U,rd.stay E36.stay,a,B,fun b o p e=>E36.same _ _ (w b o p e)⟩
    | true=>
     simp only [if_true]at a ⊢;obtain⟨yd,e5,a⟩:=aN a;obtain⟨r',e6,a⟩:=aN a;cases a
     refine⟨F6,n,c,yd,S6,e5,fun G O R E7 R7=>?_⟩
     have E37:=E36.trans E7;have d7:O D'=some (.lst vs):=E37.same _ _ E
     have v:¬ G D':=fun f=>by
      rcases E37.new _ f with f | ⟨f,_⟩
      ·exact W f
      ·rw [E]at f;cases f
     have T8:cK X.K G G O (aZ O D' (.lst (vs++[R]))):=TY d7 v;have S7:=S6.ext E7;have E8:aM M G n (aZ O D' (.lst (vs++[R]))):=(E2.trans E37).turn N
     have ll:vs.length<1000:=by
      have h1:=rd.length;have h2:=congrArg U6 B;rw [Qm,QE]at h2;lia
     refine⟨vs,d7,wX (Yu ll),g.length-(i+1),by lia,G,c,vs++[R],h++[yd],r',rfl,d,E8,(T2.trans E37.stay).trans T8,S7.plain l T8 (E8.fz S1.fz),l,dY,v,?_,e6,by rw [Q6];exact B,fun b o p e=>?_⟩
     ·exact((rd.stay E37.stay).append (.cons R7 .nil)).stay T8
     ·rw [bI p];exact E37.same _ _ (w b o p e)
   ·left
    have A:g.length<=i:=JN d
    refine⟨Y A,?_⟩
    rw [List.drop_eq_nil_of_le A]at a;cases a;rw [Yg]at B;subst B;have hH:H D'=none:=E1.same.free N;have EE:aM F I H H':=E1.trans E2;exact fin I H' D' vs EE (E1.stay.trans T2) hH E W rd (S.ext EE)
 ·rw [if_neg hl]at q;cases q
theorem gW(n:X.calm=true)(y:o9 X N' scope inner)(i:rT s)(l:DI X tg iter gi)(m:∀ cl C fp s' H,DG (hZ X N' scope cl C fp s' H) tg s)(j:∀ cl C fp s' H,xB (hZ X N' scope cl C fp s' H) ifs t)(he:∀ cl C fp s' H,DE (hZ X N' scope cl C fp s' H) elt ge)
  (hs:∀ x,Us iter X.env x=pure x:=by intro _;rfl):DE X (.ListComp elt [⟨tg,iter,ifs,0⟩] scope pos) (eA (dX gi s t ge inner)):=
 eQ (PZ (g:=zI X.K s) (ti:=oS X.K t) (te:=tD X.K ge) n y l (fun cl C fp s' H=>m cl C fp s' H) (fun cl C fp s' H=>j cl C fp s' H) (fun cl C fp s' H=>he cl C fp s' H) hs) fun z H Q e=>by
  obtain⟨F,c,A,d,S,q,k⟩:=e;obtain⟨h,r,q⟩:=aN q;cases q;refine NO i S r fun v u w B E' I p b G o E=>?_;refine k (fun a=>v a ∨ a=w) u _ ⟨E'.same,fun a f=>.inl (E'.up a f),fun a f=>?_⟩ (.lst (.inl ⟨.inr rfl,.inl b⟩) (o.stay ⟨fun _ f=>.inl f,fun _ _ f=>f,fun _ _ _ f=>f,fun _ _ _ f=>f⟩));rcases f with f | rfl
  ·exact E'.new a f
  ·exact .inr ⟨p,by rw [b];simp⟩
end
end DL
namespace SG
structure dU(src:Array Keyed)(kd:SortKind)(z:ZV):Prop where
 mix:(J6 z).Perm src
 kd:kindOf z=kd
 fine:failedOf z=none
 none:ZZ z=#[]
theorem dU.len{src:Array Keyed}{kd:SortKind}{z:ZV}(f:dU src kd z):(J6 z).size=src.size:=f.mix.size_eq
theorem dU.re{src:Array Keyed}{kd:SortKind}{z:ZV}(f:dU src kd z){a:Array Keyed}(m:a.Perm (J6 z)):dU src kd (setArr z a):=⟨m.trans f.mix,f.kd,f.fine,f.none⟩
section
variable {prog:J2}{w:J4}{A:Around}{E:Value->YP->Prop}{s:YP}{src:Array Keyed}{κ:KeyKind}{kd:SortKind}
def kM(prog:J2)(w:J4)(A:Around)(s:YP)(κ:KeyKind)(kd:SortKind):Prop:=
 ∀(x y:Value) (a b:κ.α) (E:Value->YP->Prop) (Q:Bool->YP->Prop),κ.keyOf x=some a->κ.keyOf y=some b->Q (κ.blt a b) s->JZ (J1 prog w) A (keyLt' kd x y) Q E s
theorem dU.item{z:ZV}(f:dU src kd z)(all:KeysOf κ src){i:Nat}(h:i<src.size):∃ x y a,(J6 z)[i]?=some (x,y)/\κ.keyOf x=some a/\KK κ (J6 z) i=a:=by
 have c:i<(J6 z).size:=by rw [f.len];exact h
 have e:=getElem?_pos (J6 z) i c;obtain⟨a,b⟩:=all (J6 z)[i] ((Array.perm_iff_toList_perm.mp f.mix).mem_iff.mp (by simp))
 exact⟨_,_,a,e,b,by unfold KK;rw [e];simp [b]⟩
theorem sP{z:ZV}{i j:Nat}{Q:Option Bool->ZV->Prop}(L:kM prog w A s κ kd)(f:dU src kd z)(all:KeysOf κ src)(l:i<src.size)(h:j<src.size)
  (k:Q (some (κ.blt (KK κ (J6 z) i) (KK κ (J6 z) j))) z):wpS (J1 prog w) A E s (ltAt' i j) Q z:=by
 obtain⟨x,p,a,n,g,d⟩:=f.item all l;obtain⟨y,o,b,m,e,c⟩:=f.item all h;rw [d,c]at k;rw [ltAt'_eq];refine Yd (wpS_get ?_)
 show wpS _ _ _ _ (elem' (J6 z) i >>= fun u=>elem' (J6 z) j >>= fun v=>lt' u v) Q z
 rw [elem'_eq,n,elem'_eq,m];refine Yd (YH (Yd (YH ?_)));rw [lt'_eq];refine Yd (wpS_get (Yd (wpS_lift (UL ?_))));rw [f.kd];exact L x y a b _ _ g e ⟨rfl,YH k⟩
theorem HJ{z:ZV}{a top:Nat}{Q:AscSt->ZV->Prop}(L:kM prog w A s κ kd)(all:KeysOf κ src)(f:dU src kd z)(y:1<=a)(u:a<=top)(t:top<=src.size)(r:Zq κ (J6 z) a)
  (k:∀ n,a<=n->n<=top->Zq κ (J6 z) n->n=top ∨ κ.klt (KK κ (J6 z) n) (KK κ (J6 z) (n-1))->Q (none,n) z):wpS (J1 prog w) A E s (ascLoop a top) Q z:=by
 unfold ascLoop;refine Ux (fun x c d=>d=z/\c=(none,x)/\Zq κ (J6 z) x) (fun x c d v m l=>?_) (fun c d l=>?_) ⟨rfl,rfl,r⟩
 ·obtain⟨g,h,b⟩:=l;subst g h;dsimp only;refine Yd (sP L f all (QB m t) (by lia) ?_)
  cases q:κ.blt (KK κ (J6 d) x) (KK κ (J6 d) (x-1))with
  | true=>simp only [if_true];exact YH (k x v (Yu m) b (Zp q))
  | false=>
   simp only [Qq,if_false];refine YH ⟨rfl,rfl,fun i j le lt=>?_⟩;rcases Nat.lt_or_ge j x with p | p
   ·exact b i j le p
   ·obtain rfl:j=x:=by lia
    rcases Jf le with o | o
    ·subst o;exact YJ _
    ·exact UK (b i (j-1) (by lia) (by lia)) q
 ·obtain⟨g,h,b⟩:=l;subst g h
  have e:max a top=top:=by lia
  rw [e]at b ⊢;exact k top u (Ql _) b (ZD rfl)
theorem HG{z:ZV}{n top:Nat}{Q:Option Nat->ZV->Prop}(L:kM prog w A s κ kd)(all:KeysOf κ src)(f:dU src kd z)(a:1<=n)(e:n<=top)(d:top<=src.size)(r:NonIncK κ (J6 z) n)
  (k:∀ m z',dU src kd z'->1<=m->m<=top->Zq κ (J6 z') m->Q (some m) z'):wpS (J1 prog w) A E s (tail3 n top) Q z:=by
 have sz:n<=(J6 z).size:=by rw [f.len];lia
 have b:dU src kd (setArr z (mirror (J6 z) 0 n ((n-0) / 2))):=f.re (mirror_perm _ _ _ _)
 have c:Zq κ (J6 (setArr z (mirror (J6 z) 0 n ((n-0) / 2)))) n:=by
  intro i j le lt
  show κ.kle (KK κ (mirror (J6 z) 0 n ((n-0) / 2)) i) (KK κ (mirror (J6 z) 0 n ((n-0) / 2)) j)
  rw [KK_mirror sz,KK_mirror sz,if_pos ⟨QU _,by lia⟩,if_pos ⟨QU _,lt⟩];exact r _ _ (by lia) (by lia)
 unfold tail3;refine Yd (wpS_reverse (Yd (HJ L all b a e d c fun m l h g _=>?_)));exact YH (k m _ b (Qz a l) h g)
theorem Nr{z:ZV}{n top:Nat}{Q:DescSt->ZV->Prop}(L:kM prog w A s κ kd)(all:KeysOf κ src)(f:dU src kd z)(N:1<=n)(M:n<=top)(K:top<=src.size)(r:NonIncK κ (J6 z) n)
  (k:∀ m q z',dU src kd z'->n<=m->m<=top->NonIncK κ (J6 z') m->q+1<=m->(∀ i,m-(q+1)<=i->i<m->KK κ (J6 z') i=KK κ (J6 z') (m-1))->Q (none,m,q) z'):wpS (J1 prog w) A E s (descLoop n top) Q z:=by
 have one:∀(h:Array Keyed) (x:Nat) (i:Nat),x-(0+1)<=i->i<x->KK κ h i=KK κ h (x-1):=fun h x i F o=>by
  have:i=x-1:=JG (Nat.le_sub_one_of_lt o) F
  rw [this]
 unfold descLoop
 refine Ux (fun x c z'=>∃ q,c=(none,x,q)/\dU src kd z'/\NonIncK κ (J6 z') x/\q+1<=x/\∀ i,x-(q+1)<=i->i<x->KK κ (J6 z') i=KK κ (J6 z') (x-1))
  (fun x c z' O I H=>?_) (fun c z' H=>?_) ⟨0,rfl,f,r,N,one _ _⟩
 ·obtain⟨q,y,b,d,v,l⟩:=H;subst y;dsimp only;have u:x<src.size:=QB I K
  have sz:x<=(J6 z').size:=by rw [b.len];exact Yu u
  have G:x-1<src.size:=Yc (Nat.sub_le x 1) u;refine Yd (sP L b all u G ?_)
  cases F:κ.blt (KK κ (J6 z') x) (KK κ (J6 z') (x-1))with
  | true=>
   simp only [if_true]
   have g:∀ h:Array Keyed,(∀ m,KK κ h m=KK κ (J6 z') m)->NonIncK κ h (x+1):=fun h a i j le lt=>by
    rw [a i,a j];rcases Nat.lt_or_ge j x with B | B
    ·exact d i j le B
    ·obtain rfl:j=x:=JG (Y0 lt) B
     rcases Jf le with t | t
     ·subst t;exact YJ _
     ·exact UK (Uy F) (d i (j-1) (Nat.le_sub_one_of_lt t) (Nat.sub_lt (Yc (QU i) t) Nat.one_pos))
   by_cases o:q > 0
   ·rw [if_pos o];exact Yd (wpS_reverse (YH ⟨0,rfl,b.re (mirror_perm _ _ _ _),g _ (JV sz l),Nat.succ_le_succ (QU _),one _ _⟩))
   ·rw [if_neg o];exact YH ⟨0,rfl,b,g _ fun _=>rfl,Nat.succ_le_succ (QU _),one _ _⟩
  | false=>
   simp only [Qq,if_false];refine Yd (sP L b all (by lia) u ?_)
   cases o:κ.blt (KK κ (J6 z') (x-1)) (KK κ (J6 z') x)with
   | true=>simp only [if_true];exact YH (k x q z' b O (Yu I) d v l)
   | false=>
    simp only [Qq,if_false];have a:KK κ (J6 z') x=KK κ (J6 z') (x-1):=KeyOrd.kle_antisymm o F;refine YH ⟨q+1,rfl,b,fun i j le lt=>?_,by lia,fun i B t=>?_⟩
    ·rcases Nat.lt_or_ge j x with p | p
     ·exact d i j le p
     ·obtain rfl:j=x:=by lia
      rcases Jf le with J | J
      ·subst J;exact YJ _
      ·rw [a];exact d i (j-1) (by lia) (by lia)
    ·show KK κ (J6 z') i=KK κ (J6 z') x
     rcases Nat.lt_or_ge i x with p | p
     ·rw [a];exact l i (by lia) p
     ·have:i=x:=by lia
      rw [this]
 ·obtain⟨q,y,b,d,v,l⟩:=H
  have e:max n top=top:=by lia
  rw [e]at y d v l;subst y;exact k top q z' b M (Ql _) d v l
theorem CV{z:ZV}{n top:Nat}{Q:Option Nat->ZV->Prop}(L:kM prog w A s κ kd)(all:KeysOf κ src)(f:dU src kd z)(h:n+1<=top)(a:top<=src.size)(r:NonIncK κ (J6 z) (n+1))
  (k:∀ m z',dU src kd z'->1<=m->m<=top->Zq κ (J6 z') m->Q (some m) z'):wpS (J1 prog w) A E s (descPart n top) Q z:=by
 unfold descPart;refine Yd (wpS_lift (JW ⟨rfl,Yd (Nr L all f (Nat.le_add_left 1 n) h a r fun m q z' b o g d l e=>?_)⟩))
 have sz:m<=(J6 z').size:=by rw [b.len];lia
 dsimp only;by_cases c:q > 0
 ·rw [if_pos c];refine Yd (wpS_reverse (HG L all (b.re (mirror_perm _ _ _ _)) (by lia) g a (fun i j le lt=>?_) k))
  show κ.kle (KK κ (mirror (J6 z') (m-(q+1)) m ((m-(m-(q+1))) / 2)) j) (KK κ (mirror (J6 z') (m-(q+1)) m ((m-(m-(q+1))) / 2)) i)
  rw [JV sz e,JV sz e];exact d i j le lt
 ·rw [if_neg c];exact HG L all b (by lia) g a d k
theorem NJ{z:ZV}{top:Nat}{Q:Option Nat->ZV->Prop}(L:kM prog w A s κ kd)(all:KeysOf κ src)(f:dU src kd z)(u:1<=top)(b:top<=src.size)
  (k:∀ m z',dU src kd z'->1<=m->m<=top->Zq κ (J6 z') m->Q (some m) z'):wpS (J1 prog w) A E s (countRun' 0 top) Q z:=by
 have t:Zq κ (J6 z) 1:=fun i j le lt=>by
  obtain rfl:i=j:=JG le (Qz (Y0 lt) (QU _))
  exact YJ _
 rw [countRun0_eq];refine Yd (HJ L all f (Ql 1) u b t fun n l e p v=>?_);dsimp only;by_cases c:n=top
 ·rw [if_pos (beq_iff_eq.mpr c)];exact YH (k n z f l e p)
 ·rw [if_neg (fun h=>c (beq_iff_eq.mp h))];have a:=v.resolve_left c;by_cases q:n > 1
  ·rw [if_pos q];have r:n-1<n:=Nat.sub_lt l Nat.one_pos;refine Yd (sP L f all (QB l (Qz e b)) (QB r (Qz e b)) ?_)
   cases x:κ.blt (KK κ (J6 z) 0) (KK κ (J6 z) (n-1))with
   | true=>simp only [if_true];exact YH (k n z f l e p)
   | false=>
    simp only [Qq,if_false]
    have sz:n<=(J6 z).size:=by rw [f.len];exact Qz e b
    have o:∀ m,0<=m->m<n->KK κ (J6 z) m=KK κ (J6 z) (n-1):=fun m _ lt=>
     KeyOrd.kle_antisymm (p m (n-1) (Nat.le_sub_one_of_lt lt) r) (UK x (p 0 m (QU _) lt))
    refine Yd (wpS_reverse (CV L all (f.re (mirror_perm _ _ _ _)) (Nat.lt_of_le_of_ne e c) b (fun i j le lt=>?_) k))
    show κ.kle (KK κ (mirror (J6 z) 0 n ((n-0) / 2)) j) (KK κ (mirror (J6 z) 0 n ((n-0) / 2)) i)
    rw [JV sz o,JV sz o];rcases Nat.lt_or_ge j n with d | d
    ·rw [o i (QU _) (Yc le d),o j (QU _) d];exact YJ _
    ·obtain rfl:j=n:=JG (Y0 lt) d
     rcases Jf le with g | g
     ·subst g;exact YJ _
     ·rw [o i (QU _) g];exact Uy a
  ·rw [if_neg q]
   obtain rfl:n=1:=JG (JN q) l
   refine CV L all f (by lia) b (fun i j le lt=>?_) k;rcases Jf le with g | g
   ·subst g;exact YJ _
   ·obtain rfl:i=0:=by lia
    obtain rfl:j=1:=by lia
    exact Uy a
theorem OU{z:ZV}{n ok:Nat}{Q:Bool->ZV->Prop}(L:kM prog w A s κ kd)(all:KeysOf κ src)(f:dU src kd z)(h1:ok<=n)(Z:n<=src.size)(r:Zq κ (J6 z) ok)
  (k:∀ z',dU src kd z'->Zq κ (J6 z') n->Q true z'):wpS (J1 prog w) A E s (binarySort' 0 n ok) Q z:=by
 rw [binarySort'_eq];simp only [Nat.zero_add]
 have T:Zq κ (J6 z) (min (max ok 1) n):=fun i j le lt=>by
  rcases Jf le with c | c
  ·subst c;exact YJ _
  ·exact r i j le (by lia)
 refine Yd (wpS_mono (Ux (fun m c z'=>c=(none,())/\dU src kd z'/\Zq κ (J6 z') (min m n)) (Q:=fun c z'=>c=(none,())/\dU src kd z'/\Zq κ (J6 z') n)
  (fun m c z' g1 g2 K=>?_) (fun c z' K=>?_) ⟨rfl,f,T⟩) fun c z' W=>?_)
 ·obtain⟨g,p,b⟩:=K;subst g
  have X:min m n=m:=by lia
  rw [X]at b
  have I:m<src.size:=by lia
  refine Yd (wpS_mono (Ux (fun t c a=>a=z'/\∃ lo hi,c=(none,lo,hi)/\lo<=hi/\hi<=m/\hi+t<=m+lo/\(∀ i,i<lo->κ.kle (KK κ (J6 z') i) (KK κ (J6 z') m)) /\
    ∀ i,hi<=i->i<m->κ.klt (KK κ (J6 z') m) (KK κ (J6 z') i))
   (Q:=fun c a=>a=z'/\∃ lo hi,c=(none,lo,hi)/\lo<=m/\(∀ i,i<lo->κ.kle (KK κ (J6 z') i) (KK κ (J6 z') m))/\∀ i,lo<=i->i<m->κ.klt (KK κ (J6 z') m) (KK κ (J6 z') i))
   (fun t c a _ lt B=>?_) (fun c a B=>?_) ⟨rfl,0,m,rfl,QU _,Ql _,by lia,fun i c=>absurd c (Yz _),fun i R h=>absurd h (Nat.not_lt.mpr R)⟩) fun c a B=>?_)
  ·obtain⟨y,lo,hi,g,R,h,O,x,v⟩:=B;subst y g;dsimp only;by_cases d:lo >= hi
   ·rw [if_pos d]
    obtain rfl:lo=hi:=by lia
    exact YH ⟨rfl,lo,lo,rfl,h,x,v⟩
   ·rw [if_neg d]
    have u:lo<=(lo+hi) / 2/\(lo+hi) / 2<hi:=by clear h O;lia
    generalize (lo+hi) / 2=l at u ⊢;have o:=QB u.2 h;refine Yd (sP L p all I (JP o I) ?_)
    cases q:κ.blt (KK κ (J6 a) m) (KK κ (J6 a) l)with
    | true=>
     simp only [if_true];exact YH ⟨rfl,lo,l,rfl,u.1,Yu o,Qz (Nat.add_right_comm l t 1 ▸ Nat.add_le_add_right u.2 t) O,x,fun i N M=>KeyOrd.klt_of_klt_of_kle q (b _ _ N M)⟩
    | false=>
     simp only [Qq,if_false];refine YH ⟨rfl,l+1,hi,rfl,u.2,h,Nat.add_le_add (show lo<=l from u.1) (Ql 1) |> fun z=>by lia,fun i N=>?_,v⟩;have U:κ.kle (KK κ (J6 a) l) (KK κ (J6 a) m):=q;exact UK (b i l (Y0 N) o) U
  ·obtain⟨y,lo,hi,g,R,h,O,x,v⟩:=B
   obtain rfl:lo=hi:=by lia
   exact⟨y,lo,lo,g,h,x,v⟩
  ·obtain⟨y,lo,hi,g,h,x,v⟩:=B;subst y g
   show wpS _ _ _ _ (moveDown' m lo >>= fun _=>pure (Ui (none,()))) _ _
   rw [moveDown'_eq];refine Yd (wpS_modify (YH ⟨rfl,p.re (bubble_perm _ _ _),?_⟩))
   have S:m<(J6 a).size:=by rw [p.len];exact I
   have M:min (m+1) n=m+1:=by lia
   rw [M];intro i j le lt
   show κ.kle (KK κ (bubble (J6 a) m (m-lo)) i) (KK κ (bubble (J6 a) m (m-lo)) j)
   have Y:m-(m-lo)=lo:=by lia
   rw [KK_bubble S (by lia),KK_bubble S (by lia),Y]
   by_cases H:i=lo <;> by_cases G:j=lo
   ·rw [if_pos H,if_pos G];exact YJ _
   ·rw [if_pos H,if_neg G,if_pos ⟨by lia,by lia⟩];exact Uy (v _ (by lia) (by lia))
   ·rw [if_neg H,if_pos G,if_neg (by lia)];exact x _ (by lia)
   ·rw [if_neg H,if_neg G]
    by_cases J:lo<i/\i<=m <;> by_cases F:lo<j/\j<=m
    ·rw [if_pos J,if_pos F];exact b _ _ (by lia) (by lia)
    ·exact absurd ⟨by lia,by lia⟩ F
    ·rw [if_neg J,if_pos F];exact b _ _ (by lia) (by lia)
    ·rw [if_neg J,if_neg F];exact b _ _ le (by lia)
 ·obtain⟨g,p,b⟩:=K
  have e:min (max (max ok 1) n) n=n:=by lia
  rw [e]at b
  exact⟨g,p,b⟩
 ·obtain⟨g,p,b⟩:=W;subst g;exact YH (k z' p b)
theorem M9{z:ZV}{Q:Unit->ZV->Prop}(L:kM prog w A s κ kd)(all:KeysOf κ src)(f:dU src kd z)(M:2<=src.size)(r:src.size<64)
  (k:∀ z',(J6 z').Perm src->failedOf z'=none->Zq κ (J6 z') src.size->Q () z'):wpS (J1 prog w) A E s sortRuns' Q z:=by
 have K:minRun' src.size src.size 0=src.size:=by
  have g:∀ t,t=src.size->minRun' t src.size 0=src.size:=fun t e=>by
   cases t with
   | zero=>lia
   | succ t=>rw [minRun'_succ,if_pos r];rfl
  exact g _ rfl
 rw [sortRuns'_eq];refine Yd (wpS_get ?_);dsimp only;simp only [f.len,K]
 refine Yd (wpS_mono (Ux (fun t c z'=>(t=0/\c=(none,0)/\dU src kd z') ∨ (0<t/\c=(none,src.size)/\(J6 z').Perm src/\failedOf z'=none/\ZZ z'=#[(0,src.size,0)]/\Zq κ (J6 z') src.size))
  (Q:=fun c z'=>c=(none,src.size)/\(J6 z').Perm src/\failedOf z'=none/\ZZ z'=#[(0,src.size,0)]/\Zq κ (J6 z') src.size)
  (fun t c z' _ lt q=>?_) (fun c z' q=>?_) (ZD ⟨rfl,rfl,f⟩)) fun c z' H=>?_)
 ·rcases q with⟨p,h,J⟩ | ⟨p,h,F,B,y,x⟩
  ·subst p h;dsimp only;rw [if_neg (by lia)];simp only [Nat.sub_zero,Nat.min_self,Nat.zero_add]
   have b:∀ a,dU src kd a->Zq κ (J6 a) src.size->(0<0+1/\((none:Option Unit),src.size)=(none,src.size)/\(J6 (setPending a ((ZZ a).push (0,src.size,0)))).Perm src/\failedOf (setPending a ((ZZ a).push (0,src.size,0)))=none /\
     ZZ (setPending a ((ZZ a).push (0,src.size,0)))=#[(0,src.size,0)]/\Zq κ (J6 (setPending a ((ZZ a).push (0,src.size,0)))) src.size):=fun a j n=>
    ⟨Nat.zero_lt_succ _,rfl,j.mix,j.fine,by show(ZZ a).push (0,src.size,0)=_;rw [j.none];rfl,n⟩
   refine Yd (NJ L all J (by lia) (Ql _) fun m i u N I G=>?_);dsimp only;by_cases c:m<src.size
   ·rw [if_pos c];refine Yd (wpS_lift (JW ⟨rfl,Yd (OU L all u I (Ql _) G fun a j n=>?_)⟩));simp only [YN,Qq,if_false];refine Yd (wpS_get ?_)
    have v:(ZZ a).back?=none:=by rw [j.none];rfl
    rw [v];dsimp only;exact Yd (wpS_modify (YH (Zp (b a j n))))
   ·rw [if_neg c]
    obtain rfl:m=src.size:=by lia
    refine Yd (wpS_get ?_)
    have v:(ZZ i).back?=none:=by rw [u.none];rfl
    rw [v];dsimp only;exact Yd (wpS_modify (YH (Zp (b i u G))))
  ·subst h;dsimp only;rw [if_pos (Ql _)];exact YH ⟨rfl,F,B,y,x⟩
 ·rcases q with⟨p,_⟩ | ⟨_,d⟩
  ·lia
  ·exact d
 ·obtain⟨h,F,B,y,x⟩:=H;subst h;dsimp only;refine Yd (wpS_mono (Ux (fun _ c i=>i=z'/\c=(none,())) (Q:=fun c i=>i=z'/\c=(none,())) (fun t c i _ _ l=>?_) (fun _ _ l=>l) ⟨rfl,rfl⟩) fun c i l=>?_)
  ·obtain⟨o,h⟩:=l;subst o h;refine Yd (wpS_get ?_);rw [if_pos (by rw [y];exact Ql 1)];exact YH ⟨rfl,rfl⟩
  ·obtain⟨o,h⟩:=l;subst o h;exact YH (k _ F B x)
theorem Tz{a:JY}{vs:List Value}{n:Nat}{P:Fin->YP->Prop}(f:s.heap.get? a=some (Uz "list" vs.toArray n))(all:KeysOf κ (U7 vs))(p:vs.length<64)
  (kind:∀ h',(∀ b o,b≠a->s.heap.get? b=some o->h'.get? b=some o)->2<=vs.length->JZ (J1 prog w) A (keyKind' vs.toArray) (fun q s'=>q=kd/\s'={ s with heap:=h' }) E { s with heap:=h' })
  (L:∀ h',(∀ b o,b≠a->s.heap.get? b=some o->h'.get? b=some o)->kM prog w A { s with heap:=h' } κ kd)
  (k:∀ z':ZV,(J6 z').Perm (U7 vs)->Zq κ (J6 z') (U7 vs).size->P (.done (.ret .none)) { s with heap:=sortedHeap s.heap a vs ((J6 z').map (·.2)) }):
  JZ (J1 prog w) A (Builtin.«list.sort» ⟨[.ref a],[]⟩) P E s:=by
 have y:a<s.heap.objs.size:=Qs f
 have x:vs.toArray.size=vs.length:=by simp
 rw [list_sort_plain];refine Qa (listItems_at f rfl (Qa (listUpdate_at f rfl ?_)));obtain⟨t,r⟩:∃ t,(s.heap.update a (ZC fun _=>#[])).get? a=some (Uz "list" #[] t):=⟨_,get?_update_seq f fun _=>#[]⟩;refine Qa (seqEpoch_at r rfl (Qa (wpAny_newTuple (Qa (wpAny_newList (QV ?_))))))
 show JZ (J1 prog w) A _ P E { s with heap:=((s.heap.update a (ZC fun _=>#[])).push (Uz "tuple" vs.toArray 0)).push (Uz "list" #[] 0) }
 have keep:∀ b o,b≠a->s.heap.get? b=some o->(((s.heap.update a (ZC fun _=>#[])).push (Uz "tuple" vs.toArray 0)).push (Uz "list" #[] 0)).get? b=some o:=fun b o v e=>
  Qc _ (Qc _ (by rw [Heap.get?_update_ne _ _ _ _ v];exact e))
 have g:(((s.heap.update a (ZC fun _=>#[])).push (Uz "tuple" vs.toArray 0)).push (Uz "list" #[] 0)).get? a=some (Uz "list" #[] t):=Qc _ (Qc _ r);dsimp only;by_cases c:vs.toArray.size<2
 ·rw [if_pos c,if_pos c];refine Qa (Qb ?_);rw [StateT.run_pure]
  refine Qa (Qb (Qa (seqEpoch_at g rfl (Qa (listUpdate_at g rfl ?_ (hsz2:=by
   rw [Je];show(U7 vs).size<=_;rw [JQ,Yj];lia))))))
  simp only [bne_self_eq_false,Qq,if_false];refine Qb (k (SortSt.mk' general' (vs.toArray.zip vs.toArray) #[] 7 none) (Array.Perm.refl _) fun i j le lt=>?_)
  obtain rfl:i=j:=by rw [JQ]at lt;lia
  exact YJ _
 ·rw [if_neg c,if_neg c];refine Qa (YO (kind _ keep (by lia)) (fun q s' m=>?_) fun _ _ e=>e);obtain⟨rfl,rfl⟩:=m
  refine Qa (YO (M9 (src:=U7 vs) (z:=SortSt.mk' q (vs.toArray.zip vs.toArray) #[] 7 none)
   (Q:=fun _ z'=>(J6 z').Perm (U7 vs)/\failedOf z'=none/\Zq κ (J6 z') (U7 vs).size)
   (L _ keep) all ⟨Array.Perm.refl _,rfl,rfl,rfl⟩ (by rw [JQ];lia) (by rw [JQ];exact p) fun z' d l h=>⟨d,l,h⟩) (fun u s' m=>?_) fun _ _ e=>e)
  obtain⟨⟨⟩,z'⟩:=u;obtain⟨rfl,d,l,h⟩:=m;dsimp only at d l h ⊢
  refine Qa (seqEpoch_at g rfl (Qa (listUpdate_at g rfl ?_ (hsz2:=by
   refine Qz (Nat.le_of_eq ((Je ..).trans (d.size_eq.trans (JQ _)))) ?_
   rw [Yj];lia))))
  rw [l];simp only [bne_self_eq_false,Qq,if_false];exact Qb (k z' d h)
end
end SG
namespace SD
open PySem.Spec PySem.SeqAt L2 DL SG
theorem kX:∀ a:List Int,HT.lexLt a a=false
 | []=>rfl
 | x::xs=>by rw [HT.lexLt_cons,if_pos rfl];exact kX xs
theorem sM:∀ a b c:List Int,HT.lexLt a b=true->HT.lexLt b c=true->HT.lexLt a c=true
 | [],b,[],h1,h2=>by cases b with | nil=>cases h1 | cons _ _=>cases h2
 | [],_,_::_,_,_=>rfl
 | _::_,[],_,h1,_=>by cases h1
 | _::_,_::_,[],_,h2=>by cases h2
 | x::xs,y::ys,z::zs,h1,h2=>by
  rw [HT.lexLt_cons]at h1 h2 ⊢;by_cases e:x=y
  ·subst e;rw [if_pos rfl]at h1;by_cases d:x=z
   ·subst d;rw [if_pos rfl]at h2 ⊢;exact sM xs ys zs h1 h2
   ·rw [if_neg d]at h2 ⊢;exact h2
  ·rw [if_neg e]at h1;have f:x<y:=of_decide_eq_true h1;by_cases d:y=z
   ·subst d;rw [if_neg e];exact decide_eq_true f
   ·rw [if_neg d]at h2;have g:y<z:=of_decide_eq_true h2;rw [if_neg (by lia)];exact decide_eq_true (by lia)
theorem sL:∀ a b:List Int,HT.lexLt a b=false->HT.lexLt b a=false->a=b
 | [],[],_,_=>rfl
 | [],_::_,h1,_=>by cases h1
 | _::_,[],_,h2=>by cases h2
 | x::xs,y::ys,h1,h2=>by
  rw [HT.lexLt_cons]at h1 h2;by_cases c:x=y
  ·subst c;rw [if_pos rfl]at h1 h2;rw [sL xs ys h1 h2]
  ·rw [if_neg c]at h1;rw [if_neg (Zy c)]at h2;have e:¬ x<y:=of_decide_eq_false h1;have d:¬ y<x:=of_decide_eq_false h2;lia
theorem uX(a b c:List Int)(h:HT.lexLt a c=true):HT.lexLt a b=true ∨ HT.lexLt b c=true:=by
 cases e:HT.lexLt a b with
 | true=>exact .inl rfl
 | false=>
  right
  cases d:HT.lexLt b a with
  | false=>rw [<- sL a b e d];exact h
  | true=>exact sM b a c d h
theorem sK:∀(a b c d:List Int),a.length=b.length->HT.lexLt (a++c) (b++d)=if a=b then HT.lexLt c d else HT.lexLt a b
 | [],[],c,d,_=>by simp
 | [],_::_,_,_,h=>by simp at h
 | _::_,[],_,_,h=>by simp at h
 | x::xs,y::ys,c,d,h=>by
  rw [List.cons_append,List.cons_append,HT.lexLt_cons];have f:=sK xs ys c d (by simpa using h);by_cases e:x=y
  ·subst e;rw [if_pos rfl,f,HT.lexLt_cons,if_pos rfl];simp
  ·rw [if_neg e,if_neg (by simp [e]),HT.lexLt_cons,if_neg e]
def qL(a:List (Value × List Int)):PyProof.Rows.KeyKind where
 α:=List Int
 blt:=HT.lexLt
 irrefl:=kX
 trans:=sM
 negTrans:=uX
 total:=sL
 keyOf:=fun v=>a.lookup v
 dflt:=[]
def iY:D->D->Bool
 | .int _,.int _=>true
 | .tuple xs,.tuple ys=>decide (xs.length=ys.length)
 | _,_=>false
def fU:List D->List D->Bool
 | [],[]=>true
 | x::xs,y::ys=>iY x y && fU xs ys
 | _,_=>false
def lI:D->Option (List Int)
 | .int i=>some [i]
 | .tuple a=>cZ a
 | _=>none
def fT:List D->Option (List Int)
 | []=>some []
 | d::ds=>(lI d).bind fun a=>(fT ds).bind fun b=>some (a++b)
theorem OJ{d x y:D}(c:iY d x=true)(e:iY d y=true):iY x y=true:=by
 cases d with
 | int i=>
  cases x with
  | int _=>cases y with
   | int _=>rfl
   | _=>cases e
  | _=>cases c
 | tuple f=>
  cases x with
  | tuple h=>cases y with
   | tuple g=>
    have a:f.length=h.length:=of_decide_eq_true c;have b:f.length=g.length:=of_decide_eq_true e;exact decide_eq_true (a.symm.trans b)
   | _=>cases e
  | _=>cases c
 | _=>cases x <;> cases c
theorem sN:∀{d x y:List D},fU d x=true->fU d y=true->fU x y=true
 | [],[],[],_,_=>rfl
 | [],[],_::_,_,h=>by cases h
 | [],_::_,_,h,_=>by cases h
 | _::_,[],_,h,_=>by cases h
 | _::_,_::_,[],_,h=>by cases h
 | d::ds,x::xs,y::ys,h1,h2=>by
  have a:=QD.mp h1;have b:=QD.mp h2;exact QD.mpr ⟨OJ a.1 b.1,sN a.2 b.2⟩
theorem FX:∀{xs ys:List D}{a b:List Int},cZ xs=some a->cZ ys=some b->ZT xs ys=decide (a=b)
 | [],[],_,_,e,d=>by cases e;cases d;rfl
 | [],.int _::_,_,_,e,d=>by
  cases e;obtain⟨_,_,d⟩:=aN d;cases d
  simp [ZT]
 | .int _::_,[],_,_,e,d=>by
  cases d;obtain⟨_,_,e⟩:=aN e;cases e
  simp [ZT]
 | .int i::xs,.int j::ys,_,_,e,d=>by
  obtain⟨a,g,e⟩:=aN e;obtain⟨b,f,d⟩:=aN d
  cases e;cases d
  rw [ZT,FX g f]
  simp [ZE]
  by_cases c:i=j <;> simp [c]
 | .none::_,_,_,_,e,_=>by cases e
 | .bool _::_,_,_,_,e,_=>by cases e
 | .str _::_,_,_,_,e,_=>by cases e
 | .list _::_,_,_,_,e,_=>by cases e
 | .tuple _::_,_,_,_,e,_=>by cases e
 | .dict _::_,_,_,_,e,_=>by cases e
 | _,.none::_,_,_,_,d=>by cases d
 | _,.bool _::_,_,_,_,d=>by cases d
 | _,.str _::_,_,_,_,d=>by cases d
 | _,.list _::_,_,_,_,d=>by cases d
 | _,.tuple _::_,_,_,_,d=>by cases d
 | _,.dict _::_,_,_,_,d=>by cases d
theorem mB:∀{xs:List D}{a:List Int},cZ xs=some a->Zd xs=true/\Zn xs=0/\xs.length=a.length/\xs=a.map J3
 | [],_,h=>by cases h;exact⟨rfl,rfl,rfl,rfl⟩
 | .int i::xs,_,h=>by
  obtain⟨a,e,h⟩:=aN h;cases h;obtain⟨f,d,c,b⟩:=mB e
  exact⟨by simp [Zd,ZG,f],by simp [Zn,UA,d],by simp [c],by rw [b];rfl⟩
 | .none::_,_,h=>by cases h
 | .bool _::_,_,h=>by cases h
 | .str _::_,_,h=>by cases h
 | .list _::_,_,h=>by cases h
 | .tuple _::_,_,h=>by cases h
 | .dict _::_,_,h=>by cases h
theorem rC{h:Heap}:∀{xs:List D}{a:List Int}{us:List Value}{as:List JY},cZ xs=some a->U9 h us xs as->ZH us a
 | [],_,_,_,e,r=>by cases e;cases r;exact .nil
 | .int i::xs,_,_,_,e,r=>by
  obtain⟨a,d,e⟩:=aN e;cases e
  cases r with
  | cons c b=>
   cases c;exact .cons i _ (rC d b)
 | .none::_,_,_,_,h,_=>by cases h
 | .bool _::_,_,_,_,h,_=>by cases h
 | .str _::_,_,_,_,h,_=>by cases h
 | .list _::_,_,_,_,h,_=>by cases h
 | .tuple _::_,_,_,_,h,_=>by cases h
 | .dict _::_,_,_,_,h,_=>by cases h
section
variable {prog:J2}{w:J4}{A:Around}{E:Value->YP->Prop}{s:YP}
theorem zR{x y:D}{a b:List Int}(l:iY x y=true)(g:lI x=some a)(f:lI y=some b):a.length=b.length:=by
 cases x with
 | int i=>cases y with
  | int j=>cases g;cases f;rfl
  | _=>cases l
 | tuple d=>cases y with
  | tuple c=>
   have e:d.length=c.length:=of_decide_eq_true l;rw [<- (mB (show cZ d=some a from g)).2.2.1,<- (mB (show cZ c=some b from f)).2.2.1,e]
  | _=>cases l
 | _=>cases y <;> cases l
theorem EH{x y:D}{p q:Value}{a b:List Int}{r bs:List JY}(E:A.units+64<J8)(h:UX s.heap p x r)(g:UX s.heap q y bs)(l:iY x y=true)(m:lI x=some a)(k:lI y=some b):EqAt A s p q (decide (a=b)):=by
 cases x with
 | int i=>cases y with
  | int j=>
   cases m;cases k
   cases h with
   | int _ t=>cases g with
    | int _ u=>
     have:=EqAt.int_int (A:=A) (s:=s) i t j u
     have e:(i == j)=decide ([i]=[j]):=by
      by_cases c:i=j
      ·subst c;simp
      ·simp [c]
     rw [<- e];exact this
  | _=>cases l
 | tuple f=>cases y with
  | tuple d=>
   have o:cZ f=some a:=m;have n:cZ d=some b:=k;obtain⟨B,w,_,_⟩:=mB o;obtain⟨z,v,_,_⟩:=mB n
   have:=eqAt_reads (.tuple f) (.tuple d) A s p q r bs h g B z (by show A.units+min (Zn f+1) (Zn d+1)<J8;rw [w,v];lia)
   have e:ZE (.tuple f) (.tuple d)=decide (a=b):=by rw [ZE];exact FX o n
   rw [e]at this;exact this
  | _=>cases l
 | _=>cases y <;> cases l
theorem HF{b:Bool}{Q:Bool->YP->Prop}(h:Q b s):JZ (J1 prog w) A (truthOfDropped (.bool b)) Q E s:=by
 unfold truthOfDropped;exact Yv h
theorem ID{x y:D}{p q:Value}{a b:List Int}{N bs:List JY}{f:Bool}{Q:Bool->YP->Prop}(O:A.units+64<J8)(d:UX s.heap p x N)(c:UX s.heap q y bs)(l:iY x y=true)(h:lI x=some a)(g:lI y=some b)
  (t:f=true->∃ i,x=.int i) (k:Q (HT.lexLt a b) s) (o:a≠b):JZ (J1 prog w) A (oneLt' f p q) Q E s:=by
 cases x with
 | int i=>cases y with
  | int j=>
   cases h;cases g;cases d;cases c
   have e:HT.lexLt [i] [j]=decide (i<j):=by
    rw [HT.lexLt_cons,if_neg (by intro z;exact o (by rw [z]))]
   rw [e]at k
   cases f with
   | true=>exact oneLt_int k
   | false=>
    rw [oneLt'_eq];simp only [Qq,if_false];refine Qa (HT.rcLt_int A s i _ j _ prog w E _ (HF k))
  | _=>cases l
 | tuple n=>
  cases f with
  | true=>obtain⟨i,r⟩:=t rfl;cases r
  | false=>cases y with
   | tuple m=>
    have M:cZ n=some a:=h;have K:cZ m=some b:=g
    cases d with
    | tuple F B v u=>cases c with
     | tuple J I H G=>
      rw [oneLt'_eq];simp only [Qq,if_false];exact Qa (HT.lt_tupInts ⟨_,F,B,_,v⟩ ⟨_,J,I,_,H⟩ (rC M u) (rC K G) (by lia) (HF k))
   | _=>cases l
 | _=>cases y <;> cases l
theorem GM{b:Bool}{fin:Bool}{Q:Bool->YP->Prop}(k:A.units+64<J8):∀{xs ys:List D}{a c:List Int}{us vs:List Value}{as bs:List JY} (i:Nat),fU xs ys=true->fT xs=some a->fT ys=some c->U9 s.heap us xs as->U9 s.heap vs ys bs->
  (b=true->i=0->∀ x r,xs=x::r->∃ n,x=.int n)->(a=c->Q fin s)->(a≠c->Q (HT.lexLt a c) s)->PySem.W.KatLex prog w A b fin Q (us.zip vs) i s
 | [],[],_,_,_,_,_,_,i,_,g,f,r1,r2,_,k1,k2=>by
  cases g;cases f;cases r1;cases r2
  exact PySem.W.kat_nil (k1 rfl)
 | [],_::_,_,_,_,_,_,_,_,l,_,_,_,_,_,_,_=>by cases l
 | _::_,[],_,_,_,_,_,_,_,l,_,_,_,_,_,_,_=>by cases l
 | x::xs,y::ys,_,_,_,_,_,_,i,l,g,f,r1,r2,hb,k1,k2=>by
  obtain⟨u,o,g⟩:=aN g;obtain⟨M,K,g⟩:=aN g;cases g;obtain⟨t,m,f⟩:=aN f;obtain⟨c2,J,f⟩:=aN f;cases f;obtain⟨j,F⟩:=QD.mp l;have d:=zR j o m
  cases r1 with
  | cons q B=>cases r2 with
   | cons p v=>
    rw [YU];refine PySem.W.kat_cons (EH k q p j o m prog w _ _ ?_);by_cases c:u=t
    ·rw [decide_eq_true c];subst c;refine PySem.W.kat_yes (GM k (i+1) F K J B v (fun _ h=>by lia) (fun e=>k1 (by rw [e])) fun e=>?_)
     have:=k2 (fun z=>e (List.append_cancel_left z))
     rw [sK _ _ _ _ rfl,if_pos rfl]at this;exact this
    ·rw [decide_eq_false c];refine PySem.W.kat_no (ID k q p j o m (fun G=>?_) ?_ c)
     ·obtain⟨I,H⟩:=QD.mp G;exact hb I (by simpa using H) x xs rfl
     ·have E:u++M≠t++c2:=fun z=>c (List.append_inj_left z d)
      have:=k2 E
      rw [sK _ _ _ _ d,if_neg c]at this;exact this
theorem AC{a:Type}{f:Value->Sem a}{g:Value->a}:∀{vs:List Value}{Q:List a->YP->Prop},(∀ v∈vs,∀(R:a->YP->Prop),R (g v) s->JZ (J1 prog w) A (f v) R E s)->Q (vs.map g) s->JZ (J1 prog w) A (vs.mapM f) Q E s
 | [],_,_,k=>by rw [List.mapM_nil];exact Qb k
 | v::vs,Q,h,k=>by
  rw [List.mapM_cons];refine Qa (h v Qe _ (Qa (AC (fun u b=>h u (Qg _ b)) (Qb k))))
def isInt:D->Bool
 | .int _=>true
 | _=>false
def j0(h:Heap):Value->Option Value
 | .ref a=>match h.get? a with
  | some o=>match o.data with
   | .seq b _=>b[0]?
   | _=>none
  | none=>none
 | _=>none
def oU:Value->Value
 | .ref _=>.type "tuple"
 | _=>.type "int"
theorem NI(v:Value):firstOfTuple' v=(typeOf v >>= fun t=>if(t != .type "tuple")=true then pure none else Builtin.List.listItems v >>= fun xs=>pure xs[0]?):=by
 unfold firstOfTuple';rfl
theorem Os{vs:List Value}{m:Bool}{d:D}(N:isInt d=m)(O:∀ v∈vs,∃ x xs as,UX s.heap v (.tuple (x::xs)) as/\iY d x=true)(K:vs≠[]):
  JZ (J1 prog w) A (keyKind' vs.toArray) (fun q s'=>q=tuples' m/\s'=s) E s:=by
 rw [keyKind'_eq,List.mapM_toArray,map_eq_pure_bind];refine Qa (Qa (AC (g:=fun v=>j0 s.heap v) (fun v c R B=>?_) (Qb ?_)))
 ·obtain⟨x,xs,as,r,_⟩:=O v c
  cases r with
  | @tuple a o us n _ _ f I F H=>
   rw [NI];refine Qa (Y8 (T:="tuple") ⟨o,f,I⟩ ?_)
   have e:(Value.type "tuple" != Value.type "tuple")=false:=by simp
   rw [if_neg (by rw [e];simp)];refine Qa (listItems_at f F (Qb ?_))
   have G:j0 s.heap (.ref a)=us[0]?:=by
    show(match s.heap.get? a with | some o=>(match o.data with | .seq xs _=>xs[0]? | _=>none) | none=>none)=us[0]?
    rw [f]
    show(match o.data with | .seq xs _=>xs[0]? | _=>none)=us[0]?
    rw [F]
   rw [G]at B;exact B
 ·have h:∀ v∈vs,∃ u x as,j0 s.heap v=some u/\UX s.heap u x as/\iY d x=true:=fun v c=>by
   obtain⟨x,xs,as,r,l⟩:=O v c
   cases r with
   | @tuple a o us n _ _ f I F H=>
    have G:j0 s.heap (.ref a)=us[0]?:=by
     show(match s.heap.get? a with | some o=>(match o.data with | .seq xs _=>xs[0]? | _=>none) | none=>none)=us[0]?
     rw [f]
     show(match o.data with | .seq xs _=>xs[0]? | _=>none)=us[0]?
     rw [F]
    generalize hl:us.toList=ul at H
    cases H with
    | @cons u vs' _ _ as' bs' r1 r2=>
     refine⟨u,x,as',?_,r1,l⟩
     rw [G,<- QI,hl];rfl
  have ty:∀ u x as,UX s.heap u x as->iY d x=true->oU u=(if m=true then .type "int" else .type "tuple")/\∀(R:Value->YP->Prop),R (oU u) s->JZ (J1 prog w) A (typeOf u) R E s:=fun u x as r l=>by
   cases d with
   | int i=>
    cases x with
    | int j=>cases r;cases N;exact⟨rfl,fun R k=>Y8 (T:="int") (typeIs_int s _ _) k⟩
    | _=>cases l
   | tuple ds=>
    cases x with
    | tuple xs=>
     cases r with
     | tuple f I F H=>cases N;exact⟨rfl,fun R k=>Y8 (T:="tuple") ⟨_,f,I⟩ k⟩
    | _=>cases l
   | _=>cases x <;> cases l
  have all:((vs.map fun v=>j0 s.heap v).toArray.all fun x=>x.isSome)=true:=by
   rw [List.all_toArray,List.all_map,QZ];intro v c;obtain⟨u,x,as,e,_⟩:=h v c
   simp [e]
  rw [if_pos all];refine Qa (JW (Qa ?_));rw [oneTypeOnly'_eq]
  have Z:((vs.map fun v=>j0 s.heap v).toArray.filterMap id)=(vs.filterMap fun v=>j0 s.heap v).toArray:=by
   rw [List.filterMap_toArray,List.filterMap_map];rfl
  rw [Z,List.mapM_toArray,map_eq_pure_bind]
  have y:∀ u∈vs.filterMap (fun v=>j0 s.heap v),∃ x as,UX s.heap u x as/\iY d x=true:=fun u z=>by
   obtain⟨v,c,e⟩:=List.mem_filterMap.mp z;obtain⟨u',x,as,Q,r,l⟩:=h v c;rw [e]at Q;cases Q
   exact⟨x,as,r,l⟩
  refine Qa (Qa (AC (g:=oU) (fun u z R k=>?_) (Qb ?_)))
  ·obtain⟨x,as,r,l⟩:=y u z
   exact(ty u x as r l).2 R k
  ·obtain⟨p,vs',rfl⟩:∃ p vs',vs=p::vs':=by
    cases vs with
    | nil=>exact absurd rfl K
    | cons a b=>exact⟨a,b,rfl⟩
   obtain⟨U,S,M,e0,W,X⟩:=h p Qe
   have Y:∀ t∈((p::vs').filterMap (fun v=>j0 s.heap v)).map oU,t=(if m=true then .type "int" else .type "tuple"):=fun t J=>by
    obtain⟨u,z,rfl⟩:=QN.mp J;obtain⟨x,as,r,l⟩:=y u z
    exact(ty u x as r l).1
   have e1:(((p::vs').filterMap (fun v=>j0 s.heap v)).map oU).toArray[0]?=some (if m=true then .type "int" else .type "tuple"):=by
    rw [JR,e0];simp only [Qp];rw [(ty U S M W X).1];rfl
   rw [e1]
   have G:((((p::vs').filterMap (fun v=>j0 s.heap v)).map oU).toArray.all fun x=>x == (if m=true then .type "int" else .type "tuple"))=true:=by
    rw [List.all_toArray,QZ];intro t J;rw [Y t J];simp
   dsimp only;rw [if_pos G];refine Qb (Qb ⟨?_,rfl⟩)
   cases m <;> rfl
end
end SD
namespace SD
open PySem.Spec PySem.SeqAt L2 DL SG
abbrev KD:=List Int × D
def kC(d0:List D):D->Option (List Int)
 | .tuple (x::xs)=>if fU d0 (x::xs)=true then fT (x::xs)else none
 | _=>none
def eZ(d0:List D):List D->Option (List KD)
 | []=>some []
 | d::ds=>(kC d0 d).bind fun k=>(eZ d0 ds).bind fun r=>some ((k,d)::r)
def kA(p:KD):List KD->List KD
 | []=>[p]
 | q::r=>if HT.lexLt q.1 p.1=true then q::kA p r else p::q::r
def gD:List KD->List KD
 | []=>[]
 | p::r=>kA p (gD r)
def n5:List D->Option D
 | [.list []]=>some (.list [])
 | [.list (.tuple d0::ds)]=>if ds.length<63 then(eZ d0 (.tuple d0::ds)).bind fun l=>some (.list ((gD l).map (·.2)))else none
 | _=>none
def Le(p q:KD):Prop:=HT.lexLt q.1 p.1=false
theorem Le.trans{p q r:KD}(a:Le p q)(b:Le q r):Le p r:=by
 unfold Le at *
 cases e:HT.lexLt r.1 p.1 with
 | false=>rfl
 | true=>
  rcases uX _ q.1 _ e with h | h
  ·rw [b]at h;cases h
  ·rw [a]at h;cases h
theorem Bk(p:KD):∀ l:List KD,(kA p l).Perm (p::l)
 | []=>.refl _
 | q::r=>by
  unfold kA;split
  ·exact((Bk p r).cons q).trans (.swap p q r)
  ·exact .refl _
theorem p7:∀ l:List KD,(gD l).Perm l
 | []=>.refl _
 | p::r=>(Bk p (gD r)).trans ((p7 r).cons p)
theorem FW(p:KD):∀ l:List KD,l.Pairwise Le->(kA p l).Pairwise Le
 | [],_=>by simp [kA]
 | q::r,h=>by
  obtain⟨d,f⟩:=Ym.mp h;unfold kA;split
  ·rename_i c;refine Ym.mpr ⟨fun z a=>?_,FW p r f⟩;rcases Qj.mp ((Bk p r).mem_iff.mp a)with e | e
   ·subst e;unfold Le
    cases g:HT.lexLt z.1 q.1 with
    | false=>rfl
    | true=>have:=sM _ _ _ c g;rw [kX]at this;cases this
   ·exact d z e
  ·rename_i c
   have b:Le p q:=by simpa [Le]using c
   refine Ym.mpr ⟨fun z a=>?_,h⟩;rcases Qj.mp a with e | e
   ·rw [e];exact b
   ·exact b.trans (d z e)
theorem sZ:∀ l:List KD,(gD l).Pairwise Le
 | []=>.nil
 | p::r=>FW p _ (sZ r)
theorem Av:∀{a b:List KD},a.Perm b->a.Pairwise Le->b.Pairwise Le->(∀ p∈a,∀ q∈a,p.1=q.1->p=q)->a=b
 | [],b,h,_,_,_=>h.nil_eq
 | x::r,[],h,_,_,_=>absurd h.length_eq (by simp)
 | x::r,y::t,h,ha,hb,inj=>by
  have d:y∈x::r:=h.mem_iff.mpr Qe;have f:x∈y::t:=h.mem_iff.mp Qe
  have e:x=y:=by
   refine inj x Qe y d (sL _ _ ?_ ?_)
   ·rcases Qj.mp f with c | c
    ·rw [c];exact kX _
    ·exact(Ym.mp hb).1 x c
   ·rcases Qj.mp d with c | c
    ·rw [c];exact kX _
    ·exact(Ym.mp ha).1 y c
  subst e;rw [Av h.cons_inv (Ym.mp ha).2 (Ym.mp hb).2 fun p i q g=>inj p (Qg _ i) q (Qg _ g)]
theorem Sd{c i:Type}{f:c->i}{a b:List i}(h:a.Perm b):∀ l:List c,l.map f=a->∃ l':List c,l'.Perm l/\l'.map f=b:=by
 induction h with
 | nil=>intro l e;exact⟨l,.refl _,e⟩
 | cons x _ t=>
  intro l e
  cases l with
  | nil=>cases e
  | cons y l=>
   rw [Qp]at e
   injection e with e1 e2
   obtain⟨l',p,q⟩:=t l e2
   exact⟨y::l',p.cons y,by rw [Qp,e1,q]⟩
 | swap x y r=>
  intro l e
  match l,e with
  | a::b::l,e=>
   rw [Qp,Qp]at e
   injection e with e1 e2
   injection e2 with e2 e3
   exact⟨b::a::l,.swap a b l,by rw [Qp,Qp,e1,e2,e3]⟩
 | trans _ _ g d=>
  intro l e;obtain⟨s,n,k⟩:=g l e;obtain⟨o,m,j⟩:=d s k
  exact⟨o,m.trans n,j⟩
theorem EZ:∀{xs ys:List D}{a:List Int},fU xs ys=true->fT xs=some a->fT ys=some a->xs=ys
 | [],[],_,_,_,_=>rfl
 | [],_::_,_,l,_,_=>by cases l
 | _::_,[],_,l,_,_=>by cases l
 | x::xs,y::ys,a,l,c,b=>by
  obtain⟨g,f,c⟩:=aN c;obtain⟨u,s,c⟩:=aN c;obtain⟨t,e,b⟩:=aN b;obtain⟨c2,r,b⟩:=aN b;obtain⟨d,m⟩:=QD.mp l;have n:=zR d f e;have q:g++u=t++c2:=(QL c).trans (QL b).symm;obtain⟨p,o⟩:=List.append_inj q n;subst p o;rw [EZ m s r];congr 1
  cases x with
  | int i=>cases y with
   | int j=>cases f;cases e;rfl
   | _=>cases d
  | tuple k=>cases y with
   | tuple h=>rw [(mB (show cZ k=some g from f)).2.2.2,(mB (show cZ h=some g from e)).2.2.2]
   | _=>cases d
  | _=>cases y <;> cases d
theorem vT:∀{xs:List D}{a:List Int},fT xs=some a->Zd xs=true
 | [],_,_=>rfl
 | x::xs,a,f=>by
  obtain⟨h,b,f⟩:=aN f;obtain⟨j,g,f⟩:=aN f;have d:=vT g
  have e:ZG x=true:=by
   cases x with
   | int i=>rfl
   | tuple c=>exact(mB (show cZ c=some h from b)).1
   | _=>cases b
  simp [Zd,e,d]
theorem kK{d0:List D}{d:D}{k:List Int}(h:kC d0 d=some k):∃ x xs,d=.tuple (x::xs)/\fU d0 (x::xs)=true/\fT (x::xs)=some k:=by
 cases d with
 | tuple b=>
  cases b with
  | nil=>cases h
  | cons x xs=>
   have a:(if fU d0 (x::xs)=true then fT (x::xs)else none)=some k:=h;by_cases c:fU d0 (x::xs)=true
   ·rw [if_pos c]at a;exact⟨x,xs,rfl,c,a⟩
   ·rw [if_neg c]at a;cases a
 | _=>cases h
theorem mH{d0:List D}{d e:D}{k:List Int}(f:kC d0 d=some k)(c:kC d0 e=some k):d=e:=by
 obtain⟨x,j,rfl,b,h⟩:=kK f;obtain⟨y,i,rfl,a,g⟩:=kK c;rw [EZ (sN b a) h g]
theorem wJ{d0:List D}:∀{ds:List D}{l:List KD},eZ d0 ds=some l->l.map (·.2)=ds/\∀ p∈l,kC d0 p.2=some p.1
 | [],_,h=>by cases h;exact⟨rfl,fun p a=>nomatch a⟩
 | d::ds,_,h=>by
  obtain⟨k,g,h⟩:=aN h;obtain⟨r,f,h⟩:=aN h;cases h;obtain⟨c,b⟩:=wJ f
  refine⟨by rw [Qp,c],fun p a=>?_⟩
  rcases Qj.mp a with e | e
  ·rw [e];exact g
  ·exact b p e
abbrev Tr:=KD × V × Value
section
variable {X:Cx}{pins:List (JY × Obj)}{σ:L2.St}{H:Hp}{s:YP}{F:JY->Prop}
theorem HD{K:PySem.W.Frag}:∀{l:List KD}{vs:List V}{us:List Value},Reps K F H (l.map (·.2)) vs->L2.Vals vs us->∃ T:List Tr,T.map (·.1)=l/\T.map (·.2.1)=vs/\T.map (·.2.2)=us/\∀ t∈T,aV K F H t.1.2 t.2.1/\L2.RelV t.2.1 t.2.2
 | [],_,_,r,v=>by cases r;cases v;exact⟨[],rfl,rfl,rfl,fun t a=>nomatch a⟩
 | p::l,_,_,r,v=>by
  cases r with
  | cons f d=>cases v with
   | cons c b=>
    obtain⟨T,j,i,h,g⟩:=HD (l:=l) d b
    refine⟨(p,_,_)::T,by rw [Qp,j],by rw [Qp,i],by rw [Qp,h],fun t a=>?_⟩
    rcases Qj.mp a with e | e
    ·rw [e];exact⟨f,c⟩
    ·exact g t e
theorem HE{K:PySem.W.Frag}:∀{T:List Tr},(∀ t∈T,aV K F H t.1.2 t.2.1/\L2.RelV t.2.1 t.2.2)->Reps K F H (T.map (·.1.2)) (T.map (·.2.1))/\L2.Vals (T.map (·.2.1)) (T.map (·.2.2))
 | [],_=>⟨.nil,.nil⟩
 | t::T,h=>by
  obtain⟨c,b⟩:=h t Qe;obtain⟨e,d⟩:=HE fun u a=>h u (Qg _ a)
  exact⟨.cons c e,.cons b d⟩
theorem w5:∀{T:List Tr}{v:Value}{k:List Int},(T.map fun t=>(t.2.2,t.1.1)).lookup v=some k->∃ t∈T,t.2.2=v/\t.1.1=k
 | [],_,_,h=>by cases h
 | t::T,v,k,h=>by
  rw [Qp,QW]at h
  cases e:v == t.2.2 with
  | true=>rw [e]at h;cases h;exact⟨t,Qe,(Yt e).symm,rfl⟩
  | false=>
   rw [e]at h;obtain⟨u,a,c,b⟩:=w5 h
   exact⟨u,Qg _ a,c,b⟩
theorem HA:∀{T:List Tr}{t:Tr},t∈T->∃ k,(T.map fun t=>(t.2.2,t.1.1)).lookup t.2.2=some k:=by
 intro T
 induction T with
 | nil=>intro t h;cases h
 | cons u T a=>
  intro t h;rw [Qp,QW]
  cases e:t.2.2 == u.2.2 with
  | true=>exact⟨_,rfl⟩
  | false=>
   rcases Qj.mp h with z | z
   ·rw [z,beq_self_eq_true]at e;cases e
   ·exact a z
theorem Gy{d0:List D}{its:List Value}{ds:List D}{vs:List V}{l:List KD}{Q:VK}(hu:X.A.units+66<J8)(I:L2.Inv X pins σ H s)(rv:L2.Vals vs its)(r:Reps X.K F H ds vs)(hk:eZ d0 ds=some l)(b3:ds.length<64)
  (k:∀ p vs',H p=none->Reps X.K F H ((gD l).map (·.2)) vs'->vs'.length<=1000->Q (.ref p) (aZ H p (.lst vs'))):JZ (J1 X.prog X.w) X.A.in1 (newList its >>= fun l=>U5 [l] (call (.builtin "list.sort") [l] []) >>= fun _=>ret l) (fun fin s'=>∃ v,fin=.done (.ret v)/\EP X pins σ Q v s') X.xe s:=by
 obtain⟨em,a0⟩:=wJ hk;obtain⟨T,t1,t2,t3,t4⟩:=HD (K:=X.K) (F:=F) (H:=H) (l:=l) (by rw [em];exact r) rv;have c:∀ t∈T,kC d0 t.1.2=some t.1.1:=fun t f=>a0 t.1 (by rw [<- t1];exact JT f)
 have a9:its.length<64:=by rw [<- rv.length,<- r.length];exact b3
 have all:KeysOf (qL (T.map fun t=>(t.2.2,t.1.1))) (U7 its):=fun p hp=>by
  rw [pairsOf_toList]at hp
  have:p.1∈its:=(UT hp).1
  rw [<- t3]at this;obtain⟨t,f,e⟩:=QN.mp this;rw [<- e];exact HA f
 have rd:∀ t∈T,∀ g:Heap,(∀ b o,s.heap.get? b=some o->g.get? b=some o)->∃ as,UX g t.2.2 t.1.2 as:=fun t f g B=>by
  obtain⟨y,ys,y1,_,y2⟩:=kK (c t f);obtain⟨as,z⟩:=(t4 t f).1.reads I (by rw [y1];exact vT y2) (t4 t f).2
  exact⟨as,Reads.keeps B z⟩
 have Z:∀ t∈T,∀ u∈T,t.2.2=u.2.2->t.1.1=u.1.1:=fun t f u E e=>by
  obtain⟨as,Y⟩:=rd t f s.heap fun _ _ q=>q;obtain⟨bs,z2⟩:=rd u E s.heap fun _ _ q=>q;obtain⟨x,xs,O,_,f1⟩:=kK (c t f);rw [e]at Y;have U:t.1.2=u.1.2:=Reads.unique t.1.2 u.1.2 u.2.2 as bs (by rw [O];exact vT f1) Y z2;have N:=c t f;have M:=c u E;rw [U,M]at N
  exact(QL N).symm
 refine Qa (wpAny_newList ?_ (hsz:=?_))
 rotate_left
 ·exact gE (by lia)
 show JZ _ _ _ _ _ { s with heap:=s.heap.push (Uz "list" its.toArray 0) }
 have hL:(s.heap.push (Uz "list" its.toArray 0)).get? s.heap.objs.size=some (Uz "list" its.toArray 0):=Qr _ rfl
 have kp:∀ g:Heap,(∀ b o,b≠s.heap.objs.size->(s.heap.push (Uz "list" its.toArray 0)).get? b=some o->g.get? b=some o)->∀ b o,s.heap.get? b=some o->g.get? b=some o:=fun g B b o e=>
  B b o (Qu (Qs e)) (Qc _ e)
 refine Qa (QV (Q9 slot_list_sort ⟨_,hL,rfl⟩ entry_list_sort (Tz (κ:=qL (T.map fun t=>(t.2.2,t.1.1))) (kd:=tuples' (isInt (d0.headD .none))) hL all a9 (fun g B M=>?_) (fun g B=>?_) fun G p1 p2=>⟨_,rfl,Qb ⟨_,rfl,?_⟩⟩) (args_list_sort _)))
 ·
  refine Os (s:={ s with heap:=g }) (d:=d0.headD .none) rfl (fun v hv=>?_) (fun e=>by rw [e]at M;simp at M);rw [<- t3]at hv;obtain⟨t,f,e⟩:=QN.mp hv;obtain⟨x,xs,O,R,f1⟩:=kK (c t f);obtain⟨as,z⟩:=rd t f g (kp g B);rw [O]at z
  refine⟨x,xs,as,by rw [<- e];exact z,?_⟩
  cases d0 with
  | nil=>cases R
  | cons y ys=>exact(QD.mp R).1
 ·
  intro x y ka kb E' Q' N M S;obtain⟨t,f,O,g1⟩:=w5 N;obtain⟨u,E,U,g2⟩:=w5 M;obtain⟨x1,b6,e3,R,f1⟩:=kK (c t f);obtain⟨y1,b4,e4,l2,f2⟩:=kK (c u E);obtain⟨as,Y⟩:=rd t f g (kp g B);obtain⟨bs,z2⟩:=rd u E g (kp g B);rw [e3,O]at Y;rw [e4,U]at z2;rw [g1]at f1;rw [g2]at f2
  cases Y with
  | @tuple ax ox us n _ _ q1 q2 q3 q4=>cases z2 with
   | @tuple ay oy ws m _ _ w1 w2 w3 w4=>
    have ll:us.size=ws.size:=by
     have a1:=UU _ _ _ q4;have a2:=UU _ _ _ w4
     have a3:∀(p q:List D),fU p q=true->p.length=q.length:=by
      intro p
      induction p with
      | nil=>intro q J;cases q with
       | nil=>rfl
       | cons _ _=>cases J
      | cons p0 p ih=>intro q J;cases q with
       | nil=>cases J
       | cons q0 q=>simp [ih q (QD.mp J).2]
     have a4:=a3 _ _ (sN R l2);rw [Qt]at a1 a2;lia
    have ef:decide (us.size<ws.size)=false:=by rw [ll];simp
    refine PySem.W.kat_lt (s:={ s with heap:=g }) q1 q3 w1 w3 ?_;rw [ef];refine GM (s:={ s with heap:=g }) (show X.A.in1.in1.units+64<J8 by show X.A.units+1+1+64<J8;lia) 0 (sN R l2) f1 f2 q4 w4 (fun hb _ z r' ez=>?_) (fun e=>?_) fun _=>S
    ·cases ez
     cases d0 with
     | nil=>cases R
     | cons y0 b5=>
      have l3:=(QD.mp R).1
      cases y0 with
      | int n=>cases x1 with
       | int m=>exact⟨m,rfl⟩
       | _=>cases l3
      | _=>cases hb
    ·have e5:HT.lexLt ka kb=false:=by rw [e];exact kX _
     have:(qL (T.map fun t=>(t.2.2,t.1.1))).blt ka kb=false:=e5
     rw [this]at S;exact S
 ·
  have pm:(((J6 G).map (·.2)).toList).Perm its:=by
   have N:=Array.perm_iff_toList_perm.mp p1;have M:=N.map (·.2);rw [pairsOf_toList]at M;rw [Array.toList_map]
   have h3:(its.zip its).map (·.2)=its:=by
    rw [List.map_snd_zip];exact Ql _
   rw [h3]at M;exact M
  obtain⟨T',q1,q2⟩:=Sd pm.symm T t3;have h:∀ t∈T',t∈T:=fun t f=>q1.mem_iff.mp f;obtain⟨g1,g2⟩:=HE (K:=X.K) (F:=F) (H:=H) (T:=T') fun t f=>t4 t (h t f)
  have lT:T'.length=its.length:=by rw [q1.length_eq,<- t3,Qo]
  have a8:(T'.map (·.1)).Pairwise Le:=by
   rw [Ya,List.pairwise_iff_getElem];intro i j hi hj b1
   have a7:(J6 G).size=T'.length:=by
    rw [p1.size_eq,JQ,lT]
   have key:∀ m (hm:m<T'.length),KK (qL (T.map fun t=>(t.2.2,t.1.1))) (J6 G) m=T'[m].1.1:=fun m hm=>by
    have b0:m<(J6 G).size:=by rw [a7];exact hm
    have O:(J6 G)[m]?=some (J6 G)[m]:=getElem?_pos _ m b0;have U:(J6 G)[m]∈(U7 its).toList:=(Array.perm_iff_toList_perm.mp p1).mem_iff.mp (by simp);rw [pairsOf_toList]at U
    have e3:(J6 G)[m].1=(J6 G)[m].2:=by
     obtain⟨n,hn,en⟩:=List.getElem_of_mem U;rw [List.getElem_zip]at en;rw [<- en]
    have e4:(J6 G)[m].2=T'[m].2.2:=by
     have:=congrArg (fun(l:List Value)=>l[m]?) q2
     simp only [QF,Array.toList_map,QI,O]at this;rw [Qh hm]at this
     exact(QL this).symm
    unfold KK;rw [O]
    show((qL (T.map fun t=>(t.2.2,t.1.1))).keyOf (J6 G)[m].1).getD []=_
    rw [e3,e4];obtain⟨kx,a5⟩:=HA (h T'[m] (YB hm));obtain⟨t,f,e5,e6⟩:=w5 a5
    show((T.map fun t=>(t.2.2,t.1.1)).lookup T'[m].2.2).getD []=_
    rw [a5]
    show kx=_
    rw [<- e6];exact Z t f _ (h _ (YB hm)) e5
   have:=p2 i j (Yu b1) (by rw [JQ,<- lT];exact hj)
   rw [key i hi,key j hj]at this;exact this
  have a6:T'.map (·.1)=gD l:=by
   refine Av (((q1.map (·.1)).trans (.of_eq t1)).trans (p7 l).symm) a8 (sZ l) fun p hp q J e=>?_;obtain⟨t,f,rfl⟩:=QN.mp hp;obtain⟨u,E,rfl⟩:=QN.mp J;have N:=c t (h t f);have M:=c u (h u E);rw [e]at N;exact Jj e (mH N M)
  have eD:(gD l).map (·.2)=T'.map (·.1.2):=by rw [<- a6,Yk];rfl
  have fresh:H s.heap.objs.size=none:=I.hok.fresh (Ql _);obtain⟨ep,b2⟩:=sortedHeap_at (out:=(J6 G).map (·.2)) hL
  have old:∀ b o,s.heap.get? b=some o->(sortedHeap (s.heap.push (Uz "list" its.toArray 0)) s.heap.objs.size its ((J6 G).map (·.2))).get? b=some o:=fun b o e=>by
   have lt:=Qs e;rw [sortedHeap_old (Qu lt) (by rw [size_push'];exact YG lt)];exact Qc _ e
  have lv:(T'.map (·.2.1)).length<=1000:=by rw [Qo,lT];lia
  refine⟨.ref s.heap.objs.size,_,I.laid (t':=s.toks) (o:=.lst (T'.map (·.2.1))) old (Ql _) ?_,rfl,k _ _ fresh (by rw [eD];exact g1) lv⟩
  refine⟨gE lv,T'.map (·.2.2),ep,g2,?_⟩
  rw [b2,q2]
theorem s0{d0:List D}{a:JY}{ds:List D}{vs:List V}{l:List KD}{Q:VK}(i:X.A.units+66<J8)(I:L2.Inv X pins σ H s)(j:cJ X.K H a vs)(r:Reps X.K F H ds vs)(n:eZ d0 ds=some l)(d:ds.length<64)
  (k:∀ p vs',H p=none->Reps X.K F H ((gD l).map (·.2)) vs'->vs'.length<=1000->Q (.ref p) (aZ H p (.lst vs'))):JZ (J1 X.prog X.w) X.A (call (.builtin "sorted") [.ref a]) (EP X pins σ Q) X.xe s:=by
 obtain⟨c,f,g,h⟩:=I.list j;refine Z6 kind_sorted plain_sorted entry_sorted (args_sorted1 _) ?_;unfold Builtin.«sorted»;refine Qa (m:=checkCount "sorted" 1 1 _) (Qb (Qa (collect_list g.isList ?_ (hsz:=?_))))
 ·refine Gy i (I.kept (h':=(s.heap.push (Uz "list" #[] 0)).update s.heap.objs.size (ZC (·++c.toArray))) (t':=s.toks) fun b o e=>?_) f r n d k;rw [Heap.get?_update_ne _ _ _ _ (Qu (Qs e))];exact Qc _ e
 ·rw [<- f.length];exact h
end
end SD
namespace DL
open PySem.Spec L2 SD
theorem Mz{X:Cx}(n:X.A.units+66<J8):dW X (.builtin "sorted") (gS X.K n5):=fun m s t H v w Q I j o=>by
 obtain⟨F,x,q,z,R,b,k⟩:=o;unfold n5 at b
 split at b
 ·cases b
  cases R with
  | cons i R2=>
   cases R2
   cases i with
   | @lst a vs _ h1 r1=>
    obtain⟨u,rfl,f⟩:=iK j;cases f;exact s0 (d0:=[]) (l:=[]) n I h1.sq r1 rfl (by simp) fun p e d g _=>k _ _ _ (aM.frozen d) (aV.newLst d g)
 ·rename_i d0 h;by_cases c:h.length<63
  ·rw [if_pos c]at b;obtain⟨l,r,b⟩:=aN b;cases b
   cases R with
   | cons i R2=>
    cases R2
    cases i with
    | @lst a vs _ h1 r1=>
     obtain⟨u,rfl,f⟩:=iK j;cases f;exact s0 (d0:=d0) n I h1.sq r1 r (by simp;lia) fun p e d g _=>k _ _ _ (aM.frozen d) (aV.newLst d g)
  ·rw [if_neg c]at b;cases b
 ·cases b
end DL
namespace ZL
open PySem.Spec L2 DL
def xE(K:PySem.W.Frag)(a b:JY):It:=
 ⟨fun i H=>∃ xs ys x y,cJ K H a xs/\cJ K H b ys/\xs[i]?=some x/\ys[i]?=some y,
  fun i H v c=>∃ p,H p=none/\v=.ref p/\∃ x y,c=aZ H p (.tup [x,y])/\(∀ xs,cJ K H a xs->xs[i]?=some x)/\∀ ys,cJ K H b ys->ys[i]?=some y,
  fun i H=>∃ xs ys,cJ K H a xs/\cJ K H b ys/\(xs.length<=i ∨ ys.length<=i)⟩
theorem wA{X:Cx}{pins:List (JY × Obj)}{σ:L2.St}{H c:Hp}{s:YP}{ch:List JY}{h':Heap}{tk:Nat}(I:L2.Inv X pins σ H s)(g:∀ b∈ch,eH X pins H b)(k:∀ b o,b∉ch->s.heap.get? b=some o->h'.get? b=some o)
  (l:∀ b o,s.heap.get? b=some o->c b=H b) (f:∀ b o,H b=some o->c b=some o) (d:dV X.prog X.w c h'):L2.Inv X pins σ c { s with heap:=h',toks:=tk }:=by
 refine I.step (g':=s.gens) (d':=s.drawn) (ch:=ch) (fun b j=>?_) (fun b o _ _ a e _=>k b o a e) (fun b o _ _ a e _=>⟨o.slots,k b o a e⟩) (fun b o _ e n=>by rw [l b o e];exact n)
  (fun b o a e=>⟨o,k b o a e⟩) (fun b A e=>f _ _ e) (fun b o u e=>f _ _ e) (fun b B e=>⟨#[],by rw [f _ _ e];simp⟩) (fun m i=>?_) d I.bare
 ·obtain⟨_,v,_,t,q,p⟩:=g b j
  exact⟨t,v,q,p⟩
 ·obtain⟨o,x,y,h,r⟩:=i
  exact⟨o,x,y,k _ o (fun z=>(g _ z).2.1 rfl) h,r⟩
theorem Tl{P:J2}{w:J4}{K:PySem.W.Frag}{Z:List Expr}{x1}{S:Pos}(a b z TI TO n m:JY)(D:ZipApart z TI TO n m a b):
  jQ P w K (.Tuple Z x1 S) (xE K a b) [z,TI,TO,n,m] z (fun i h=>IsZip h z TI TO .none/\IsPair h TI (.ref n) (.ref m)/\(∃ u v,IsPair h TO u v)/\h.IsListIter n a i/\h.IsListIter m b i) where
 mem:=by simp
 obj:=fun i h r c g=>by
  obtain⟨A,t,⟨u,v,B⟩,⟨o4,e4,_,d4⟩,⟨o5,e5,_,d5⟩⟩:=r;rcases Qj.mp g with rfl | g
  ·exact⟨_,A,fun v z=>by have R:Data.fields _=Data.cell v:=z;cases R⟩
  rcases Qj.mp g with rfl | g
  ·exact⟨_,t,fun v z=>by have R:Data.seq _ _=Data.cell v:=z;cases R⟩
  rcases Qj.mp g with rfl | g
  ·exact⟨_,B,fun v z=>by have R:Data.seq _ _=Data.cell v:=z;cases R⟩
  rcases Qj.mp g with rfl | g
  ·exact⟨o4,e4,fun v z=>by rw [d4]at z;cases z⟩
  rcases Qj.mp g with rfl | g
  ·exact⟨o5,e5,fun v z=>by rw [d5]at z;cases z⟩
  cases g
 keep:=fun i h h' r k=>by
  obtain⟨A,t,⟨u,v,B⟩,Q,O⟩:=r
  exact⟨k z (by simp) _ A,k TI (by simp) _ t,⟨u,v,k TO (by simp) _ B⟩,Q.at fun o e=>k n (by simp) o e,O.at fun o e=>k m (by simp) o e⟩
 item:=by
  intro X hP hw hK g i T s σ H E I N r hg;subst hP hw hK;obtain⟨xs,ys,x,y,ha,hb,hx,hy⟩:=hg;obtain⟨A,t,⟨u,v,B⟩,Q,O⟩:=r;obtain⟨a7,rv,pl,_⟩:=I.list ha;obtain⟨a0,F,G,_⟩:=I.list hb;obtain⟨xu,ex,rx⟩:=rv.get hx;obtain⟨yu,ey,ry⟩:=F.get hy;refine wpAny_pyNext_zip_item D A t B Q O pl.isList G.isList (x:=xu) (y:=yu) (by simpa using ex) (by simpa using ey) fun h' a1 a2 a3 a4 a5 a6 hk=>⟨_,rfl,?_⟩;refine wpAny_letOwnedTupleGo_zip (s:={ s with heap:=h' }) a1 fun h'' z1 sb=>?_;have M:∀ c o,c≠z->h'.get? c=some o->h''.get? c=some o:=fun c o j e=>sb.extBut c o j e;have hn:H s.heap.objs.size=none:=I.hok.fresh (Ql _);have old:∀ c o,s.heap.get? c=some o->c≠s.heap.objs.size:=fun c o e=>Qu (Qs e);have zT:s.heap.objs.size≠z:=(old z _ A).symm
  have U:∀ c o,c∉[z,TI,TO,n,m]->s.heap.get? c=some o->h''.get? c=some o:=fun c o j e=>
   M c o (fun q=>j (by simp [q])) (hk c o (fun q=>j (by simp [q])) (fun q=>j (by simp [q])) (fun q=>j (by simp [q])) (fun q=>j (by simp [q])) e)
  have l:∀ c o,H c=some o->c∉[z,TI,TO,n,m]:=fun c o e f=>by
   have:=(N c f).1
   rw [this]at e;cases e
  have t2:IsPair h'' TI (.ref n) (.ref m):=M _ _ D.TIz (hk _ _ D.TIz D.TITO D.TIi1 D.TIi2 t);have t3:IsPair h'' TO xu yu:=M _ _ D.TOz a2;have t4:h''.IsListIter n a (i+1):=a3.at fun o e=>M _ o D.i1z e;have t5:h''.IsListIter m b (i+1):=a4.at fun o e=>M _ o D.i2z e
  have a8:dV X.prog X.w (aZ H s.heap.objs.size (.tup [x,y])) h'':=fun c o e=>by
   by_cases Y:c=s.heap.objs.size
   ·subst Y;rw [dY]at e;cases e
    exact⟨gE (by simp),[xu,yu],.cons rx (.cons ry .nil),⟨_,M _ _ zT a5,rfl,0,rfl⟩⟩
   ·rw [bI Y]at e
    refine(I.hok c o e).stay (fun d v J q=>U d v ?_ q) (fun d q=>by rw [bI (fV q hn)];exact q) fun d xs q=>by rw [bI (fV q hn)];exact q
    rcases J with rfl | J
    ·exact l _ _ e
    ·exact l _ _ J
  refine⟨.ref s.heap.objs.size,_,wA (s:=s) (h':=h'') (tk:=s.toks) I N U (fun c o e=>bI (old c o e)) (fun c o e=>by rw [bI (fV e hn)];exact e) a8,rfl,⟨_,hn,rfl,x,y,rfl,fun b0 h'=>by rw [I.list_inj h' ha];exact hx,fun a9 h'=>by rw [I.list_inj h' hb];exact hy⟩,⟨z1,t2,⟨_,_,t3⟩,t4,t5⟩,fun c f=>?_⟩
  ·have e:=(N c f).1
   have nT:c≠s.heap.objs.size:=by
    rcases Qj.mp f with rfl | f
    ·exact old _ _ A
    rcases Qj.mp f with rfl | f
    ·exact old _ _ t
    rcases Qj.mp f with rfl | f
    ·exact old _ _ B
    rcases Qj.mp f with rfl | f
    ·obtain⟨_,e',_⟩:=Q;exact old _ _ e'
    rcases Qj.mp f with rfl | f
    ·obtain⟨_,e',_⟩:=O;exact old _ _ e'
    cases f
   rw [bI nT];exact e
 done:=by
  intro X hP hw hK g i T s σ H E I N r hg;subst hP hw hK;obtain⟨xs,ys,ha,hb,p⟩:=hg;obtain⟨A,t,⟨u,v,B⟩,Q,O⟩:=r;obtain⟨a7,rv,pl,_⟩:=I.list ha;obtain⟨a0,F,G,_⟩:=I.list hb;have l1:=rv.length;have l2:=F.length
  refine wpAny_pyNext_zip_end (I.ok.hd g) D A t B Q O pl.isList G.isList (by
   rcases p with p | p
   ·left;simp;lia
   ·right;simp;lia) fun h' hk=>⟨rfl,?_⟩
  have U:∀ c o,c∉[z,TI,TO,n,m]->s.heap.get? c=some o->h'.get? c=some o:=fun c o j e=>
   hk c o (fun q=>j (by simp [q])) (fun q=>j (by simp [q])) (fun q=>j (by simp [q])) (fun q=>j (by simp [q])) e
  have l:∀ c o,H c=some o->c∉[z,TI,TO,n,m]:=fun c o e f=>by
   have:=(N c f).1
   rw [this]at e;cases e
  refine wA (s:=s) (h':=h') (tk:=s.toks) I N U (fun _ _ _=>rfl) (fun _ _ e=>e) fun c o e=>?_
  refine(I.hok c o e).stay (fun d v J q=>U d v ?_ q) (fun d q=>q) fun d xs q=>q
  rcases J with rfl | J
  ·exact l _ _ e
  ·exact l _ _ J
 self:=fun _ _ _ _ _ r h=>wpAny_pyIter_zip r.1 h
theorem fP{x y:Nat}(h:x≠y):@Ne JY x y:=h
theorem SO{n a b:Nat}(d:a<n)(c:b<n):ZipApart (n+4) (n+2) (n+3) n (n+1) a b:=
 ⟨fP (by lia),fP (by lia),fP (by lia),fP (by lia),fP (by lia),fP (by lia),fP (by lia),fP (by lia),fP (by lia),fP (by lia),fP (by lia),fP (by lia),fP (by lia),fP (by lia),fP (by lia),fP (by lia),fP (by lia),fP (by lia)⟩
def qK(K:PySem.W.Frag)(f:TA):TI:=fun d H R=>f d H fun e c=>∃ a b,e=[.ref a,.ref b]/\(∃ xs,cJ K c a xs)/\(∃ ys,cJ K c b ys)/\R (xE K a b) c
theorem Sk{X:Cx}{l:List Expr}{x1}{i:Pos}{a b:Expr}{o:TA}{p pos:Pos}(U:Gl X "zip")(S:X.mg "zip"=none)(W:PA X [a,b] o)(hs:J0 [a,b] X.env=[(false,Zs a X.env),(false,Zs b X.env)]:=by rfl)(k:J0 [b] X.env=[(false,Zs b X.env)]:=by rfl):
  PI X (.Tuple l x1 i) (.Call (.Name "zip" p) [a,b] [] pos) (qK X.K o):=by
 intro g s n H R I h;refine Call_ (kW I U S boot_zip (YM (bH (W pos g s n H _ I h) fun us d ⟨vs,z,I1,B,F⟩=>?_) (by rw [hs,k]) (by rw [k];rfl)));obtain⟨y,w,e,⟨xs,Q⟩,⟨ys,O⟩,q⟩:=F;subst e
 cases B with
 | cons r m=>
  cases m with
  | cons E m=>
   cases m;cases r;cases E;obtain⟨N,rv,t,_⟩:=I1.list Q;obtain⟨M,A,j,_⟩:=I1.list O;refine call_zip_2 t.isList j.isList fun v x a2 a3 Z Y a6 T=>?_;have I2:L2.Inv X g n z { d with heap:=v }:=I1.kept (t':=d.toks) T;refine wpAny_pyIter_zip (s:={ d with heap:=v }) x ?_
   have J:y<d.heap.objs.size:=by obtain⟨_,e,_⟩:=t.isList;exact Qs e
   have G:w<d.heap.objs.size:=by obtain⟨_,e,_⟩:=j.isList;exact Qs e
   refine⟨_,[d.heap.objs.size+4,d.heap.objs.size+2,d.heap.objs.size+3,d.heap.objs.size,d.heap.objs.size+1],_,_,z,rfl,I2,Tl y w (d.heap.objs.size+4) (d.heap.objs.size+2) (d.heap.objs.size+3) d.heap.objs.size (d.heap.objs.size+1) (SO J G),⟨x,a2,⟨_,_,a3⟩,Z,Y⟩,fun c f=>?_,q⟩
   have u:d.heap.objs.size<=c:=by
    rcases Qj.mp f with rfl | f
    ·exact Yi _ _
    rcases Qj.mp f with rfl | f
    ·exact Yi _ _
    rcases Qj.mp f with rfl | f
    ·exact Yi _ _
    rcases Qj.mp f with rfl | f
    ·exact Ql _
    rcases Qj.mp f with rfl | f
    ·exact Yi _ _
    cases f
   exact I1.fpOk u (I1.hok.fresh u)
end ZL
namespace DL
open PySem.Spec L2 ZL
def Bz:List D->Option (List D)
 | [.list xs,.list ys]=>some (List.zipWith (fun x y=>.tuple [x,y]) xs ys)
 | _=>none
theorem O3{K:PySem.W.Frag}{F:JY->Prop}{H:Hp}{a b:JY}{vs us:List V}{ds es:List D}(I:kO K F H a vs)(t:Reps K F H ds vs)(G:kO K F H b us)(s:Reps K F H es us):lL K F H (List.zipWith (fun x y=>.tuple [x,y]) ds es) (xE K a b):=fun M R T z i=>by
 have g:=I.stay T;have f:=G.stay T;have k:=t.stay T;have j:=s.stay T
 refine⟨fun d c=>?_,fun E=>⟨vs,us,g.sq,f.sq,?_⟩⟩
 ·rw [List.getElem?_zipWith]at c
  cases e:ds[i]? with
  | none=>rw [e]at c;cases c
  | some x=>
   cases h:es[i]? with
   | none=>rw [e,h]at c;cases c
   | some y=>
    rw [e,h]at c;cases c;obtain⟨v,q,J⟩:=k.get e;obtain⟨u,o,R2⟩:=j.get h
    refine⟨⟨vs,us,v,u,g.sq,f.sq,q,o⟩,fun w Q r=>?_⟩
    obtain⟨p,n,rfl,O,N,rfl,B,A⟩:=r;have m:=B vs g.sq;have l:=A us f.sq;rw [q]at m;cases m;rw [o]at l;cases l
    exact⟨M,aM.fresh n,aV.newTup n (.cons J (.cons R2 .nil))⟩
 ·rw [List.length_zipWith]at E;rw [<- k.length,<- j.length];lia
theorem Nl{X:Cx}{d:List Expr}{x1}{c:Pos}{a b:Expr}{gr:aA->Option (List D)}{p pos:Pos}(j:Gl X "zip")(i:X.mg "zip"=none)(l:DA X [a,b] gr)(hs:J0 [a,b] X.env=[(false,Zs a X.env),(false,Zs b X.env)]:=by rfl)(g:J0 [b] X.env=[(false,Zs b X.env)]:=by rfl):
  DI X (.Tuple d x1 c) (.Call (.Name "zip" p) [a,b] [] pos) (fun ρ=>(gr ρ).bind Bz):=
 AL (Sk j i l hs g) fun u H R h=>by
  obtain⟨F,e,ρ,x,S,q,k⟩:=h;obtain⟨v,m,q⟩:=aN q;unfold Bz at q
  split at q
  ·cases q
   refine⟨F,e,ρ,_,S,m,fun s o w t n=>?_⟩
   cases n with
   | cons r f=>
    cases r with
    | @lst a' vs' _ h1 r1=>
     cases f with
     | cons r f=>
      cases r with
      | @lst b' us' _ h2 r2=>
       cases f
       exact⟨a',b',rfl,⟨_,h1.sq⟩,⟨_,h2.sq⟩,k s o _ t (O3 h1 r1 h2 r2)⟩
  ·cases q
end DL
namespace DL
open PySem.Spec PySem.SeqAt L2 CL SD ZL
def cutD(xs:List D)(a b:Option Int):List D:=(xs.drop (HT.sIx xs.length 0 a)).take (HT.sIx xs.length xs.length b-HT.sIx xs.length 0 a)
def L1(K:PySem.W.Frag)(g:aA->Option (Option Int)):TO:=fun a H Q=>mP K a H g fun F o=>∀ F' H',aM F F' H H'->Q o H'
def DO(X:Cx)(e:Option Expr)(g:aA->Option (Option Int)):Prop:=PO X e (L1 X.K g)
def qP:aA->Option (Option Int):=fun _=>some none
def oE(g:aA->Option D):aA->Option (Option Int):=fun a=>(g a).bind fun d=>(Cq d).bind fun i=>some (some i)
section
variable {X:Cx}{a b e:Expr}{ga:aA->Option D}{pos p p2:Pos}{lo hi:Option Expr}{gl gh:aA->Option (Option Int)}
theorem Hm{o:Option Expr}{t t':TO}(h:PO X o t)(m:∀ σ H Q,t' σ H Q->t σ H Q):PO X o t':=fun a s σ H Q I q=>h a s σ H Q I (m σ H Q q)
theorem CT:DO X none qP:=Hm Ss fun c H Q b=>by
 obtain⟨F,a,d,o,S,q,k⟩:=b;cases q;exact k F H (aM.refl F H)
theorem CU(h:DE X e ga):DO X (some e) (oE ga):=Hm (Su h) fun p H Q c=>by
 obtain⟨F,a,b,o,S,q,k⟩:=c;obtain⟨d,g,q⟩:=aN q;obtain⟨i,f,q⟩:=aN q;cases q
 exact⟨F,a,b,d,S,g,fun m l v n j=>⟨i,R5 j f,k m l n⟩⟩
theorem Reps.cut{K:PySem.W.Frag}{F:JY->Prop}{H:Hp}{ds:List D}{vs:List V}(r:Reps K F H ds vs)(a b:Option Int):Reps K F H (cutD ds a b) (lO vs a b):=by
 unfold cutD lO;rw [r.length]
 exact(r.drop _).take _
def zK:D->String
 | .none=>"NoneType"
 | .bool _=>"bool"
 | .int _=>"int"
 | .str _=>"str"
 | .list _=>"list"
 | .tuple _=>"tuple"
 | .dict _=>"dict"
def tX(T:String)(d:D):Bool:=zK d == T || (T == "int" && zK d == "bool")
def Bl:D->Bool
 | .dict _=>true
 | _=>false
def tU(T:String)(ga:aA->Option D):aA->Option D:=fun a=>(ga a).bind fun d=>if Bl d=true then none else some (.bool (tX T d))
theorem Ot(K:PySem.W.Frag)(T:String)(a:T="list" ∨ T="tuple" ∨ T="int" ∨ T="bool" ∨ T="str" ∨ T="dict")(d:D):PySem.W.kitOne K (.type (zK d)) (.type T)=some (tX T d):=by
 rcases a with rfl | rfl | rfl | rfl | rfl | rfl <;> cases d <;> (first | rfl | (unfold PySem.W.kitOne;with_unfolding_all rfl) | decide +kernel)
theorem MV{T:String}(A:T="list" ∨ T="tuple" ∨ T="int" ∨ T="bool" ∨ T="str" ∨ T="dict"):dW X (.builtin "isinstance") (fun xs H Q=>∃(F:JY->Prop) (d:D) (x:V),aV X.K F H d x/\Bl d=false/\xs=[x,.ty T]/\Q (.bl (tX T d)) H):=by
 intro f s p H xs B Q I v h;obtain⟨F,d,x,R,m,rfl,q⟩:=h;obtain⟨u,r,rfl,c,w⟩:=Bv v
 cases(show r=Value.type T from w)
 have ok:=Ot X.K T A d;have fin:∀ g,EP X f p Q (.bool (tX T d)) { s with toks:=g }:=fun g=>⟨.bl _,H,I.tok g,rfl,q⟩
 cases R with
 | non=>cases(show u=Value.none from c);exact PySem.W.kia_one PySem.W.kitx_none I.kIn Z4 ok (fun z=>nomatch z) fin
 | dct _ _ _ _ _=>cases m
 | exn _ _ _=>cases m
 | bl b=>cases(show u=Value.bool b from c);exact PySem.W.kia_one PySem.W.kitx_bool I.kIn Z4 ok (fun z=>nomatch z) fin
 | int i=>obtain⟨t,e⟩:=(show ∃ t,u=Value.int i t from c);cases e;exact PySem.W.kia_one PySem.W.kitx_int I.kIn Z4 ok (fun z=>nomatch z) fin
 | str y=>obtain⟨t,e⟩:=(show ∃ t,u=Value.str y t from c);cases e;exact PySem.W.kia_one PySem.W.kitx_str I.kIn Z4 ok (fun z=>nomatch z) fin
 | @tup a vs ds h1 r1=>
  cases(show u=Value.ref a from c)
  obtain⟨j,_,⟨o,l,k,_⟩,_⟩:=I.tuple h1;exact PySem.W.kia_one PySem.W.kitx_tuple I.kIn ⟨o,l,k⟩ ok (fun z=>nomatch z) fin
 | @lst a vs ds h1 r1=>
  cases(show u=Value.ref a from c)
  obtain⟨j,_,⟨o,n,l,k,_⟩,_⟩:=I.list h1.sq;exact PySem.W.kia_one PySem.W.kitx_list I.kIn ⟨o,l,k⟩ ok (fun z=>nomatch z) fin
theorem MQ:Zk "isinstance"=some (.builtin "isinstance"):=by decide +kernel
theorem Ai{T:String}{a:Str}{b:Pos}(w:T="list" ∨ T="tuple" ∨ T="int" ∨ T="bool" ∨ T="str" ∨ T="dict")(t:Gl X "isinstance")(s:X.mg "isinstance"=none)(j:Gl X a)(i:X.mg a=none)(g:Zk a=some (.type T))(r:a≠"__name__")(u:DE X e ga)
  (hs:J0 [e,.Name a b] X.env=(false,Zs e X.env)::J0 [.Name a b] X.env:=by rfl) (h:J0 [.Name a b] X.env=(false,Zs (.Name a b) X.env)::J0 [] X.env:=by rfl) (l:(a == ("__debug__":Str))=false:=by decide)
  (hpl:(Zo pos (J0 [.Name a b] X.env)).any (·.1)=false:=by rfl):DE X (.Call (.Name "isinstance" p) [e,.Name a b] [] pos) (tU T ga):=
 eQ (Hb (MV w) t s MQ (k4 u (k4 (PV (v:=.ty T) j i g rfl r l) nJ h) hs) (he:=hs) (hpl:=hpl)) fun E H Q o=>by
  obtain⟨F,f,n,d,S,q,k⟩:=o;obtain⟨x,y,q⟩:=aN q;by_cases c:Bl x=true
  ·rw [if_pos c]at q;cases q
  ·rw [if_neg c]at q;cases q
   exact⟨F,f,n,x,S,y,fun m A v B z=>⟨m,x,v,z,by simpa using c,rfl,k m A _ B (.bl _)⟩⟩
end
def De(a:ZK)(oN N':List Str)(scope:ZK)(inner:List (Option Nat)):Bool:=
 scope.kind == .function && scope.names.all (fun x=>x.2 != .cell) && scope.names.all (fun x=>x.2 != .local || scope.names.lookup x.1 == some .local) &&
 scope.names.all (fun x=>x.2 != .free || (scope.names.lookup x.1 == some .free && (a.names.lookup x.1 == some .cell || a.names.lookup x.1 == some .free))) && inner.length == N'.length &&
 (J5 inner.length).all fun i=>match inner[i]? with
  | some (some j)=>match N'[i]? with
   | some x=>oN[j]? == some x && scope.names.lookup x == some .free
   | none=>false
  | _=>true
theorem gM{X:Cx}{N':List Str}{scope:ZK}{inner:List (Option Nat)}(a:ZK)(oN:List Str)(k:X.env.scope=a)(g:X.N=oN)(h:De a oN N' scope inner=true):o9 X N' scope inner:=by
 unfold De at h;simp only [QO]at h;obtain⟨⟨⟨⟨⟨r,q⟩,p⟩,o⟩,n⟩,m⟩:=h
 refine⟨Yt r,fun x b e=>?_,fun x b e=>?_,fun x b e=>?_,Yt n,fun i j e=>?_⟩
 ·have:=QZ.mp q x b
  rw [e]at this;cases this
 ·have:=QZ.mp p x b
  rw [e]at this;rcases Bool.or_eq_true_iff.mp this with z | z
  ·cases z
  ·exact Yt z
 ·have:=QZ.mp o x b
  rw [e]at this;rcases Bool.or_eq_true_iff.mp this with z | z
  ·cases z
  ·obtain⟨d,c⟩:=QD.mp z
   refine⟨Yt d,?_⟩
   rw [k];rcases Bool.or_eq_true_iff.mp c with z | z
   ·exact .inl (Yt z)
   ·exact .inr (Yt z)
 ·have f:i<inner.length:=(Qf.mp e).1
  have:=QZ.mp m i (QS.mpr f)
  rw [e]at this;dsimp only at this
  split at this
  ·rename_i x l;obtain⟨d,c⟩:=QD.mp this
   exact⟨x,l,by rw [g];exact Yt d,Yt c⟩
  ·cases this
theorem gK{k:Nat}{A:Around}(r:dC k A):A.units+64<J8:=by have:=r.un;lia
theorem cY{k:Nat}{A:Around}(r:dC k A):A.units+65<J8:=by have:=r.un;lia
theorem l0{k:Nat}{A:Around}(r:dC k A):A.units+66<J8:=by have:=r.un;lia
theorem pN{K:PySem.W.Frag}{F:JY->Prop}{H:Hp}:∀ ns:List Int,Reps K F H (ns.map J3) (ns.map V.int)
 | []=>.nil
 | n::ns=>.cons (.int n) (pN ns)
theorem cO{P:J2}{w:J4}{K:PySem.W.Frag}{mg:Str->Option Value}{base:Heap}{x a:Str}{b:Zj}{f:JY}{d:Zu}{N c:List Str}{k n m:Nat}{g:aA->Option aP}{G:List D->Option D}(j:G=bU m g)(e:c.length=n)(h:N.length=m)(F:mK K x a b f d)(S:bX N c (bB b))
  (i:∀(cdv:Value) (A:Around) (outer:List Env) (s:YP) (H:Hp) (E:XK),dC k (A.deeper (UZ a (bB b) s.heap.objs.size f cdv))->
   iL (kQ aR P w K mg base N a (bB b) f cdv A outer s H E).nox (fM b) g):aQ P w K mg base aR (k+1) f d c (aW K n G):=by
 subst e h j;exact II F S i
end DL
namespace SL
open PySem.Spec L2 CL DL SD ST
section
variable {X:Cx}{pins:List (JY × Obj)}{σ:L2.St}{H:Hp}{s:YP}
theorem hJ(I:Inv X pins σ H s){b:JY}{k:List Int}(h:bR X.K H b (k.map V.int)):TK X.prog X.w s.heap k b:=by
 obtain⟨a,c,j,l⟩:=I.tuple h;obtain⟨o,f,e,n,d⟩:=j
 refine⟨o,a.toArray,n,f,e,d,?_⟩
 show ItemsAre (intKind X.prog X.w) k a
 clear h d f e l;generalize hxs:k.map V.int=g at c
 induction c generalizing k with
 | nil=>
  cases k with
  | nil=>exact .nil
  | cons _ _=>simp at hxs
 | @cons x u g us r t ih=>
  cases k with
  | nil=>simp at hxs
  | cons i k=>
   rw [Qp,List.cons.injEq]at hxs;obtain⟨p,m⟩:=hxs;subst p;obtain⟨q,rfl⟩:=r;exact .cons (intKind_is _ _ _ _) (ih m)
abbrev qA:=List (List Int)->Hp->Prop
abbrev qE:=L2.St->Hp->qA->Prop
def Cl(X:Cx)(pins:List (JY × Obj))(σ:L2.St)(Q:qA)(u:Value)(c:YP):Prop:=
 ∃ a o ks H',u=.ref a/\Inv X ((a,o)::pins) σ H' c/\cX X.prog X.w (fun v=>∃ b,∃ xs:List Int,v=.ref b/\bR X.K H' b (xs.map V.int)) c.heap a ks/\(∀ p∈pins,p.1≠a)/\Q ks H'
def tQ(X:Cx)(e:Expr)(t:qE):Prop:=
 ∀(pins:List (JY × Obj)) (s:YP) (σ:L2.St) (H:Hp) (Q:qA),Inv X pins σ H s->t σ H Q->JZ (J1 X.prog X.w) X.A (Zs e X.env) (Cl X pins σ Q) X.xe s
def Mj(K:PySem.W.Frag)(t:TA):qE:=fun d H Q=>t d H fun e c=>∃(a:JY) (xs:List V) (kl:List (List Int)),e=[.ref a]/\(cJ K c a xs ∨ bR K c a xs)/\xs.length<=75/\xs.length=kl.length/\(∀(i:Nat) (x:V),xs[i]?=some x->∃ b,x=.ref b/\bR K c b ((kl.getD i []).map V.int))/\∀ ks:List (List Int),ks.Nodup->(∀ k,k∈ks ↔ k∈kl)->Q ks c
theorem k6{x:Str}{e:Expr}{p pos:Pos}{t:TA}(hc:X.calm=true)(hu:X.A.units+64<J8)(hg:Gl X x)(hm:X.mg x=none)(m:Zk x=some (.type "set"))(ha:PA X [e] t)(hn:x≠"__name__":=by decide)(S:(x == ("__debug__":Str))=false:=by decide)
  (he:J0 [e] X.env=(false,Zs e X.env)::J0 [] X.env:=by rfl) (hpl:(Zo pos (J0 [] X.env)).any (·.1)=false:=by rfl):
  tQ X (.Call (.Name x p) [e] [] pos) (Mj X.K t):=by
 intro d s M H Q I h;refine Jc (kW I hg hm m ?_ hn S);refine YM (bH (ha pos d s M H _ I h) fun us s1 ⟨vs,J,I1,r1,q1⟩=>?_) he hpl;obtain⟨a,l,kl,rfl,B,a0,F,R,q⟩:=q1;obtain⟨u,rfl,ru⟩:=iK r1;cases ru
 have go:∀ c:List Value,Vals l c->(∀(f:List (List Int)) (O:Value->YP->Prop),(∀ i v,c.toArray[i]?=some v->(∃ b,∃ l:List Int,v=.ref b/\bR X.K J b (l.map V.int))/\∃ b,v=.ref b/\TK X.prog X.w s1.heap (f.getD i []) b)->
   c.toArray.size<=75->(∀(n:Heap) (N:Nat) r,cX X.prog X.w (fun v=>∃ b,∃ l:List Int,v=.ref b/\bR X.K J b (l.map V.int)) n s1.heap.objs.size r->lM r (fun i=>f.getD i []) c.toArray.size->
   (∀ b o,s1.heap.get? b=some o->n.get? b=some o)->O (.ref s1.heap.objs.size) { s1 with heap:=n,toks:=N })->JZ (J1 X.prog X.w) X.A (call (.type "set") [.ref a]) O X.xe s1)->
   JZ (J1 X.prog X.w) X.A (call (.type "set") [.ref a]) (Cl X d M Q) X.xe s1:=by
  intro c g cs
  have z:c.toArray.size=kl.length:=by rw [QA,<- g.length,F]
  refine cs kl _ (fun i v m=>?_) (by rw [z];lia) fun n N r S' K' keep=>?_
  ·have y:c[i]?=some v:=by simpa using m
   have hi:i<l.length:=by
    have:=(Qf.mp y).1
    rw [g.length];exact this
   obtain⟨u,e1,e2⟩:=Vals.get g (Qh hi);rw [y]at e1;cases e1;obtain⟨b,e3,e4⟩:=R i _ (Qh hi);rw [e3]at e2;cases e2
   exact⟨⟨b,_,rfl,e4⟩,b,rfl,hJ I1 e4⟩
  ·obtain⟨o,es,ep,t,z1,z2,Z,z4,z5,z6,Y,z8⟩:=S';have I2:Inv X d M J { s1 with heap:=n,toks:=N }:=I1.kept keep
   have I3:Inv X ((s1.heap.objs.size,o)::d) M J { s1 with heap:=n,toks:=N }:=by
    refine I2.pins_of fun p E=>?_;rcases Qj.mp E with rfl | E
    ·refine⟨z1,I1.hok.fresh (Ql _),Yw I1.lt,I1.nofs (Ql _),fun v m=>?_⟩
     rw [Z]at m;exact nomatch m
    ·exact I2.pin p (Qk _ E)
   refine⟨_,o,r,J,rfl,I3,⟨o,es,ep,t,z1,z2,Z,z4,z5,z6,Y,z8⟩,fun p E=>Qu (Qs (I1.pin p (Qk _ E)).1),q r Y fun k=>(K' k).trans ?_⟩
   rw [z];constructor
   ·rintro⟨j,G,rfl⟩
    show kl.getD j []∈kl
    rw [QP,Qh G];exact YB G
   ·intro hk;obtain⟨j,G⟩:=Q1 hk
    refine⟨j,(Qf.mp G).1,?_⟩
    show kl.getD j []=k
    rw [QP,G];rfl
 rcases B with B | B
 ·obtain⟨c,g,pl,_⟩:=I1.list B;exact go c g fun f O W U T=>M1 (kl:=f) (I1.ok.hd hc) (by lia) pl.isList W U T
 ·obtain⟨c,g,it,hz⟩:=I1.tuple B;exact go c g fun f O W U T=>M0 (kl:=f) (I1.ok.hd hc) (by lia) it W U T
end
def pY:List D->Option (List (List Int))
 | []=>some []
 | .tuple ds::r=>(cZ ds).bind fun b=>(pY r).bind fun a=>some (b::a)
 | _=>none
theorem GN{K:PySem.W.Frag}{F:JY->Prop}{H:Hp}:∀{ds:List D}{vs:List V}{kl:List (List Int)},Reps K F H ds vs->pY ds=some kl->ds.length=kl.length/\∀(i:Nat) (x:V),vs[i]?=some x->∃ b,x=.ref b/\bR K H b ((kl.getD i []).map V.int):=by
 intro ds
 induction ds with
 | nil=>intro vs kl r h;cases r;cases h;exact⟨rfl,fun i x e=>by simp at e⟩
 | cons d ds k=>
  intro vs kl r h
  cases r with
  | cons f r=>
   cases d with
   | tuple n=>
    cases f with
    | tup a c=>
     obtain⟨p,m,h⟩:=aN h;obtain⟨o,l,h⟩:=aN h;cases h;obtain⟨j,g⟩:=k r l
     refine⟨by simp [j],fun i x e=>?_⟩
     cases i with
     | zero=>
      cases e
      refine⟨_,rfl,?_⟩
      rw [m8 c m]at a;exact a
     | succ i=>exact g i x (by simpa using e)
   | _=>cases h
def CK(K:PySem.W.Frag)(g:aA->Option (List (List Int))):qE:=fun a H Q=>mP K a H g fun F b=>∀ F' H' (ks:List (List Int)),aM F F' H H'->ks.Nodup->(∀ k,k∈ks ↔ k∈b)->Q ks H'
def xA(X:Cx)(e:Expr)(g:aA->Option (List (List Int))):Prop:=tQ X e (CK X.K g)
def uQ:List D->Option (List (List Int))
 | [.list xs]=>if xs.length<=75 then pY xs else none
 | [.tuple xs]=>if xs.length<=75 then pY xs else none
 | _=>none
def tV(gr:aA->Option (List D)):aA->Option (List (List Int)):=fun a=>(gr a).bind uQ
def dd:List (List Int)->List (List Int)
 | []=>[]
 | k::r=>if k∈r then dd r else k::dd r
theorem u4:∀{l:List (List Int)}{k:List Int},k∈dd l ↔ k∈l
 | [],k=>by simp [dd]
 | x::r,k=>by
  unfold dd;split
  ·rename_i h;rw [u4,Qj];constructor
   ·exact .inr
   ·rintro(rfl | a)
    ·exact h
    ·exact a
  ·rw [Qj,Qj,u4]
theorem AG:∀ l:List (List Int),(dd l).Nodup
 | []=>JL
 | x::r=>by
  unfold dd;split
  ·exact AG r
  ·rename_i h;exact Ys.mpr ⟨fun q=>h (u4.mp q),AG r⟩
section
variable {X:Cx}{e:Expr}{p pos:Pos}{gr:aA->Option (List D)}{g:aA->Option (List (List Int))}
theorem ps_mono{e:Expr}{t t':qE}(h:tQ X e t)(m:∀ σ H Q,t' σ H Q->t σ H Q):tQ X e t':=fun a s σ H Q I q=>h a s σ H Q I (m σ H Q q)
theorem ED{x:Str}(E:X.calm=true)(y:X.A.units+64<J8)(B:Gl X x)(z:X.mg x=none)(w:Zk x=some (.type "set"))(G:DA X [e] gr)(b:x≠"__name__":=by decide)(l:(x == ("__debug__":Str))=false:=by decide)
  (he:J0 [e] X.env=(false,Zs e X.env)::J0 [] X.env:=by rfl) (hpl:(Zo pos (J0 [] X.env)).any (·.1)=false:=by rfl):
  xA X (.Call (.Name x p) [e] [] pos) (tV gr):=
 ps_mono (k6 E y B z w G b l he hpl) fun K H Q v=>by
  obtain⟨F,d,u,n,S,q,k⟩:=v;obtain⟨J,I,q⟩:=aN q
  refine⟨F,d,u,J,S,I,fun s r M t o=>?_⟩
  unfold uQ at q
  split at q
  ·rename_i h;by_cases c:h.length<=75
   ·rw [if_pos c]at q
    cases o with
    | cons R2 m=>
     cases m
     cases R2 with
     | @lst a us _ h1 r1=>
      obtain⟨g,f⟩:=GN r1 q
      exact⟨a,us,n,rfl,.inl h1.sq,by rw [<- r1.length];exact c,by rw [<- r1.length,g],f,fun i b j=>k s r i t b j⟩
   ·rw [if_neg c]at q;cases q
  ·rename_i h;by_cases c:h.length<=75
   ·rw [if_pos c]at q
    cases o with
    | cons R2 m=>
     cases m
     cases R2 with
     | @tup a us _ h1 r1=>
      obtain⟨g,f⟩:=GN r1 q
      exact⟨a,us,n,rfl,.inr h1,by rw [<- r1.length];exact c,by rw [<- r1.length,g],f,fun i b j=>k s r i t b j⟩
   ·rw [if_neg c]at q;cases q
  ·cases q
end
end SL
namespace ST
open PySem.SetTable
section
variable {prog:J2}{w:J4}{A:Around}{E:Value->YP->Prop}{s:YP}
theorem OR{r:JY}{Q:Bool->YP->Prop}(c:s.TypeIs (.ref r) "set")(h:Q false s):JZ (J1 prog w) A (Builtin.List.listLengthHint (.ref r)) Q E s:=by
 unfold Builtin.List.listLengthHint;refine Qa (JF c PySem.F.slot_set_len.lookup ?_);generalize hid:("set.__len__":String)=a
 wp_delta
 rw [show splitId a=some ("set","__len__")from by subst hid;decide +kernel];subst hid;refine Qa (Ju (T:="set") (b:=true) c (by rw [Uu];kernel_rfl) ?_);refine wpAny_ite_split (fun z=>absurd z (by decide)) fun _=>wpAny_ite_split (fun _=>?_) fun z=>absurd (by decide +kernel) z;exact Qa (Y8 c (Qb h))
theorem TV(a:JY)(o:Obj)(es:Array (Int × Value))(b:Nat)(t:SetTable):PySem.W.KdlSrc prog w "set" a a es.size (fun i v=>∃ x,(gR w a b es)[i]?=some x/\v=x.2) (fun h=>iU w h a o es b t) where
 type:=fun s S=>⟨o,S.get,S.ex.1⟩
 there:=fun h S=>⟨Qs S.get,Qs S.get⟩
 keep:=fun h f S c=>S.at (c a (.inl rfl) o S.get)
 notList:=by decide
 notTuple:=by decide
 hint:=fun A E s Q S h=>OR ⟨o,S.get,S.ex.1⟩ h
 iter:=fun A s d S=>⟨_,_,fun E Q e=>O5 S e,Walks.set d _ a (Qu (Qs S.get)) o es b t,⟨0,fun _=>MM _ S.up,⟨_,Qr _ rfl,rfl,rfl⟩,S.at (Qc _ S.get)⟩⟩
theorem O4{w:J4}{a:JY}{d:Nat}{es:Array (Int × Value)}{b:Array Value}(h:ItemsOf (fun i v=>∃ x,(gR w a d es)[i]?=some x/\v=x.2) b es.size):b.toList=(gR w a d es).toList.map (·.2):=by
 refine List.ext_getElem? fun i=>?_;rw [QF,QI,QI];by_cases l:i<es.size
 ·have c:i<b.size:=by rw [h.1];exact l
  obtain⟨x,f,e⟩:=h.2 i _ (QJ c);rw [f,QJ c,e];rfl
 ·rw [Yl (by rw [h.1];lia),Yl (by rw [wD];lia)];rfl
theorem bY.perm{h:Heap}{es a:List (Int × Value)}(p:Zc es a):∀{ks:List (List Int)},bY prog w h es ks->∃ ks',bY prog w h a ks'/\Zc ks' ks:=by
 induction p with
 | nil=>intro ks X;exact⟨ks,X,.refl _⟩
 | cons x _ i=>
  intro ks X
  cases X with
  | cons d r=>
   obtain⟨ks',n,q⟩:=i r
   exact⟨_,.cons d n,q.cons _⟩
 | swap x y l=>
  intro ks X
  cases X with
  | cons d r=>cases r with
   | cons j r=>exact⟨_,.cons j (.cons d r),.swap _ _ _⟩
 | trans _ _ c b=>
  intro ks X;obtain⟨o,m,f⟩:=c X;obtain⟨g,k,e⟩:=b m
  exact⟨g,k,e.trans f⟩
theorem ItemsAre.unique:∀{k k':List Int}{vs:List Value},ItemsAre (intKind prog w) k vs->ItemsAre (intKind prog w) k' vs->k=k'
 | _,_,_,.nil,h=>by cases h;rfl
 | _,_,_,.cons h1 r1,h=>by
  cases h with
  | cons c b=>
   obtain⟨f,d⟩:=Value.isInt_shape h1;obtain⟨e,a⟩:=Value.isInt_shape c;rw [d]at a;cases a;rw [ItemsAre.unique r1 b]
theorem TK.unique{h:Heap}{k k':List Int}{a:JY}(x:TK prog w h k a)(y:TK prog w h k' a):k=k':=by
 obtain⟨o,e,n,g,_,j,i⟩:=x;obtain⟨l,d,m,b,_,c,f⟩:=y;rw [g]at b;cases b;rw [j]at c;cases c;exact ItemsAre.unique i f
def Ig(prog:J2)(w:J4)(V:Value->Prop)(h:Heap)(a:JY)(o:Obj)(ks:List (List Int)):Prop:=
 ∃ es ep t,iU w h a o es ep t/\bY prog w h es.toList ks/\ks.Nodup/\∀ e∈es.toList,V e.2
end
end ST
namespace SL
open PySem.Spec L2 CL DL SD ST
def fL(k:List Int):D:=.tuple (k.map J3)
section
variable {X:Cx}{pins:List (JY × Obj)}{σ:L2.St}{H:Hp}{s:YP}
abbrev VT(K:PySem.W.Frag)(H:Hp)(v:Value):Prop:=∃ b,∃ xs:List Int,v=.ref b/\bR K H b (xs.map V.int)
def Ih(X:Cx)(pins:List (JY × Obj))(σ:L2.St)(Q:qA)(u:Value)(b:YP):Prop:=
 ∃ a o ks H',u=.ref a/\Inv X ((a,o)::pins) σ H' b/\Ig X.prog X.w (VT X.K H') b.heap a o ks/\Q ks H'
def Ie(X:Cx)(e:Expr)(t:qE):Prop:=
 ∀(pins:List (JY × Obj)) (s:YP) (σ:L2.St) (H:Hp) (Q:qA),Inv X pins σ H s->t σ H Q->JZ (J1 X.prog X.w) X.A (Zs e X.env) (Ih X pins σ Q) X.xe s
def BD(X:Cx)(e:Expr)(g:aA->Option (List (List Int))):Prop:=Ie X e (CK X.K g)
theorem EK{F:JY->Prop}(I:Inv X pins σ H s):∀{es:List (Int × Value)}{ks:List (List Int)},bY X.prog X.w s.heap es ks->(∀ e∈es,VT X.K H e.2)->∃ vs:List V,Reps X.K F H (ks.map fL) vs/\Vals vs (es.map (·.2))
 | _,_,.nil,_=>⟨[],.nil,.nil⟩
 | _,_,.cons (k:=k) (b:=b) h1 r,hv=>by
  obtain⟨vs,d,c⟩:=EK (F:=F) I r fun e f=>hv e (Qg _ f);obtain⟨h,xs,g,a⟩:=hv _ Qe;cases g
  have:k=xs:=h1.unique (hJ I a)
  subst this
  exact⟨.ref b::vs,.cons (.tup a (pN k)) d,.cons rfl c⟩
end
theorem R9{d0:List D}{ds a:List D}(p:Zc ds a):∀{l:List KD},eZ d0 ds=some l->∃ l',eZ d0 a=some l'/\Zc l' l:=by
 induction p with
 | nil=>intro l h;exact⟨l,h,.refl _⟩
 | cons x _ q=>
  intro l h;obtain⟨k,g,h⟩:=aN h;obtain⟨r,f,h⟩:=aN h;cases h;obtain⟨l',c,b⟩:=q f
  exact⟨(k,x)::l',by unfold eZ;rw [g,c];rfl,b.cons _⟩
 | swap x y v=>
  intro l h;obtain⟨k,g,h⟩:=aN h;obtain⟨r,f,h⟩:=aN h;cases h;obtain⟨o,t,h⟩:=aN f;obtain⟨i,s,h⟩:=aN h;cases h
  exact⟨(o,x)::(k,y)::i,by unfold eZ;rw [t];unfold eZ;rw [g,s];rfl,.swap _ _ _⟩
 | trans _ _ e d=>
  intro l h;obtain⟨u,c,b⟩:=e h;obtain⟨n,m,j⟩:=d c
  exact⟨n,m,j.trans b⟩
theorem TF{d0:List D}{ds d:List D}{l c:List KD}(h:eZ d0 ds=some l)(h':eZ d0 d=some c)(p:Zc c l):gD c=gD l:=by
 refine Av (((p7 c).trans p).trans (p7 l).symm) (sZ c) (sZ l) fun a i b g e=>?_;have r:=(wJ h').2;have f:=r a ((p7 c).mem_iff.mp i);have j:=r b ((p7 c).mem_iff.mp g);rw [e]at f;exact Jj e (mH f j)
def Ap(g:aA->Option (List (List Int))):aA->Option D:=fun a=>(g a).bind fun b=>n5 [.list ((dd b).map fL)]
section
variable {X:Cx}{e:Expr}{p pos:Pos}{g:aA->Option (List (List Int))}
theorem N5{x:Str}(hc:X.calm=true)(hu:X.A.units+66<J8)(hg:Gl X x)(hm:X.mg x=none)(hv:Zk x=some (.builtin "sorted"))(ha:BD X e g)(hn:x≠"__name__":=by decide)(T:(x == ("__debug__":Str))=false:=by decide)
  (he:J0 [e] X.env=(false,Zs e X.env)::J0 [] X.env:=by rfl) (hpl:(Zo pos (J0 [] X.env)).any (·.1)=false:=by rfl):
  DE X (.Call (.Name x p) [e] [] pos) (Ap g):=by
 intro i s Y H Q I ⟨F,y,ρ,d,S,q,k⟩;obtain⟨h,e1,q⟩:=aN q;refine Jc (kW I hg hm hv ?_ hn T);refine PyProof.Rows.callWith_builtin1 (Q:=?_) ?_ he hpl;rw [he]
 show JZ _ _ (spliced ((false,Zs e X.env)::Zo pos (J0 [] X.env))) _ _ s
 refine Calls.spliced_cons (bH (ha i s Y H (fun n J=>n.Nodup/\(∀ k,k∈n ↔ k∈h)/\∃ B,aM F B H J) I ⟨F,y,ρ,h,S,e1,fun B J n E1 M N=>⟨M,N,B,E1⟩⟩) fun u s1 zz=>?_);obtain⟨a,o,n,J,eu,I1,⟨G,U,t,S1,X1,M,v1⟩,_,N,B,E1⟩:=zz;refine Calls.spliced_nil ?_;subst eu;refine Z6 kind_sorted plain_sorted entry_sorted (args_sorted1 _) ?_;unfold Builtin.«sorted»;have K:Zc n (dd h):=(List.perm_ext_iff_of_nodup M (AG h)).mpr fun k=>(N k).trans u4.symm
 have a0:G.size=(dd h).length:=by rw [<- Qt,X1.length,K.length_eq]
 have O:(dd h).length<64:=by
  cases c:dd h with
  | nil=>decide
  | cons R j=>
   rw [c]at q;have f:(if(j.map fL).length<63 then _ else none)=some d:=q;by_cases z:(j.map fL).length<63
   ·rw [Qo]at z;simp;lia
   ·rw [if_neg z]at f;cases f
 refine Qa (m:=checkCount "sorted" 1 1 _) (Qb (Qa (PySem.W.kdu_collect (TV a o G U t) (by simp [I1.ok.hd hc]) S1 (gE (by lia)) fun h' tk a3 hk r=>?_)));have I2:Inv X i Y J { s1 with heap:=h',toks:=tk }:=(I1.pins_of fun p E=>I1.pin p (Qk _ (Qg _ E))).kept hk;obtain⟨a2,X2,p2⟩:=(X1.mono fun k b x=>x.at fun o e=>hk b o e).perm (pW X.w a U G).symm;obtain⟨vs,r1,Z⟩:=EK (F:=B) I2 X2 fun e he=>v1 e ((pW X.w a U G).mem_iff.mp he);rw [<- O4 r]at Z
 have v:∃ d0 l,eZ d0 ((dd h).map fL)=some l/\d=.list ((gD l).map (·.2)):=by
  cases c:dd h with
  | nil=>rw [c]at q;cases q;exact⟨[],[],rfl,rfl⟩
  | cons R j=>
   rw [c]at q;have f:(if(j.map fL).length<63 then(eZ (R.map J3) ((R::j).map fL)).bind fun l=>some (Uq ((gD l).map (·.2)))else none)=some d:=q;by_cases z:(j.map fL).length<63
   ·rw [if_pos z]at f;obtain⟨l,e2,f⟩:=aN f;cases f
    exact⟨_,l,e2,rfl⟩
   ·rw [if_neg z]at f;cases f
 obtain⟨d0,l,f1,rfl⟩:=v;obtain⟨l',f2,f3⟩:=R9 ((p2.trans K).map fL).symm f1;refine Gy hu I2 Z r1 f2 (by rw [Qo,(p2.trans K).length_eq];exact O) fun p a1 E r' _=>?_;rw [TF f1 f2 f3]at r';exact k _ _ _ (E1.trans (aM.frozen E)) (aV.newLst E r')
end
end SL
namespace ST
open PySem.SetTable
section
variable {prog:J2}{w:J4}{A:Around}{E:Value->YP->Prop}{s:YP}{V:Value->Prop}
theorem HQ{a:JY}{o:Obj}{es:Array (Int × Value)}{e:Nat}{t:SetTable}{b:List JY}{d:Option JY}{Q:Array (Int × Value)->YP->Prop}(S:iU w s.heap a o es e t)(h:Q (gR w a e es) s):
  JZ (J1 prog w) A (setWalkUnseen a b d) Q E s:=by
 unfold setWalkUnseen;refine Qa (QR S.get S.data S.fits ?_);dsimp only;refine Qa (vA ?_)
 have c:(w.params.followText "set-order" || (t.led && t.plain) || decide (es.size<=1))=true:=by
  rw [S.led,S.plain,jT]
  cases w.params.followText "set-order" <;> rfl
 rw [c,if_pos rfl];exact HP S h
theorem v6{id:String}{a:JY}{o:Obj}{es:Array (Int × Value)}{b:Nat}{t:SetTable}{Q:Unit->YP->Prop}(c:s.heap.get? a=some o)(e:o.data=.set es b t)(d:t.fits es.size=true)(h:Q () s):JZ (J1 prog w) A (Builtin.Frozenset.unchanged id a b) Q E s:=by
 unfold Builtin.Frozenset.unchanged setEpoch;refine Qa (Qa (QR c e d (Qb ?_)));rw [if_neg (by simp)];exact Qb h
theorem cX.setAt{h:Heap}{a:JY}{ks:List (List Int)}(S:cX prog w V h a ks):∃ o es ep t,iU w h a o es ep t/\gI t (es.toList.map (·.1))/\bY prog w h es.toList ks/\∀ e∈es.toList,V e.2:=by
 obtain⟨o,es,ep,t,j,i,g,b,c,f,k,d⟩:=S
 exact⟨o,es,ep,t,⟨j,i,g,b.fits (by simp),b.up,c.1,c.2⟩,b,f,d⟩
structure tI(prog:J2)(w:J4)(V:Value->Prop)(s:YP)(ka kb:List (List Int))(rest:List (Int × Value))(s':YP)(h':Heap)(kc kd krest:List (List Int)):Prop where
 eq:s'={ s with heap:=h' }
 kp:∀ b o,s.heap.get? b=some o->h'.get? b=some o
 SC:mO prog w V h' s.heap.objs.size kc
 Xr:bY prog w s.heap rest krest
 pk:Zc (kd++krest) kb
 lc:kc.length<=63
 me:∀ k,k∈kc ↔ k∈ka/\k∉kd
structure HY(prog:J2)(w:J4)(V:Value->Prop)(s:YP)(ka kb:List (List Int))(rest:List (Int × Value))(s':YP)(h':Heap)(kr kd krest:List (List Int)):Prop where
 eq:s'={ s with heap:=h' }
 kp:∀ b o,s.heap.get? b=some o->h'.get? b=some o
 SR:cX prog w V h' s.heap.objs.size kr
 Xr:bY prog w s.heap rest krest
 pk:Zc (kd++krest) ka
 me:∀ k,k∈kr ↔ k∈kd/\k∉kb
 vr:∀ e∈rest,V e.2
theorem Nn{id:String}{a b:JY}{ka kb:List (List Int)}{Q:Value->YP->Prop}(b0:a≠b)(hu:A.units<J8)(SA:cX prog w V s.heap a ka)(SB:cX prog w V s.heap b kb)(a4:ka.length<=63)
  (h:∀ h' r ks,s.heap.objs.size<=r->(∀ b o,s.heap.get? b=some o->h'.get? b=some o)->mO prog w V h' r ks->(∀ k,k∈ks ↔ k∈ka/\k∉kb)->Q (.ref r) { s with heap:=h' }):
  JZ (J1 prog w) A (Builtin.Frozenset.difference id a (.ref b)) Q E s:=by
 obtain⟨oa,ea,pa,ta,Sa,Ta,Xa,Va⟩:=SA.setAt;obtain⟨ob,eb,pb,tb,Sb,Tb,Xb,Vb⟩:=SB.setAt;have a7:s.TypeIs (.ref a) "set":=⟨oa,Sa.get,Sa.ex.1⟩;have a6:s.TypeIs (.ref b) "set":=⟨ob,Sb.get,Sb.ex.1⟩;have a1:=SA.nodup;unfold Builtin.Frozenset.difference;refine Qa (vX a6 ?_);simp only [YN,Qq,if_false,Bool.false_and];unfold ZS;refine Qa (Qb ?_);simp only [if_true];refine Qa (wU Sb.get Sb.data Sb.fits ?_);refine Qa (wU Sa.get Sa.data Sa.fits ?_);by_cases c:ea.size / 4 > eb.size
 ·rw [if_pos c];refine Qa (JW ?_);refine Qa (NQ SA (by lia) fun N F S SR pr=>?_);have lb:=Qs Sb.get;have Sb1:=Sb.at (S _ _ Sb.get);have Y:({ s with heap:=N }:YP).TypeIs (.ref b) "set":=⟨ob,Sb1.get,Sb.ex.1⟩;refine Qa (Qb ?_);refine Qa (QV ?_);unfold Builtin.Frozenset.differenceUpdate;rw [if_neg (by simpa using Qu lb)];refine Qa (vX Y ?_);rw [if_pos rfl];unfold ZS;refine Qa (Qb ?_);refine Qa (wU (s:={ s with heap:=N }) Sb1.get Sb1.data Sb1.fits ?_);obtain⟨oR,eR,pR,tR,SatR,TR,XR,VR⟩:=SR.setAt;refine Qa (wU (s:={ s with heap:=N }) SatR.get SatR.data SatR.fits ?_)
  have a8:eR.size=ea.size:=by rw [<- Qt,XR.length,pr.length_eq,<- Xa.length,Qt]
  rw [if_neg (by lia)];dsimp only;refine Qa (wpAny_setEpoch_of (s:={ s with heap:=N }) Sb1.get Sb1.data Sb1.fits ?_);refine Qa (QV (Qa (HQ (s:={ s with heap:=N }) Sb1 ?_)));obtain⟨ko,Xo,po⟩:=Xb.perm (pW w b pb eb).symm;rw [<- Um];refine Qa (YT _ (fun rest _ J=>∃ h' H kd d,tI prog w V s ka kb rest J h' H kd d) _ ?_ ?_ _ _ ?_)
  ·rintro x rest _ J ⟨h',H,kd,d,rfl,l,O,p,y,lc,mk⟩
   cases p with
   | @cons k bx _ d W p=>
    have G:TK prog w h' k bx:=W.at fun o e=>l bx o e
    have v:Zc ((kd++[k])++d) kb:=by rw [Q6];exact y
    dsimp only;refine Qa (QV (No (s:={ s with heap:=h' }) hu O G (fun hn=>?_) (fun g kc2 R S2 B=>?_) (by lia)))
    ·have Sb2:=Sb.at (l _ _ Sb.get);refine Qa (v6 (s:={ s with heap:=h' }) Sb2.get Sb2.data Sb2.fits (Qb ?_))
     refine⟨h',H,kd++[k],d,rfl,l,O,p,v,lc,fun u=>?_⟩
     rw [mk u,Qv,Qd];constructor
     ·rintro⟨f,j⟩
      exact⟨f,fun z=>z.elim j fun z=>hn (z ▸ (mk u).mpr ⟨f,j⟩)⟩
     ·rintro⟨f,j⟩
      exact⟨f,fun z=>j (.inl z)⟩
    ·have m:∀ b o,s.heap.get? b=some o->g.get? b=some o:=fun b o e=>(R.2 b (Qu (Qs e))).trans (l b o e);have Sb2:=Sb.at (m _ _ Sb.get);refine Qa (v6 (s:={ s with heap:=g }) Sb2.get Sb2.data Sb2.fits (Qb ?_))
     have nd:(k::kc2).Nodup:=by
      obtain⟨_,_,_,_,_,_,_,_,_,_,z7,_⟩:=O;exact B.nodup_iff.mp z7
     have ll:=B.length_eq;rw [QE]at ll
     refine⟨g,kc2,kd++[k],d,rfl,m,S2,p,v,by lia,fun u=>?_⟩
     rw [Qv,Qd]
     have m1:u∈H ↔ u=k ∨ u∈kc2:=by rw [B.mem_iff,Qj]
     constructor
     ·intro hx
      have:=(mk u).mp (m1.mpr (.inr hx))
      exact⟨this.1,fun z=>z.elim this.2 fun z=>(Ys.mp nd).1 (z ▸ hx)⟩
     ·rintro⟨f,j⟩
      rcases m1.mp ((mk u).mpr ⟨f,fun z=>j (.inl z)⟩)with z | z
      ·exact absurd (.inr z) j
      ·exact z
  ·rintro _ J ⟨h',H,kd,d,rfl,l,O,p,y,lc,mk⟩;cases p;rw [Yg]at y;refine Qb ?_
   have fin:∀ g kc2,(∀ b o,s.heap.get? b=some o->g.get? b=some o)->mO prog w V g s.heap.objs.size kc2->Zc kc2 H->JZ (J1 prog w) A (pure (Value.ref s.heap.objs.size)) Q E { s with heap:=g }:=fun g kc2 m S2 B=>
    Qb (h g _ kc2 (Ql _) m S2 fun k=>by rw [B.mem_iff,mk k,y.mem_iff])
   obtain⟨o,es,ep,t,ho,a5,hd,T,hp,X,a3,hV⟩:=_root_.id O;have I:t.fits es.size=true:=T.fits (by simp)
   have a9:es.size=H.length:=by rw [<- X.length,Qt]
   unfold setTidy;refine Qa (QR (s:={ s with heap:=h' }) ho hd I ?_);dsimp only;by_cases td:t.tooManyDummies=true
   ·rw [if_pos td];obtain⟨M,m1,m2,m3,m4⟩:=SZ (n:=es.size) (by lia);refine GI (s:={ s with heap:=h' }) (V:=V) ho a5 hd I hp X a3 hV m1 m2 m3 m4 (by rw [Yj];lia) fun g kc2 R S2 B=>?_;exact fin g kc2 (fun b o e=>(R.2 b (Qu (Qs e))).trans (l b o e)) S2.toD B
   ·rw [if_neg td];exact Qb (fin h' H l O (.refl _))
  ·exact⟨N,F,[],ko,rfl,S,SR.toD,Xo,po,by rw [pr.length_eq];exact a4,fun k=>by rw [pr.mem_iff];simp⟩
 ·rw [if_neg c];refine Qa (o0 a7 (Qa (FJ ?_)));refine Qa (Qb ?_);have U:∀ b o,s.heap.get? b=some o->(s.heap.push (q8 w)).get? b=some o:=fun b o e=>Qc _ e;have Sa0:=Sa.at (U _ _ Sa.get);refine Qa (wpAny_setEpoch_of Sa0.get Sa0.data Sa0.fits ?_);refine Qa (QV (Qa (HQ (s:={ s with heap:=s.heap.push (q8 w) }) Sa0 ?_)));obtain⟨ko,Xo,po⟩:=Xa.perm (pW w a pa ea).symm;rw [<- Um];refine Qa (YT _ (fun rest _ J=>∃ h' F kd d,HY prog w V s ka kb rest J h' F kd d) _ ?_ ?_ _ _ ?_)
  ·rintro x rest _ J ⟨h',F,kd,d,rfl,l,SR,p,y,mk,Z⟩
   cases p with
   | @cons k bx _ d W p=>
    have G:TK prog w h' k bx:=W.at fun o e=>l bx o e;have Sb':=Sb.at (l _ _ Sb.get);have Sa':=Sa.at (l _ _ Sa.get)
    have a0:k∉kd:=by
     have:=y.nodup_iff.mpr a1
     have:=List.perm_middle.nodup_iff.mp this
     exact fun hh=>(Ys.mp this).1 (QK _ hh)
    have v:Zc ((kd++[k])++d) ka:=by rw [Q6];exact y
    refine Qa (QV (Qa (EY (s:={ s with heap:=h' }) hu Sb'.get Sb'.data Tb.toD (Xb.mono fun k b x=>x.at fun o e=>l b o e) G (fun i hi=>?_) fun hn=>?_)))
    ·refine Qa (Qb ?_);simp only [Option.isSome_some,YN,Qq,if_false];refine Qb ?_;refine Qa (v6 (s:={ s with heap:=h' }) Sa'.get Sa'.data Sa'.fits (Qb ?_))
     refine⟨h',F,kd++[k],d,rfl,l,SR,p,v,fun u=>?_,fun e K=>Z e (Qg _ K)⟩
     rw [mk u,Qv,Qd];constructor
     ·rintro⟨f,j⟩;exact⟨.inl f,j⟩
     ·rintro⟨f | f,j⟩
      ·exact⟨f,j⟩
      ·exact absurd (f ▸ QM hi) j
    ·refine Qa (Qb ?_);simp only [Option.isSome_none,Bool.not_false,if_true]
     have lk:F.length<=63:=by
      have N:F.length<=kd.length:=YA SR.nodup fun k W=>((mk k).mp W).1;have g:=y.length_eq;rw [Qm]at g;lia
     refine Qa (DY (s:={ s with heap:=h' }) hu SR G (Z _ Qe) (by lia) (fun hm=>absurd ((mk k).mp hm).1 a0) fun _ g a2 R S2 B=>?_);have m:∀ b o,s.heap.get? b=some o->g.get? b=some o:=fun b o e=>(R.2 b (Qu (Qs e))).trans (l b o e);have Sa2:=Sa.at (m _ _ Sa.get);refine Qb (Qa (v6 (s:={ s with heap:=g }) Sa2.get Sa2.data Sa2.fits (Qb ?_)))
     refine⟨g,a2,kd++[k],d,rfl,m,S2,p,v,fun u=>?_,fun e K=>Z e (Qg _ K)⟩
     rw [B.mem_iff,Qj,mk u,Qv,Qd];constructor
     ·rintro(f | ⟨f,j⟩)
      ·exact⟨.inr f,f ▸ hn⟩
      ·exact⟨.inl f,j⟩
     ·rintro⟨f | f,j⟩
      ·exact .inr ⟨f,j⟩
      ·exact .inl f
  ·rintro _ J ⟨h',F,kd,d,rfl,l,SR,p,y,mk,Z⟩;cases p;rw [Yg]at y;refine Qb (Qb (h h' _ F (Ql _) l SR.toD fun k=>?_));rw [mk k,y.mem_iff]
  ·refine⟨_,[],[],ko,rfl,U,⟨_,#[],0,_,Qr _ rfl,⟨rfl,rfl,rfl⟩,rfl,⟨.inl rfl,rfl,rfl,ZO,fun x hx=>by simp [SetTable.fresh]at hx,(by show 0 * 5<7 * 3;decide),fun q hq=>by simp at hq⟩,⟨rfl,rfl⟩,.nil,JL,fun e K=>by simp at K⟩,Xo,po,fun k=>by simp,fun e K=>Va e ((pW w a pa ea).mem_iff.mp K)⟩
end
end ST
namespace SL
open PySem.Spec L2 CL DL SD
section
variable {X:Cx}{e st:Expr}{p2 pos:Pos}
end
end SL
namespace TL
open PySem.Spec L2 HT
section
variable {prog:J2}{w:J4}{A:Around}{E:Value->YP->Prop}{s:YP}
theorem Mr{t b:JY}{ws:List Value}{Q:Value->YP->Prop}(q:U8 s.heap t #[])(r:U8 s.heap b ws.toArray)(h:Q (.ref b) s):JZ (J1 prog w) A (Zt .Add (.ref t) (.ref b)) Q E s:=by
 obtain⟨⟨u,dd,l,o⟩,i,k,n,j⟩:=id q;obtain⟨⟨m,f,g,e⟩,a,d,p,c⟩:=id r
 simp only at k j d c
 subst k j d c;exact concat_meets ⟨_,i,rfl⟩ ⟨_,a,rfl⟩ noFill_tuple_add seq_tuple_add PySem.F.slot_tuple_add PySem.F.entry_tuple_add (PySem.F.args_tuple_add_2 _ _) (tuple_addW0 t b #[] ws.toArray n p dd f o e rfl) ⟨i,a,h⟩
theorem Ms{t b:JY}{vs ws:List Value}{Q:Value->YP->Prop}(q:s.heap.IsList t vs.toArray)(r:s.heap.IsList b ws.toArray)(hz:vs.length+ws.length<=sizeLine)
  (h:Q (.ref s.heap.objs.size) { s with heap:=s.heap.push { cls:=.type "list",data:=.seq (vs++ws).toArray } }):JZ (J1 prog w) A (Zt .Add (.ref t) (.ref b)) Q E s:=by
 obtain⟨⟨cls,dd,data,o⟩,j,l,n,k⟩:=id q;obtain⟨⟨m,g,i,f⟩,a,d,p,c⟩:=id r
 simp only at l k d c
 subst l k d c
 have e:vs.toArray++ws.toArray=(vs++ws).toArray:=by simp
 refine concat_meets ⟨_,j,rfl⟩ ⟨_,a,rfl⟩ noFill_list_add seq_list_add PySem.F.slot_list_add PySem.F.entry_list_add (PySem.F.args_list_add_2 _ _) (list_addW t b vs.toArray ws.toArray n p dd g o f (by simpa using hz)) ⟨j,a,?_⟩;rw [e];exact h
theorem SN{t c:JY}{a:Array Value}{i g:Value}{j l:Option Int}{Q:Value->YP->Prop}(b:U8 s.heap t a)(hs:s.heap.IsSliceOf c i g .none)(n:Vd i j)(m:Vd g l)
  (k:sIx a.size 0 j=0/\sIx a.size a.size l=a.size) (h:Q (.ref t) s):JZ (J1 prog w) A (getItem (.ref t) (.ref c)) Q E s:=by
 obtain⟨o,d,e,p⟩:=id hs;have f:s.TypeIs (.ref c) "slice":=⟨o,d,e⟩;unfold getItem
 try with_reducible refine QV ?_
 first | refine Qa (Qb ?_) | skip
 refine Qa (wpAny_sequenceKey b.typeIs (by decide) ?_)
 refine Qa (Yf (name:=Str.ofString "__getitem__") b.typeIs YR
  (Q9 YR b.typeIs entry_tuple_getitem ?_ (args_tuple_getitem _ _)))
 show JZ _ _ (Builtin.Tuple.tupleItemsOf (.ref t) >>= _) _ _ s
 refine Qa (tupleItemsOf_ b (Qa (Y8 f ?_)));rw [if_pos (by decide)];refine Qa (G4 hs n m ?_);rw [k.1,k.2]
 show JZ _ _ (if(((0:Nat):Int) == 0 && (1:Int) == 1 && (a.size-0) == a.size)=true then _ else _) _ _ s
 rw [if_pos (by simp)];unfold Builtin.Tuple.tupleIsExact;refine Qa (Qa (Y8 b.typeIs (Qb ?_)));rw [if_pos (by decide)];exact Qa (JW (Qb ⟨_,rfl,Qb h⟩))
end
end TL
namespace SL
open PySem.Spec L2 CL DL SD TL
section
variable {X:Cx}{e st:Expr}{p2 pos:Pos}
theorem PM:bO X (Zt .Add) (fun x y H Q=>∃ a b ys,x=.ref a/\y=.ref b/\bR X.K H a []/\bR X.K H b ys/\Q (.ref b) H):=by
 intro c s n H x y v u Q I f e h;obtain⟨a,b,ys,rfl,rfl,m,l,q⟩:=h;cases f;cases e;obtain⟨k,g,j,_⟩:=I.tuple m;obtain⟨d,o,i,_⟩:=I.tuple l;cases g;exact Mr j i ⟨.ref b,H,I,rfl,q⟩
theorem PN:bO X (Zt .Add) (fun x y H Q=>∃ a b xs ys,x=.ref a/\y=.ref b/\cJ X.K H a xs/\cJ X.K H b ys/\xs.length+ys.length<=1000/\∀ p,H p=none->Q (.ref p) (aZ H p (.lst (xs++ys)))):=by
 intro e s t H x y v u Q I j i h;obtain⟨a,b,xs,ys,rfl,rfl,r,n,g,q⟩:=h;cases j;cases i;obtain⟨m,d,l,_⟩:=I.list r;obtain⟨f,c,k,_⟩:=I.list n;refine Ms l.isList k.isList (by rw [<- d.length,<- c.length];exact gE g) ?_
 refine⟨.ref s.heap.objs.size,_,I.laid (t':=s.toks) (o:=.lst (xs++ys)) (fun b w q=>Qc _ q) (Ql _) ?_,rfl,q _ (I.hok.fresh (Ql _))⟩
 exact⟨by rw [Qm];exact gE g,_,0,d.append c,Qr _ rfl⟩
theorem Tx:lN X (fun x lo hi H Q=>∃ a xs,x=.ref a/\bR X.K H a xs/\(HT.sIx xs.length 0 lo=0/\HT.sIx xs.length xs.length hi=xs.length)/\Q (.ref a) H):=by
 intro d s m H x v o n lo hi p Q I f l i g h;obtain⟨a,xs,rfl,j,k,q⟩:=h;cases f;obtain⟨c,r,e,t⟩:=I.tuple j
 have b:c.toArray.size=xs.length:=by rw [QA];exact r.length.symm
 exact⟨"tuple",_,YR.lookup,e.typeIs,SN e l i g (by rw [b];exact k) ⟨.ref a,H,I,rfl,q⟩⟩
def IC:D->Option Int->Option Int->Option D
 | .list xs,lo,hi=>some (.list (DL.cutD xs lo hi))
 | .tuple xs,lo,hi=>some (.tuple (DL.cutD xs lo hi))
 | _,_,_=>none
def qI(ga:aA->Option D)(b c:aA->Option (Option Int)):aA->Option D:=fun a=>(ga a).bind fun d=>(b a).bind fun l=>(c a).bind fun h=>IC d l h
theorem NT{xs:List D}{a b:Option Int}(h:HT.sIx xs.length 0 a=0/\HT.sIx xs.length xs.length b=xs.length):DL.cutD xs a b=xs:=by
 unfold DL.cutD;rw [h.1,h.2,List.drop_zero,Nat.sub_zero,List.take_length]
theorem Dq{a:Expr}{g i:Option Expr}{ga:aA->Option D}{j m:aA->Option (Option Int)}(s:DE X a ga)(o:DO X g j)(r:DO X i m):DE X (.Subscript a (.Slice g i none p2) pos) (qI ga j m):=
 eQ (Po (RE.or (Tu.or Tx)) s o r) fun B H Q n=>by
  obtain⟨F,b,f,d,S,q,k⟩:=n;obtain⟨x,w,q⟩:=aN q;obtain⟨l,u,q⟩:=aN q;obtain⟨h,t,q⟩:=aN q
  refine⟨F,b,f,x,S,w,fun A I v E1 R1=>⟨A,b,f,l,S.ext E1,u,fun z G E2=>⟨z,b,f,h,(S.ext E1).ext E2,t,fun J E E3=>?_⟩⟩⟩
  have y:=(R1.stay E2.stay).stay E3.stay;have E123:=E1.trans (E2.trans E3)
  cases y with
  | @lst a' vs ds h1 r1=>
   cases q;exact .inl ⟨a',vs,rfl,h1.sq,fun p e=>k _ _ _ (E123.trans (aM.frozen e)) (aV.newLst e (r1.cut l h))⟩
  | @tup a' vs ds h1 r1=>
   cases q;by_cases c:HT.sIx ds.length 0 l=0/\HT.sIx ds.length ds.length h=ds.length
   ·rw [NT c]at k;exact .inr (.inr ⟨a',vs,rfl,h1,by rw [<- r1.length];exact c,k _ _ _ E123 (.tup h1 r1)⟩)
   ·exact .inr (.inl ⟨a',vs,rfl,h1,by rw [<- r1.length];exact c,fun p e=>k _ _ _ (E123.trans (aM.fresh e)) (aV.newTup e (r1.cut l h))⟩)
  | non=>cases q
  | dct _ _ _ _ _=>cases q
  | exn _ _ _=>cases q
  | bl _=>cases q
  | int _=>cases q
  | str _=>cases q
def bP:D->D->Option D
 | .int i,.int j=>some (.int (i+j))
 | .tuple xs,.tuple ys=>if xs.length+ys.length<=1000 then some (.tuple (xs++ys))else none
 | .list xs,.list ys=>if xs.length+ys.length<=1000 then some (.list (xs++ys))else none
 | _,_=>none
theorem FN{c b:Type}{xs:List c}{a:List b}(h:xs.length=a.length)(e:a=[]):xs=[]:=by subst e;exact Jz h
theorem cT:bO X (Zt .Add) (cU X.K bP):=pV (Pu.or (Px.or (PM.or PN))) fun x y H Q l=>by
 obtain⟨F,d,e,q,z,j,R2,f,k⟩:=l;unfold bP at f
 split at f
 ·cases f;cases j;cases R2;exact .inl ⟨_,_,rfl,rfl,k F H _ (aM.refl F H) (.int _)⟩
 ·rename_i i h;by_cases c:i.length+h.length<=1000
  ·rw [if_pos c]at f;cases f
   cases j with
   | @tup a vs _ h1 r1=>
    cases R2 with
    | @tup b us _ h2 r2=>
     by_cases n:vs=[]
     ·subst n
      have:i=[]:=FN r1.length rfl
      subst this;exact .inr (.inr (.inl ⟨a,b,us,rfl,rfl,h1,h2,k F H _ (aM.refl F H) (.tup h2 r2)⟩))
     ·refine .inr (.inl ⟨a,b,vs,us,rfl,rfl,h1,h2,n,gE (by rw [<- r1.length,<- r2.length];exact c),fun e=>?_,fun e p g=>?_⟩)
      ·have:h=[]:=FN r2.length e
       subst this;rw [Yg]at k;exact k F H _ (aM.refl F H) (.tup h1 r1)
      ·exact k F _ _ (aM.fresh g) (aV.newTup g (r1.append r2))
  ·rw [if_neg c]at f;cases f
 ·rename_i i h;by_cases c:i.length+h.length<=1000
  ·rw [if_pos c]at f;cases f
   cases j with
   | @lst a vs _ h1 r1=>
    cases R2 with
    | @lst b us _ h2 r2=>
     exact .inr (.inr (.inr ⟨a,b,vs,us,rfl,rfl,h1.sq,h2.sq,by rw [<- r1.length,<- r2.length];exact c,fun p g=>k _ _ _ (aM.frozen g) (aV.newLst g (r1.append r2))⟩))
  ·rw [if_neg c]at f;cases f
 ·cases f
def tT:D->D->Option D:=oH (fun i j=>decide (0<=j) && decide (j<=64) && decide (i.natAbs<18446744073709551616)) fun i j=>.int (i ^ j.toNat)
theorem Fp:bO X (Zt .Pow) (cU X.K tT):=t7 PF (fun i j h=>by
 simp only [QO,decide_eq_true_eq]at h;unfold BB
 lia) fun _ _ _ _ _=>.int _
end
end SL
namespace EL
open PySem.Spec L2 DL ZL
open AutoSeq1 (wpAny_loadPart')
theorem Rg(l:JY)(items:Array Value)(n:Nat)(b:Option JY)(k:Array (Option Value)):
  Meets (Builtin.«enumerate.__new__» ⟨[.type "enumerate",.ref l],[]⟩) (fun _ R s=>s.heap.get? l=some { cls:=.type "tuple",dict:=b,data:=.seq items n,slots:=k } /\
   R (.ok (.ret (.ref (s.heap.push { cls:=.type "tuple_iterator",data:=.fields #[.ref l,.int 0 0] }).objs.size)))
    { s with heap:=(s.heap.push { cls:=.type "tuple_iterator",data:=.fields #[.ref l,.int 0 0] }).push { cls:=.type "enumerate",data:=.fields #[.none,.bool false,.ref s.heap.objs.size,Z0 0,.none,.none] } }):=
 .of_wp fun e w A R s h=>by
  obtain⟨o,g,d,j,m⟩:=s;obtain⟨a,h⟩:=h;have f:=sub_enumerate;have i:Heap.IsTuple (Shared.heap ⟨o,g,d,j,m⟩) l items:=⟨_,a,rfl,n,rfl⟩
  wp_walk using Zx a
  refine wpAny_stack_any fun p=>Qb ?_;split
  ·rename_i c _ _ _ _ _
   cases(c == Value.type "enumerate") <;> (wp_walk using Zx a,JE i;exact⟨_,rfl,h⟩)
  ·wp_walk using Zx a,JE i
   exact⟨_,rfl,h⟩
section
variable {prog:J2}{w:J4}{A:Around}{E:Value->YP->Prop}{s:YP}
theorem MU{l:JY}{a:Array Value}{Q:Value->YP->Prop}(p:s.heap.IsTuple l a)
  (h:∀ h',IsEnum h' (s.heap.objs.size+1) s.heap.objs.size 0 .none->h'.IsTupleIter s.heap.objs.size l 0->h'.objs.size=s.heap.objs.size+2->
   (∀ b o,s.heap.get? b=some o->h'.get? b=some o)->Q (.ref (s.heap.objs.size+1)) { s with heap:=h' }):
  JZ (J1 prog w) A (call (.type "enumerate") [.ref l]) Q E s:=by
 obtain⟨⟨c,i,q,k⟩,m,g,n,f⟩:=p
 replace g:c=.type "tuple":=g
 replace f:q=.seq a n:=f
 subst g f
 refine callType_new F.called_enumerate (by decide) (F.typeCall_enumerate_1 _) (F.newCall_enumerate_1 _) (fun d=>F.args_object_init_2 d _) F.entry_enumerate_new
  (Rg l a n i k) ⟨m,?_⟩
 have e:(s.heap.push { cls:=.type "tuple_iterator",data:=.fields #[.ref l,.int 0 0] }).objs.size=s.heap.objs.size+1:=Yp ..
 show _/\_
 rw [e]
 have j:IsEnum ((s.heap.push { cls:=.type "tuple_iterator",data:=.fields #[.ref l,.int 0 0] }).push
   { cls:=.type "enumerate",data:=.fields #[.none,.bool false,.ref s.heap.objs.size,Z0 0,.none,.none] }) (s.heap.objs.size+1) s.heap.objs.size 0 .none:=by
  have:=Qr (s.heap.push { cls:=.type "tuple_iterator",data:=.fields #[.ref l,.int 0 0] })
   (o:={ cls:=.type "enumerate",data:=.fields #[.none,.bool false,.ref s.heap.objs.size,Z0 0,.none,.none] }) rfl
  rw [e]at this;exact this
 exact⟨⟨_,j,rfl⟩,h _ j ⟨_,Qc _ (Qr _ rfl),rfl,rfl⟩ (by rw [Yp,e]) fun b o x=>Qc _ (Qc _ x)⟩
theorem Rh{it t:JY}{i:Nat}{a:Array Value}{x:Value}{Q:Value->YP->Prop}(b:s.heap.IsTupleIter it t i)(h:s.heap.IsTuple t a)(g:a[i]?=some x)
  (k:∀ h',h'.IsTupleIter it t (i+1)->Zi it s.heap h'->Q x { s with heap:=h' }):JZ (J1 prog w) A (ZJ (.ref it)) Q E s:=by
 obtain⟨o,d,j,c⟩:=id b;obtain⟨l,e,_,m,f⟩:=h;unfold ZJ
 refine Qa (Yf (name:=Str.ofString "__next__") b.typeIs Jg
  (Q9 Jg b.typeIs F.entry_tuple_iterator_next ?_ (F.args_tuple_iterator_next_1 _)))
 show JZ _ _ (field (.ref it) 0 >>= _) _ _ s
 refine Qa (JX d c (x:=.ref t) rfl ?_)
 show JZ _ _ (if(Value.ref t == Value.none)=true then _ else _) _ _ s
 rw [if_neg (show ¬ ((Value.ref t == Value.none)=true)from Qx)]
 show JZ _ _ (field (.ref it) 1 >>= _) _ _ s
 refine Qa (JX d c (x:=.int i 0) rfl ?_)
 show JZ _ _ (Ur (.ref t) >>= _) _ _ s
 refine Qa (Yx e f ?_);simp only [YZ,g];refine Qa (Jt d c (by simp) (Qb ⟨x,rfl,Qb (k _ ?_ (QY ..))⟩))
 refine⟨_,QQ _ d (JJ (YK c _)),(Uv ..).trans j,?_⟩
 rw [YK c]
 simp [Z0]
theorem FK{it t:JY}{i:Nat}{b:Array Value}{Q:Value->YP->Prop}(j:A.handled=none)(c:s.heap.IsTupleIter it t i)(l:s.heap.IsTuple t b)(k:b[i]?=none)
  (n:∀ h' e,Heap.ExtBut it s.heap h'->(∃ o,h'.get? e=some o/\o.cls=.type "StopIteration")->E (.ref e) { s with heap:=h' }):JZ (J1 prog w) A (ZJ (.ref it)) Q E s:=by
 obtain⟨o,f,r,h⟩:=id c;obtain⟨p,d,_,q,g⟩:=l;unfold ZJ
 refine Qa (Yf (name:=Str.ofString "__next__") c.typeIs Jg
  (Q9 Jg c.typeIs F.entry_tuple_iterator_next ?_ (F.args_tuple_iterator_next_1 _)))
 show JZ _ _ (field (.ref it) 0 >>= _) _ _ s
 refine Qa (JX f h (x:=.ref t) rfl ?_)
 show JZ _ _ (if(Value.ref t == Value.none)=true then _ else _) _ _ s
 rw [if_neg (show ¬ ((Value.ref t == Value.none)=true)from Qx)]
 show JZ _ _ (field (.ref it) 1 >>= _) _ _ s
 refine Qa (JX f h (x:=.int i 0) rfl ?_)
 show JZ _ _ (Ur (.ref t) >>= _) _ _ s
 refine Qa (Yx d g ?_);simp only [YZ,k];refine Qa (JW (Qa (Jt f h (by simp) ?_)))
 show JZ _ _ (newExc (.type "StopIteration") [] >>= _) _ _ _
 refine Qa ?_;simp only [newExc,newTuple];refine Qa (Q0 ?_ (by size_fits));refine Qa (m:=Z2 _ _) (Jy (a:=Value.none) (by first | rfl | (simp only [Z2];rfl)) ?_);refine Q0 ?_ (by size_fits);simp only [raiseNew];refine Qa (wpAny_handled ?_)
 first | rw [show A.in1.handled=none from j] | rw [j]
 refine Qa (Qb (wpAny_throw ?_));exact n _ _ (((QY ..).extBut.push _).push _) ⟨_,Qr _ rfl,rfl⟩
end
theorem Nt{prog:J2}{w:J4}{A:Around}(k:A.handled=none)(it t:JY)(f:t≠it)(a:Array Value):
  Draws prog w A it [it,t] a.size (fun i v=>a[i]?=some v) (fun i h=>h.IsTupleIter it t i/\h.IsTuple t a) where
 live:=fun _ _ b=>let⟨o,ho,_⟩:=b.1;⟨o,ho⟩
 frame:=fun _ _ _ b g=>⟨b.1.at fun o e=>g it (by simp) o e,b.2.at fun o e=>g t (by simp) o e⟩
 item:=fun i s Q E j b l=>Rh b.1 b.2 (x:=a[i]) (by simp [j]) fun n d c=>l _ n s.toks (by simp [j]) ⟨d,b.2.extBut c.extBut f⟩ c
 done:=fun s Q E b m=>FK k b.1 b.2 (by simp) m
def tK(a:Hp->List V->Prop):It:=
 ⟨fun i H=>∃ xs x,a H xs/\xs[i]?=some x,
  fun i H v b=>∃ p,H p=none/\v=.ref p/\∃ x,b=aZ H p (.tup [.int i,x])/\∀ xs,a H xs->xs[i]?=some x,
  fun i H=>∃ xs,a H xs/\xs.length<=i⟩
structure xC(P:J2)(w:J4)(K:PySem.W.Frag)(SQ:Hp->List V->Prop)(a it:JY)(IT:Nat->Heap->Prop)(IS:Heap->Array Value->Prop):Prop where
 sq:∀(X:Cx) (pins:List (JY × Obj)) (σ:L2.St) (H:Hp) (s:YP) (xs:List V),X.K=K->L2.Inv X pins σ H s->SQ H xs->(∃ its,Vals xs its/\IS s.heap its.toArray)/\∀ ys,SQ H ys->ys=xs
 ob:∀ i h,IT i h->∃ o,h.get? it=some o/\∀ v,o.data≠.cell v
 kp:∀ i h h',IT i h->(∀ o,h.get? it=some o->h'.get? it=some o)->IT i h'
 D:∀(A:Around) (items:Array Value),A.handled=none->Draws P w A it [it,a] items.size (fun i v=>items[i]?=some v) (fun i h=>IT i h/\IS h items)
 Z:∀(A:Around) (items:Array Value) (i:Nat),A.handled=none->items.size<=i->Draws P w A it [it,a] i (fun _ _=>False) (fun j h=>j=i/\IT i h/\IS h items)
theorem HH{P:J2}{w:J4}{K:PySem.W.Frag}{Q:List Expr}{x1}{F:Pos}{SQ:Hp->List V->Prop}(a e it:JY)(r:e≠it)(a5:e≠a){IT:Nat->Heap->Prop}{IS:Heap->Array Value->Prop}(Z:xC P w K SQ a it IT IS):
  jQ P w K (.Tuple Q x1 F) (tK SQ) [e,it] e (fun i h=>(∃ old,IsEnum h e it i old)/\IT i h) where
 mem:=by simp
 obj:=fun i h n c u=>by
  obtain⟨⟨old,m⟩,p⟩:=n;rcases Qj.mp u with rfl | u
  ·exact⟨_,m,fun v z=>by have z':Data.fields _=Data.cell v:=z;cases z'⟩
  ·rw [Qd.mp u];exact Z.ob i h p
 keep:=fun i h h' n k=>by
  obtain⟨⟨old,m⟩,p⟩:=n
  exact⟨⟨old,k e (by simp) _ m⟩,Z.kp i h h' p fun o q=>k it (by simp) o q⟩
 item:=by
  intro X N hw hK u i g s T H E I y n hg;subst N hw;obtain⟨B,x,ha,R⟩:=hg;obtain⟨⟨old,m⟩,p⟩:=n;obtain⟨⟨l,Y,pl⟩,inj⟩:=Z.sq X g T H s B hK I ha;obtain⟨xu,ex,rx⟩:=Y.get R
  have a3:i<l.toArray.size:=by
   have:=(Qf.mp ex).1
   simpa using this
  have a4:e∉[it,a]:=by simp only [Qj,UJ,or_false,not_or];exact⟨r,a5⟩
  refine wpAny_pyNext_enum_itemD (Z.D X.A.in1 l.toArray (by simp [I.ok.hd u])) m ⟨p,pl⟩ a3 r a4 fun x' h' tk N ho a0 hT a7 hk=>⟨_,rfl,?_⟩
  have O:l[i]?=some x':=by simpa using N
  rw [ex]at O;cases O;refine wpAny_letOwnedTupleGo_enum ho fun h'' z1 U=>?_;have S:H s.heap.objs.size=none:=I.hok.fresh (Ql _);have f:∀ c o,s.heap.get? c=some o->c≠s.heap.objs.size:=fun c o q=>Qu (Qs q);have eT:s.heap.objs.size≠e:=(f e _ m).symm;obtain⟨oi,a2,_⟩:=Z.ob i _ p
  have J:∀ c o,c∉[e,it]->s.heap.get? c=some o->h''.get? c=some o:=fun c o G q=>
   U.extBut c o (fun q=>G (by simp [q])) (hk c o (fun q=>G (by simp [q])) (fun q=>G (by simp [q])) q)
  have j:∀ c o,H c=some o->c∉[e,it]:=fun c o q b=>by
   have:=(y c b).1
   rw [this]at q;cases q
  have a1:dV X.prog X.w (aZ H s.heap.objs.size (.tup [.int i,x])) h'':=fun c o q=>by
   by_cases M:c=s.heap.objs.size
   ·subst M;rw [dY]at q;cases q
    exact⟨gE (by simp),[.int i tk,xu],.cons ⟨tk,rfl⟩ (.cons rx .nil),⟨_,U.extBut _ _ eT hT,rfl,0,rfl⟩⟩
   ·rw [bI M]at q
    refine(I.hok c o q).stay (fun d v t q=>J d v ?_ q) (fun d q=>by rw [bI (fV q S)];exact q) fun d B q=>by rw [bI (fV q S)];exact q
    rcases t with rfl | t
    ·exact j _ _ q
    ·exact j _ _ t
  refine⟨.ref s.heap.objs.size,_,wA (s:=s) (h':=h'') (tk:=tk+1) I y J (fun c o q=>bI (f c o q)) (fun c o q=>by rw [bI (fV q S)];exact q) a1,rfl,⟨_,S,rfl,x,rfl,fun ys hy=>by rw [inj ys hy];exact R⟩,⟨⟨_,by simpa using z1⟩,Z.kp _ _ _ a0.1 fun o q=>U.extBut it o (Zy r) q⟩,fun c b=>?_⟩
  have q:=(y c b).1
  have nT:c≠s.heap.objs.size:=by
   rcases Qj.mp b with rfl | b
   ·exact f _ _ m
   ·rw [Qd.mp b];exact f _ _ a2
  rw [bI nT];exact q
 done:=by
  intro X N hw hK u i g s T H E I y n hg;subst N hw;obtain⟨B,ha,a6⟩:=hg;obtain⟨⟨old,m⟩,p⟩:=n;obtain⟨⟨l,Y,pl⟩,inj⟩:=Z.sq X g T H s B hK I ha;have l1:=Y.length;refine wpAny_pyNext_enum_endD (Z.Z X.A.in1 l.toArray i (by simp [I.ok.hd u]) (by rw [QA];lia)) m ⟨rfl,p,pl⟩ fun h' R=>⟨rfl,?_⟩;have J:∀ c o,c∉[e,it]->s.heap.get? c=some o->h'.get? c=some o:=fun c o G q=>R c o (fun q=>G (by simp [q])) q
  have j:∀ c o,H c=some o->c∉[e,it]:=fun c o q b=>by
   have:=(y c b).1
   rw [this]at q;cases q
  refine wA (s:=s) (h':=h') (tk:=s.toks) I y J (fun _ _ _=>rfl) (fun _ _ q=>q) fun c o q=>?_
  refine(I.hok c o q).stay (fun d v t q=>J d v ?_ q) (fun d q=>q) fun d B q=>q
  rcases t with rfl | t
  ·exact j _ _ q
  ·exact j _ _ t
 self:=fun _ _ _ _ _ n h=>by
  obtain⟨⟨old,m⟩,_⟩:=n;exact wpAny_pyIter_enum m h
theorem IH{P:J2}{w:J4}{K:PySem.W.Frag}(a it:JY)(g:a≠it):xC P w K (fun H xs=>bR K H a xs) a it (fun i h=>h.IsTupleIter it a i) (fun h items=>h.IsTuple a items) where
 sq:=fun X n M H s xs G I r=>by
  subst G;obtain⟨d,t,u,_⟩:=I.tuple r
  exact⟨⟨d,t,u⟩,fun N x=>I.tuple_inj x r⟩
 ob:=fun i h ⟨o,f,_,F⟩=>⟨o,f,fun v z=>by rw [F]at z;cases z⟩
 kp:=fun i h O B k=>B.at k
 D:=fun A items m=>Nt m it a g items
 Z:=fun A items i m l=>
  {live:=fun _ _ ⟨_,⟨o,f,_⟩,_⟩=>⟨o,f⟩
   frame:=fun _ _ _ ⟨e,c,b⟩ p=>⟨e,c.at fun o q=>p it (by simp) o q,b.at fun o q=>p a (by simp) o q⟩
   item:=fun j s Q E y ⟨e,_⟩ _=>absurd e (Qu y)
   done:=fun s Q E ⟨_,c,b⟩ J=>FK m c b (Yl l) J }
theorem IG{P:J2}{w:J4}{K:PySem.W.Frag}(a it:JY)(g:a≠it):xC P w K (fun H xs=>cJ K H a xs) a it (fun i h=>h.IsListIter it a i) (fun h items=>h.IsList a items) where
 sq:=fun X n M H s xs G I r=>by
  subst G;obtain⟨d,t,u,_⟩:=I.list r
  exact⟨⟨d,t,u.isList⟩,fun N x=>I.list_inj x r⟩
 ob:=fun i h ⟨o,f,_,F⟩=>⟨o,f,fun v z=>by rw [F]at z;cases z⟩
 kp:=fun i h O B k=>B.at k
 D:=fun A items m=>Draws.list m it a g items
 Z:=fun A items i m l=>
  {live:=fun _ _ ⟨_,⟨o,f,_⟩,_⟩=>⟨o,f⟩
   frame:=fun _ _ _ ⟨e,c,b⟩ p=>⟨e,c.at fun o q=>p it (by simp) o q,b.at fun o q=>p a (by simp) o q⟩
   item:=fun j s Q E y ⟨e,_⟩ _=>absurd e (Qu y)
   done:=fun s Q E ⟨_,c,b⟩ J=>wpAny_nextOf_list_end m c b (Yl l) J }
def rA(K:PySem.W.Frag)(f:TA):TI:=fun d H R=>f d H fun e c=>∃ a,e=[.ref a]/\(((∃ b,cJ K c a b)/\R (tK fun H b=>cJ K H a b) c) ∨ ((∃ b,bR K c a b)/\R (tK fun H b=>bR K H a b) c))
theorem Si{X:Cx}{l:List Expr}{x1}{g:Pos}{a:Expr}{z:TA}{p pos:Pos}(N:Gl X "enumerate")(M:X.mg "enumerate"=none)(O:PA X [a] z)(hs:J0 [a] X.env=[(false,Zs a X.env)]:=by rfl):
  PI X (.Tuple l x1 g) (.Call (.Name "enumerate" p) [a] [] pos) (rA X.K z):=by
 intro d s o H R I h;refine Call_ (kW I N M boot_enumerate (YM (bH (O pos d s o H _ I h) fun T b ⟨S,n,I1,G,J⟩=>?_) (by rw [hs];rfl) (by rfl)));obtain⟨f,e,q⟩:=J;subst e;obtain⟨u,rfl,F⟩:=iK G;cases F
 have fin:∀ c∈[b.heap.objs.size+1,b.heap.objs.size],eH X d n c:=fun c w=>by
  have A:b.heap.objs.size<=c:=by
   rcases Qj.mp w with rfl | w
   ·exact Yi _ _
   ·rw [Qd.mp w];exact Ql _
  exact I1.fpOk A (I1.hok.fresh A)
 rcases q with⟨⟨B,t⟩,q⟩ | ⟨⟨B,t⟩,q⟩
 ·obtain⟨r,E,i,_⟩:=I1.list t;refine call_enumerate_list i.isList fun k m x Q v=>?_
  have j:f<b.heap.objs.size:=by obtain⟨_,e,_⟩:=i.isList;exact Qs e
  have y:L2.Inv X d o n { b with heap:=k }:=I1.kept (t':=b.toks) v;refine wpAny_pyIter_enum (s:={ b with heap:=k }) m ?_
  exact⟨_,[b.heap.objs.size+1,b.heap.objs.size],_,_,n,rfl,y,HH f (b.heap.objs.size+1) b.heap.objs.size (Nat.succ_ne_self _) (Yw (YG j)) (IG f b.heap.objs.size (Qu j)),⟨⟨_,m⟩,x⟩,fin,q⟩
 ·obtain⟨r,E,i,_⟩:=I1.tuple t;refine MU i fun k m x Q v=>?_
  have j:f<b.heap.objs.size:=by obtain⟨_,e,_⟩:=i;exact Qs e
  have y:L2.Inv X d o n { b with heap:=k }:=I1.kept (t':=b.toks) v;refine wpAny_pyIter_enum (s:={ b with heap:=k }) m ?_
  exact⟨_,[b.heap.objs.size+1,b.heap.objs.size],_,_,n,rfl,y,HH f (b.heap.objs.size+1) b.heap.objs.size (Nat.succ_ne_self _) (Yw (YG j)) (IH f b.heap.objs.size (Qu j)),⟨⟨_,m⟩,x⟩,fin,q⟩
end EL
namespace SL
open PySem.Spec L2 CL DL SD EL
def i0(n:Nat):List D->List D
 | []=>[]
 | x::xs=>.tuple [.int n,x]::i0 (n+1) xs
theorem Fh:∀(xs:List D) (n i:Nat),(i0 n xs)[i]?=(xs[i]?).map fun x=>.tuple [.int ((n+i:Nat):Int),x]
 | [],n,i=>by simp [i0]
 | x::xs,n,0=>by simp [i0]
 | x::xs,n,i+1=>by
  show(i0 (n+1) xs)[i]?=_
  rw [Fh xs (n+1) i,show n+1+i=n+(i+1) by lia];rfl
theorem Fi:∀(xs:List D) (n:Nat),(i0 n xs).length=xs.length
 | [],_=>rfl
 | x::xs,n=>by show(i0 (n+1) xs).length+1=_;rw [Fi xs];rfl
def zL:List D->Option (List D)
 | [.list xs]=>some (i0 0 xs)
 | [.tuple xs]=>some (i0 0 xs)
 | _=>none
theorem FY{K:PySem.W.Frag}{F:JY->Prop}{H:Hp}{k:Hp->List V->Prop}{vs:List V}{ds:List D}(o:∀ F2 H2,cK K F F2 H H2->k H2 vs)(m:Reps K F H ds vs):lL K F H (i0 0 ds) (tK k):=fun F2 H2 T z i=>by
 have b:=o F2 H2 T;have e:=m.stay T
 refine⟨fun d a=>?_,fun h=>⟨vs,b,?_⟩⟩
 ·rw [Fh]at a
  cases c:ds[i]? with
  | none=>rw [c]at a;cases a
  | some x=>
   rw [c]at a;cases a;obtain⟨v,j,q⟩:=e.get c
   refine⟨⟨vs,v,b,j⟩,fun w s l=>?_⟩
   obtain⟨p,g,rfl,r,rfl,n⟩:=l;have f:=n vs b;rw [j]at f;cases f
   refine⟨F2,aM.fresh g,aV.newTup g (.cons ?_ (.cons q .nil))⟩
   rw [Nat.zero_add];exact .int _
 ·rw [Fi]at h;rw [<- e.length];exact h
theorem N7{X:Cx}{d:List Expr}{x1}{c:Pos}{a:Expr}{gr:aA->Option (List D)}{p pos:Pos}(o:Gl X "enumerate")(n:X.mg "enumerate"=none)(s:DA X [a] gr)(hs:J0 [a] X.env=[(false,Zs a X.env)]:=by rfl):
  DI X (.Tuple d x1 c) (.Call (.Name "enumerate" p) [a] [] pos) (fun ρ=>(gr ρ).bind zL):=
 AL (Si o n s hs) fun v H R l=>by
  obtain⟨F,b,ρ,x,S,q,k⟩:=l;obtain⟨w,j,q⟩:=aN q;unfold zL at q
  split at q
  ·cases q
   refine⟨F,b,ρ,_,S,j,fun h g m i f=>?_⟩
   cases f with
   | cons r e=>
    cases e
    cases r with
    | @lst a' vs' _ h1 r1=>exact⟨a',rfl,.inl ⟨⟨_,h1.sq⟩,k h g _ i (FY (fun u t T=>(h1.stay T).sq) r1)⟩⟩
  ·cases q
   refine⟨F,b,ρ,_,S,j,fun h g m i f=>?_⟩
   cases f with
   | cons r e=>
    cases e
    cases r with
    | @tup a' vs' _ h1 r1=>exact⟨a',rfl,.inr ⟨⟨_,h1⟩,k h g _ i (FY (fun u t T=>T.tp _ _ h1) r1)⟩⟩
  ·cases q
end SL
namespace SL
open PySem.Spec L2 CL DL SD
section
variable {X:Cx}
end
open AutoSeq1 (wpAny_loadPart')
theorem NE(l:JY)(c:Array Value)(n:Nat)(b:JY)(a:Array Value)(o:Nat)(dd:Option JY)(m:Array (Option Value))(p:(!c.isEmpty && Ub (c.size+a.size))=false)(i:c.size<=sizeLine)(f:c.size+a.size<=sizeLine+1):
  Meets (Builtin.«list.extend» ⟨[.ref l,.ref b],[]⟩) (fun _ R s=>s.heap.get? l=some { cls:=.type "list",dict:=none,data:=.seq c n,slots:=#[] }/\s.heap.get? b=some { cls:=.type "list",dict:=dd,data:=.seq a o,slots:=m }/\R (.ok (.ret Value.none)) { s with heap:=s.heap.update l (ZC fun x=>x++a),toks:=s.toks }):=
 .of_wp fun j w A R s h=>by
  obtain⟨u,g,d,r,t⟩:=s;obtain⟨k,q,h⟩:=h;have E:=AutoSeq1.idx_int;have B:=Z9;have z:=AutoSeq1.sub_list_list;have y:=AutoSeq1.sub_tuple_list;have v:=AutoSeq1.sub_list_tuple
  have e:(c++a).size<=sizeLine+1:=by rw [Array.size_append];exact f
  wp_walk using(Y3 k rfl (hz:=i) (_hz':=e)),Zx k,Zx q
  exact⟨_,rfl,h⟩
section
variable {X:Cx}
theorem Ol:BN X "list.extend" (fun x vs H Q=>∃ l b xs zs,x=.ref l/\vs=[.ref b]/\H l=some (.lst xs)/\cJ X.K H b zs/\xs.length+zs.length<=1000/\Q .non (aZ H l (.lst (xs++zs)))):=by
 intro k s B H x vs v E Q I o p h;obtain⟨l,b,xs,zs,rfl,rfl,m,y,N,q⟩:=h;cases o;obtain⟨u,rfl,t⟩:=p.one;cases t;obtain⟨z,c,n,r,O,e⟩:=I.lstM m;obtain⟨a,j,⟨⟨S,dd,R,G⟩,w,A,g,f,d⟩,_⟩:=I.list y
 simp only at g f d
 subst g f d;have M:=r.length;have J:=j.length
 have i:c.toArray.size+a.toArray.size<=sizeLine:=by rw [QA,QA];exact gE (by lia)
 refine call_meets F.slot_list_extend ⟨_,e,rfl⟩ F.entry_list_extend (F.args_list_extend_2 _ _)
  (NE l c.toArray n b a.toArray w _ _ (by rw [Rp i,Bool.and_false]) (by lia) (by lia)) ⟨e,A,?_⟩
 refine⟨.non,_,I.lset (its':=c++a) m e (by simp) (r.append j) ?_,rfl,q⟩
 rw [Qm];exact gE (by lia)
def oQ(i:Nat)(g:aA->Option D):aA->Option aP:=fun a=>match a[i]? with
 | some (.own ds)=>(g a).bind fun d=>match d with
  | .list b=>if ds.length+b.length<=1000 then some (.nx (a.set i (.own (ds++b))))else none
  | _=>none
 | _=>none
variable {e:Expr}{p pos:Pos}{ga:aA->Option D}
theorem CZ{i:Nat}{x:Str}{c a:Pos}(U:DE X e ga)(Y:X.N[i]?=some x:=by rfl)(Q:i7 X.env.scope x:=by first | exact ZD rfl | exact Zp (ZD rfl) | exact Zp (Zp rfl))(R:(x == ("__debug__":Str))=false:=by decide)
  (w:(x == ("__classdict__":Str))=false:=by decide) (j:J0 [e] X.env=(false,Zs e X.env)::J0 [] X.env:=by rfl)
  (h:ZY (.Name x p) "extend" X.env (Zs (.Name x p) X.env)=Zs (.Name x p) X.env:=by rfl)
  (m:((Zo a (J0 [e] X.env)).all (fun x => !x.1) && (Ut a (ZN [] X.env)).all (fun x=>x.1.isSome)
   && decide ([e].length+([]:List Z1).length+(if([]:List Z1).isEmpty then 0 else 1)<30))=true:=by rfl)
  (g:(c.endLine == a.line)=true:=by rfl) (f:(Zo a (J0 [] X.env)).any (·.1)=false:=by rfl) (t:ZB (.Call (.Attribute (.Name x p) "extend" c) [e] [] a) none pos.line X.env=pure false:=by rfl):
  DS X (.Expr (.Call (.Attribute (.Name x p) "extend" c) [e] [] a) pos) (oQ i ga):=
 DL.ps_mono (wG (AK PySem.F.plainAttrs_list PySem.F.slot_list_extend PySem.F.type_list_extend Ol (mG Y Q R w) (k4 U nJ j) h m g j f) t) fun W I H K=>by
 obtain⟨G,n,F,J,o,E,S,q,k⟩:=K;unfold oQ at q
 split at q
 ·rename_i ds y;obtain⟨d,e1,q⟩:=aN q
  split at q
  ·rename_i es;by_cases u:ds.length+es.length<=1000
   ·rw [if_pos u]at q;cases q;obtain⟨l,vs,s,O,q3,M,q5⟩:=S.own y
    refine⟨_,s,.inl ⟨rfl,_,cJ.of O⟩,F,n,J,_,S,e1,fun F' H' v E' R'=>?_⟩
    have S':=S.ext E';obtain⟨l',r,B,A,Z,g4,z⟩:=S'.own y;rw [s]at B;cases B
    cases R' with
    | @lst b us _ h1 r1=>
     refine⟨l,b,r,us,rfl,rfl,A,h1.sq,by rw [<- z.length,<- r1.length];exact u,?_⟩
     obtain⟨S2,T⟩:=S'.turn y s A Z (z.append r1);exact k F' _ I ((E.trans E').turn M) (E'.stay.trans T) S2
   ·rw [if_neg u]at q;cases q
  ·cases q
 ·cases q
end
def AM:Expr->Bool
 | .Starred ..=>false
 | _=>true
theorem TW(e:Expr)(es:List Expr)(env:Env)(h:AM e=true):J0 (e::es) env=(false,Zs e env)::J0 es env:=by
 cases e <;> first | rfl | cases h
theorem NZ{X:Cx}{e:Expr}{es:List Expr}{ga:aA->Option D}{gr:aA->Option (List D)}(b:DE X e ga)(a:DA X es gr)(h:AM e=true:=by rfl):DA X (e::es) (aB ga gr):=Dk b a (TW e es X.env h)
end SL
namespace ST
open PySem.SetTable
section
variable {prog:J2}{w:J4}{A:Around}{E:Value->YP->Prop}{s:YP}{V:Value->Prop}
theorem T7{a b:JY}{e i:List (List Int)}{Q:Value->YP->Prop}(g:a≠b)(v:A.units+8<J8)(SA:cX prog w V s.heap a e)(SB:cX prog w V s.heap b i)(f:e.length<=63)
  (h:∀ h' r ks,s.heap.objs.size<=r->(∀ b o,s.heap.get? b=some o->h'.get? b=some o)->mO prog w V h' r ks->(∀ k,k∈ks ↔ k∈e/\k∉i)->Q (.ref r) { s with heap:=h' }):
  JZ (J1 prog w) A (Zt .Sub (.ref a) (.ref b)) Q E s:=by
 obtain⟨l,y,u,q,Sa,K,G,I⟩:=SA.setAt;obtain⟨j,x,t,p,Sb,J,B,H⟩:=SB.setAt;have c:s.TypeIs (.ref a) "set":=⟨l,Sa.get,Sa.ex.1⟩;have d:s.TypeIs (.ref b) "set":=⟨j,Sb.get,Sb.ex.1⟩;refine wpAny_binaryOp_same c d PySem.F.fills_set_sub PySem.F.slot_set_sub (Q9 PySem.F.slot_set_sub c PySem.F.set_sub_entry ?_ (PySem.F.args_set_sub_2 _ _));unfold Builtin.«frozenset.__sub__»
 wp_delta
 refine Qa (Jy (a:=(Value.ref a,Value.ref b)) (by rfl) ?_);simp only [Qq,if_false];refine Qa ?_;unfold andM;refine Qa (vX c ?_)
 show JZ _ _ (Z3 (.ref b)) _ _ _
 refine vX d ?_;simp only [YN,Qq,if_false];unfold ZS;refine Qa (Qb (Qa (Nn g (by show A.units+1<J8;lia) SA SB f fun h' r ks n m S mk=>?_)));exact Qb ⟨_,rfl,(fun z=>nomatch z),h h' r ks n m S mk⟩
end
end ST
namespace SL
open PySem.Spec L2 CL DL SD ST
def Ao(c b:aA->Option (List (List Int))):aA->Option (List (List Int)):=fun a=>(c a).bind fun x=>(b a).bind fun y=>if x.length<=63 then some (x.filter fun k => !y.contains k)else none
section
variable {X:Cx}{a b:Expr}{pos:Pos}{g1 g2:aA->Option (List (List Int))}
theorem bY.carry{pins a:List (JY × Obj)}{σ c:L2.St}{d m:Hp}{h g:YP}(l:Inv X pins σ d h)(j:Inv X a c m g)(f:eJ d m):∀{es:List (Int × Value)}{ks:List (List Int)},bY X.prog X.w h.heap es ks->(∀ e∈es,VT X.K d e.2)->bY X.prog X.w g.heap es ks
 | _,_,.nil,_=>.nil
 | _,_,.cons (k:=k) (b:=bx) h1 r,hv=>by
  obtain⟨p,xs,o,i⟩:=hv _ Qe;cases o
  have:k=xs:=h1.unique (hJ l i)
  subst this;exact .cons (hJ j (eJ.sqT f i)) (bY.carry l j f r fun e n=>hv e (Qg _ n))
theorem NA(hc:X.calm=true)(hu:X.A.units+66<J8)(ha:xA X a g1)(hb:xA X b g2):BD X (.BinOp a .Sub b pos) (Ao g1 g2):=by
 intro d s m H Q I ⟨F,j,ρ,kl,S,q,k⟩;obtain⟨x,e1,q⟩:=aN q;obtain⟨y,e2,q⟩:=aN q;by_cases c:x.length<=63
 ·rw [if_pos c]at q;cases q;refine wpAny_BinOp (bH (ha d s m H (fun f z=>f.Nodup/\(∀ k,k∈f ↔ k∈x)/\∃ l,aM F l H z) I ⟨F,j,ρ,x,S,e1,fun l z f E1 n1 R=>⟨n1,R,l,E1⟩⟩) fun u s1 T=>?_);obtain⟨i,o1,ka,z,eu,I1,S1,_,_,R,l,E1⟩:=T;refine bH (hb ((i,o1)::d) s1 m z (fun f g=>f.Nodup/\(∀ k,k∈f ↔ k∈y)/\∃ B,aM l B z g) I1 ⟨l,j,ρ,y,S.ext E1,e2,fun B g f E2 n2 Y=>⟨n2,Y,B,E2⟩⟩) fun v s2 T=>?_;obtain⟨a2,o2,kb,g,ev,I2,S2,ap,_,Y,B,E2⟩:=T;subst eu;subst ev;have g1:s2.heap.get? i=some o1:=(I2.pin (i,o1) (Qk _ (Qg _ Qe))).1;have a0:i≠a2:=ap (i,o1) Qe
  have SA:cX X.prog X.w (VT X.K g) s2.heap i ka:=by
   obtain⟨o,es,ep,t,O,W,N,M,J,U,G,E⟩:=S1
   have:s1.heap.get? i=some o1:=(I1.pin (i,o1) (Qk _ Qe)).1
   rw [O]at this;cases this
   exact⟨_,es,ep,t,g1,W,N,M,J,bY.carry I1 I2 E2.same U E,G,fun e he=>by
    obtain⟨b',xs,e1,e2⟩:=E e he
    exact⟨b',xs,e1,eJ.sqT E2.same e2⟩⟩
  refine T7 a0 (by lia) SA S2 ?_ fun h' r f Z kp SD mk=>?_
  ·have:ka.length<=x.length:=YA SA.nodup fun k h=>(R k).mp h
   lia
  ·obtain⟨o,es,ep,t,O,W,N,M,J,U,G,E⟩:=SD;have I3:Inv X d m g s2:=I2.pins_of fun p n=>I2.pin p (Qk _ (Qg _ (Qg _ n)));have I4:Inv X d m g { s2 with heap:=h' }:=I3.kept (t':=s2.toks) kp
   have I5:Inv X ((r,o)::d) m g { s2 with heap:=h' }:=by
    refine I4.pins_of fun p n=>?_;rcases Qj.mp n with rfl | n
    ·refine⟨O,I2.hok.fresh Z,Yw (QB I2.lt Z),I2.nofs Z,fun v hv=>?_⟩
     rw [N]at hv;exact nomatch hv
    ·exact I4.pin p (Qk _ n)
   refine⟨r,o,f,g,rfl,I5,⟨es,ep,t,⟨O,W,N,M.fits (by simp),M.up,J.1,J.2⟩,U,G,E⟩,k B g f (E1.trans E2) G fun k=>?_⟩
   rw [mk k,R k,Y k,Yo];simp
 ·rw [if_neg c]at q;cases q
end
theorem sD{X:Cx}{d:Zj}:DS X d (fun _=>none):=fun a s e H W I q=>by
 obtain⟨c,b,F,f,o,E,S,q,k⟩:=q;cases q
end SL
namespace DC
theorem Og:typeLookup (.type "list") "keys"=pure none:=by rw [typeLookup_type,UE];kernel_rfl
section
variable {prog:J2}{w:J4}{A:Around}{E:Value->YP->Prop}{s:YP}
theorem Oq{a:JY}{o:Obj}{xs:Array Value}{k:Nat}{Q:Option Value->YP->Prop}(l:s.heap.get? a=some o)(n:o.cls=.type "list")(f:o.data=.seq xs k)(m:o.dict=none)(u:A.handled=none)
  (h:∀ h' tk,(∀ b ob,s.heap.get? b=some ob->h'.get? b=some ob)->Q none { s with heap:=h',toks:=tk }):JZ (J1 prog w) A (getAttr? (.ref a) "keys") Q E s:=by
 obtain⟨c,v,dat,q⟩:=o
 simp only at n f m
 subst n f m;obtain⟨t,g,d,tk,r⟩:=s;have p:∀ i,(⟨t,g,d,i,r⟩:YP).TypeIs (.ref a) "list":=fun _=>⟨_,l,rfl⟩;have I:=sub_AttributeError;have H:=F.slot_list_getattribute.lookup;have G:=F.slot_list_getattribute.bind (.ref a);have B:=am_list_getattr_none;unfold getAttr? getAttrBy? getAttrBy
 repeat (any_goals (first | assumption | exact p _ | ((with_reducible show JZ _ _ (call (Value.builtin "list.__getattribute__") _ _) _ _ _);refine call_meets F.slot_list_getattribute (p _) am_entry_list_getattribute (F.args_list_getattribute_2 _ _) (meets_getattribute_miss_list a xs k q "keys" _ Og (by decide +kernel)) ⟨l,u,fun h' i e j=>?_⟩) | wp_step))
 obtain⟨y,x,z⟩:=j.there
 show JZ _ _ (getattributeRaised _ _ _ _ _ _ _) _ _ _
 unfold getattributeRaised
 repeat (any_goals (first | assumption | wp_step))
 exact h _ _ j.keeps
end
theorem EJ:entryFor table "dict.update.loop"=some Builtin.«dict.update.loop»:=entryFor_of_tree (by kernel_rfl)
theorem wF:plainId "dict.update.loop"=true:=by decide +kernel
section
variable {κ:Type}[DecidableEq κ]
def jJ(key:Nat->κ)(b:Nat->JY)(a:Nat->Value):Nat->List (κ × JY × Value)
 | 0=>[]
 | i+1=>storedH (jJ key b a i) (key i) (b i) (a i)
variable {key:Nat->κ}{kad:Nat->JY}{val:Nat->Value}
theorem Ab:∀ i,(jJ key kad val i).length<=i
 | 0=>Ql _
 | i+1=>by
  have:=Ab i
  unfold jJ storedH;split
  ·rw [Qo];lia
  ·rw [Qm,QH];lia
theorem Ac:∀ i,∀ x∈jJ key kad val i,∃ j,j<i/\x.1=key j/\x.2.1=kad j
 | 0,x,h=>nomatch h
 | i+1,x,h=>by
  unfold jJ storedH at h
  split at h
  ·obtain⟨y,c,rfl⟩:=QN.mp h;obtain⟨j,d,b,a⟩:=Ac i y c
   refine⟨j,by lia,?_⟩
   unfold putAt;split
   ·exact⟨b,a⟩
   ·exact⟨b,a⟩
  ·rcases Qv.mp h with h | h
   ·obtain⟨j,d,e⟩:=Ac i x h
    exact⟨j,by lia,e⟩
   ·rw [Qd]at h;subst h
    exact⟨i,by lia,rfl,rfl⟩
end
section
variable {prog:J2}{w:J4}{κ:Type}[DecidableEq κ]{knd:HeapKind prog w κ}{A:Around}{R:Result->YP->Prop}{I:JY}{fp wr:List JY}{G:Array GenState->Array GenState->Prop}{n:Nat}{Pv:Nat->Value->Prop}{St:Nat->YP->Prop}
theorem Nm(W:WalksS prog w A.in1 I fp wr G n Pv St)(S:JY)(N:S∉fp)(hu:knd.room A.in1)(key:Nat->κ)(a:Nat->JY)(f:Nat->Value)(r:Heap)(res:Value)
  (l:∀(h h':Heap) k b,knd.is h k b->(∀ b o,h.get? b=some o->h'.get? b=some o)->knd.is h' k b)
  (g:∀ b o,r.get? b=some o->b≠S/\b∉wr) (F:∀ i v,i<n->Pv i v->∃ b,v=.ref b/\r.IsTuple b #[.ref (a i),f i]) (y:∀ i,i<n->knd.is r (key i) (a i)) (E:n<=1000):
  ∀(k i:Nat) (s:YP) (c:Int) (t:Tok),n-i=k->i<=n->St i s->(∀ b o,r.get? b=some o->s.heap.get? b=some o)->
   s.heap.DictOfH knd S (jJ key a f i)->
   (∀ s',Moved (S::wr) G s s'->(∀ b o,r.get? b=some o->s'.heap.get? b=some o)->s'.heap.DictOfH knd S (jJ key a f n)->R (.ok (.ret res)) s')->
   ZW (J1 prog w) A (.builtin "dict.update.loop" ⟨[.ref S,.ref I,.int c t,res],[]⟩) R s:=by
 have a6:S∉wr:=fun h=>N (W.sub _ h);have u:∀ b∈wr,b∈S::wr:=fun b E=>Qg _ E
 have K:∀(s s':YP) i,i<=n->Moved wr G s s'->(∀ b o,r.get? b=some o->s'.heap.get? b=some o)->s.heap.DictOfH knd S (jJ key a f i)->s'.heap.DictOfH knd S (jJ key a f i):=fun s s' i hi p X Q=>by
  obtain⟨o,es,ep,ho,a2,hd,he,a8,Z⟩:=Q
  refine⟨o,es,ep,p.heap S _ a6 ho,a2,hd,he,fun x hx=>?_,Z⟩
  obtain⟨j,hj,e1,e2⟩:=Ac i x hx;rw [e1,e2];exact l _ _ _ _ (y j (by lia)) X
 intro k
 induction k with
 | zero=>
  intro i s c t hk hi z X Q hR
  have a1:i=n:=by lia
  subst a1;refine Yh EJ ?_;rw [Q7 wF _]
  show JZ _ A.in1 (ZU (.ref I) >>= _) _ _ s
  refine Qa (W.done s _ _ z fun s' p=>?_)
  show JZ _ A.in1 (Builtin.Dict.addKeywords S [] >>= fun _=>ret res) _ _ s'
  have d:∀ b o,r.get? b=some o->s'.heap.get? b=some o:=fun b o e=>p.heap b o (g b o e).2 (X b o e);exact Qa (Qb (Qb (hR s' (p.mono u) d (K s s' i (Ql _) p d Q))))
 | succ k ih=>
  intro i s c t hk hi z X Q hR
  have q:i<n:=by lia
  refine Yh EJ ?_;rw [Q7 wF _]
  show JZ _ A.in1 (ZU (.ref I) >>= _) _ _ s
  refine Qa (W.item i s _ _ q z fun v s' hP H p=>?_);obtain⟨b,rfl,ot,J,a5,nt,a3⟩:=F i v q hP;have d:∀ b o,r.get? b=some o->s'.heap.get? b=some o:=fun b o e=>p.heap b o (g b o e).2 (X b o e);have a7:=K s s' i (by lia) p d Q;have a0:knd.is s'.heap (key i) (a i):=l _ _ _ _ (y i q) d;refine Qa (QV (Qa (Yy ?_)));unfold Builtin.Dict.pairItems;refine Qa (Y8 (T:="tuple") ⟨ot,d _ _ J,a5⟩ ?_);rw [if_pos (by decide)];refine Qa (Yx (d _ _ J) a3 (Qb ?_))
  show JZ _ A.in1 (U5 [Value.ref (a i),f i] (dictSet S (.ref (a i)) (f i))) _ _ s'
  refine QV (wpAny_dictSet_heap hu a0 a7 (fun h' a4 B=>?_) (Qz (Ab i) (by rw [sizeLine];lia)))
  have m:Moved (S::wr) G s { s' with heap:=h',toks:=s'.toks+knd.draws (key i) }:=
   (p.mono u).then_heap (Yi _ _) fun b o E e=>by rw [B.2 b (fun h:b=S=>E (by rw [h];exact Qe))];exact e
  refine Qb ⟨Yq wF _,ih (i+1) _ (c+1) 0 (by lia) q (W.frame _ s' _ _ H (Yi _ _) fun b E o e=>?_) (fun b o e=>?_) a4 fun Y M U O=>?_⟩
  ·rw [B.2 b (fun h:b=S=>N (by rw [<- h];exact E))];exact e
  ·show h'.get? b=some o
   rw [B.2 b (g b o e).1];exact d b o e
  ·exact hR Y (Moved.trans W.gtrans m M) U O
end
section
variable {prog:J2}{w:J4}{κ:Type}[DecidableEq κ]{knd:HeapKind prog w κ}{A:Around}{E:Value->YP->Prop}{s:YP}
theorem MT{l:JY}{items:Array Value}{K:Nat}{U:Array (Option Value)}{Q:Value->YP->Prop}(key:Nat->κ)(f:Nat->JY)(m:Nat->Value)
  (p:∀(h h':Heap) k b,knd.is h k b->(∀ b o,h.get? b=some o->h'.get? b=some o)->knd.is h' k b)
  (O:A.handled=none) (hu:∀ B:Around,B.units<=A.units+8->knd.room B) (W:s.heap.get? l=some { cls:=.type "list",dict:=none,data:=.seq items K,slots:=U })
  (hi:∀ i v,items[i]?=some v->∃ b,v=.ref b/\s.heap.IsTuple b #[.ref (f i),m i]) (hk:∀ i,i<items.size->knd.is s.heap (key i) (f i)) (hb:items.size<=1000)
  (h:∀(h':Heap) (tk:Nat),h'.DictOfH knd s.heap.objs.size (jJ key f m items.size)->(∀ b o,s.heap.get? b=some o->h'.get? b=some o)->Q (.ref s.heap.objs.size) { s with heap:=h',toks:=tk }):
  JZ (J1 prog w) A (call (.type "dict") [.ref l]) Q E s:=by
 refine callType_codes (Q₁:=fun u g=>u=.ref s.heap.objs.size/\g={ s with heap:=s.heap.push { cls:=.type "dict",data:=.dict #[] } }) F.kt_called_dict (F.kt_typeCall_dict_1 _) F.entry_dict_init (kt_code_dict_new _ ⟨rfl,rfl⟩) ?_;rintro u g ⟨rfl,rfl⟩;have j:(s.heap.push { cls:=.type "dict",data:=.dict #[] }).DictOfH knd s.heap.objs.size []:=Heap.DictOfH.new s.heap;have r:(s.heap.push { cls:=.type "dict",data:=.dict #[] }).get? l=some { cls:=.type "list",dict:=none,data:=.seq items K,slots:=U }:=Qc _ W
 refine⟨j.typeIs,F.args_dict_init_2 _ _,?_⟩
 unfold Builtin.«dict.__init__»;refine Qa ?_;unfold Builtin.Dict.selfAndRest;refine Qa (UF j.typeIs ?_)
 show JZ _ _ (pure (s.heap.objs.size,[Value.ref l])) _ _ _
 refine Qb ?_
 show JZ _ _ (Builtin.Dict.updateFrom "dict.__init__" s.heap.objs.size (.ref l) [] .none) _ _ _
 unfold Builtin.Dict.updateFrom;refine Qa (Y8 (T:="list") ⟨_,r,rfl⟩ ?_);rw [if_pos (by decide)];refine Qa (Oq r rfl rfl rfl (by first | exact O | simp [O]) fun a n c=>?_);rw [if_pos (by decide)];have G:a.IsList l items:=⟨_,c _ _ r,rfl,K,rfl⟩;refine Qa (JW (Qa (Jl (s:={ s with heap:=a,toks:=n }) G ?_)));refine Qb ⟨Yq wF _,?_⟩;have H:a.get? s.heap.objs.size=some { cls:=.type "dict",data:=.dict #[] }:=c _ _ (Qr _ rfl);have d:s.heap.objs.size<a.objs.size:=Qs H;have z:l<s.heap.objs.size:=Qs W;have x:l≠a.objs.size:=Qu (JP z d)
 have N:A.in1.in1.handled=none:=by simp [O]
 have t:∀ b o,s.heap.get? b=some o->(a.push { cls:=Value.type "list_iterator",data:=Data.fields #[Value.ref l,Value.int 0 0] }).get? b=some o:=fun b o e=>
  Qc _ (c b o (Qc _ e))
 refine Nm (knd:=knd) ((Walks.list N a.objs.size l x items).toS) s.heap.objs.size ?hSf (hu _ (by show A.units+1+1<=_;lia)) key f m s.heap .none p ?hold (fun i v _ Z=>hi i v Z) (fun i M=>hk i M) hb (items.size-0) 0 _ 0 0 (by lia) (QU _)
  ⟨⟨_,Qr _ rfl,rfl,rfl⟩,G.push _⟩ t ?hS0 ?hR
 case hSf=>
  simp only [Qj,Qd,UJ,or_false,not_or]
  exact⟨Qu d,Yw z⟩
 case hold=>
  intro b o e;have q:b<s.heap.objs.size:=Qs e
  refine⟨Qu q,fun y=>?_⟩
  have R:b=a.objs.size:=Qd.mp y;rw [R]at q;exact absurd (JP q d) (YV _)
 case hS0=>exact⟨_,#[],0,Qc _ H,⟨rfl,rfl,rfl⟩,rfl,rfl,fun _ Y=>by simp [jJ]at Y,JL⟩
 case hR=>
  intro X y h0 S;obtain⟨h',g',d',I,J⟩:=X;have eg:g'=s.gens:=y.gens;have ed:d'=s.drawn:=y.drawn;have eo:J=s.os:=y.os;subst eg;subst ed;subst eo
  exact⟨rfl,h h' I S h0⟩
end
end DC
namespace DC
open PySem.Spec L2 DL ST SL
def bW:D->Option (List Int)
 | .tuple a=>cZ a
 | _=>none
theorem rB:∀ ks:List Int,cZ (ks.map J3)=some ks
 | []=>rfl
 | k::ks=>by show(cZ (ks.map J3)).bind _=_;rw [rB ks];rfl
theorem Ak(ks:List Int):bW (iR ks)=some ks:=rB ks
theorem vL{K:PySem.W.Frag}{H:Hp}{k:eW}{b:JY}{ks:List Int}(h:nZ K H k b):bW (tW k)=some ks ↔ k=.inl ks:=by
 cases k with
 | inl c=>
  show bW (iR c)=some ks ↔ _
  rw [Ak];constructor
  ·intro e;cases e;rfl
  ·intro e;cases e;rfl
 | inr a=>
  obtain⟨n,_⟩:=h
  cases a with
  | nil=>exact absurd rfl n
  | cons x d=>
   constructor
   ·intro e;cases e
   ·intro e;cases e
theorem iH{K:PySem.W.Frag}{F:JY->Prop}{H:Hp}{d:D}{v:V}{ks:List Int}(r:aV K F H d v)(h:bW d=some ks):∃ b,v=.ref b/\bR K H b (ks.map V.int):=by
 cases r with
 | @tup a vs ds h1 r1=>
  rw [m8 r1 (show cZ ds=some ks from h)]at h1
  exact⟨a,rfl,h1⟩
 | _=>cases h
def fC(a:List (D × D))(k:List Int):Bool:=a.any fun p=>bW p.1 == some k
def getD(a:List (D × D))(k:List Int):Option D:=(a.find? fun p=>bW p.1 == some k).map (·.2)
def fE(a:List (D × D))(k:List Int)(v:D):List (D × D):=if fC a k=true then a.map fun p=>if(bW p.1 == some k)=true then(p.1,v)else p else a++[(iR k,v)]
abbrev cM:=eW × JY × V
def j8(es:List cM)(k:List Int):Bool:=es.any fun e=>decide (e.1=.inl k)
def jE(es:List cM)(k:List Int)(b:JY)(v:V):List cM:=if j8 es k=true then es.map fun e=>if e.1=.inl k then(e.1,e.2.1,v)else e else es++[(.inl k,b,v)]
theorem wO{K:PySem.W.Frag}{H:Hp}{k:eW}{b:JY}{ks:List Int}(h:nZ K H k b):(bW (tW k) == some ks)=decide (k=.inl ks):=by
 by_cases c:k=.inl ks
 ·rw [decide_eq_true c,(vL h).mpr c,beq_self_eq_true]
 ·rw [decide_eq_false c];exact beq_eq_false_iff_ne.mpr fun e=>c ((vL h).mp e)
section
variable {K:PySem.W.Frag}{F:JY->Prop}{H:Hp}
theorem DReps.has:∀{kvs:List (D × D)}{es:List cM} (k:List Int),DReps K F H kvs es->fC kvs k=j8 es k
 | _,_,_,.nil=>rfl
 | _,_,k,.cons h r t=>by
  have:=DReps.has k t
  unfold fC j8 at this ⊢;rw [JI,JI,this,wO h]
theorem DReps.append:∀{kvs kvs':List (D × D)}{es es':List cM},DReps K F H kvs es->DReps K F H kvs' es'->DReps K F H (kvs++kvs') (es++es')
 | _,_,_,_,.nil,s=>s
 | _,_,_,_,.cons h r t,s=>.cons h r (DReps.append t s)
theorem DReps.repl{k:List Int}{d:D}{v:V}(a:aV K F H d v):∀{kvs:List (D × D)}{es:List cM},DReps K F H kvs es->
  DReps K F H (kvs.map fun p=>if(bW p.1 == some k)=true then(p.1,d)else p) (es.map fun e=>if e.1=.inl k then(e.1,e.2.1,v)else e)
 | _,_,.nil=>.nil
 | _,_,@DReps.cons _ _ _ k' b d' v' _ _ h r t=>by
  rw [Qp,Qp];by_cases c:k'=.inl k
  ·rw [if_pos (by rw [wO h,decide_eq_true c]),if_pos c];exact .cons h a (DReps.repl a t)
  ·rw [if_neg (by rw [wO h,decide_eq_false c];decide),if_neg c];exact .cons h r (DReps.repl a t)
theorem DReps.put{k:List Int}{b:JY}{d:D}{v:V}{a:List (D × D)}{es:List cM}(t:DReps K F H a es)(f:bR K H b (k.map V.int))(e:aV K F H d v):DReps K F H (fE a k d) (jE es k b v):=by
 unfold fE jE;rw [DReps.has k t];by_cases c:j8 es k=true
 ·rw [if_pos c,if_pos c];exact DReps.repl e t
 ·rw [if_neg c,if_neg c];exact DReps.append t (.cons (k:=.inl k) f e .nil)
theorem DReps.get:∀{kvs:List (D × D)}{es:List cM} (k:List Int) {d:D},DReps K F H kvs es->getD kvs k=some d->∃ b v,(es.find? fun e=>decide (e.1=.inl k))=some (.inl k,b,v)/\aV K F H d v
 | _,_,_,_,.nil,h=>by cases h
 | _,_,k,d,@DReps.cons _ _ _ k' b d' v' _ _ h r t,e=>by
  unfold getD at e;rw [Y4]at e;rw [Y4,wO h]at *;by_cases c:k'=.inl k
  ·rw [decide_eq_true c]at e ⊢;cases e;subst c
   exact⟨b,v',rfl,r⟩
  ·rw [decide_eq_false c]at e ⊢;exact DReps.get k t e
theorem DReps.length:∀{kvs:List (D × D)}{es:List cM},DReps K F H kvs es->kvs.length=es.length
 | _,_,.nil=>rfl
 | _,_,.cons h r t=>by simp [DReps.length t]
def cW(a:List (D × D)):Bool:=a.all fun p=>(bW p.1).isSome
theorem DReps.flat:∀{kvs:List (D × D)}{es:List cM},DReps K F H kvs es->cW kvs=true->∀ e∈es,∃ ks,e.1=.inl ks/\bR K H e.2.1 (ks.map V.int)
 | _,_,.nil,_,e,a=>nomatch a
 | _,_,.cons h r t,f,e,a=>by
  unfold cW at f;rw [List.all_cons,QO]at f;rcases Qj.mp a with rfl | a
  ·obtain⟨ks,q⟩:=Option.isSome_iff_exists.mp f.1
   have:=(vL h).mp q
   refine⟨ks,this,?_⟩
   dsimp only at this ⊢;subst this;exact h
  ·exact DReps.flat t f.2 e a
end
abbrev jN:=List Int × JY × Value
abbrev ER:cM->jN->Prop:=fun e x=>e.1=.inl x.1/\e.2.1=x.2.1/\RelV e.2.2 x.2.2
theorem pJ(k:List Int):∀{es:List cM}{xs:List jN},Paired ER es xs->j8 es k=(Vc xs k).isSome
 | _,_,.nil=>rfl
 | _,_,@Paired.cons _ _ _ e x es xs h t=>by
  have b:=pJ k t;unfold j8 at b ⊢;rw [JI,b];by_cases c:x.1=k
  ·have a:Vc (x::xs) k=some x.2:=by simp [Vc,Y4,c]
   rw [a,decide_eq_true (by rw [h.1,c])];rfl
  ·have a:Vc (x::xs) k=Vc xs k:=by simp [Vc,Y4,c]
   rw [a,decide_eq_false (by rw [h.1];intro z;cases z;exact c rfl)];rfl
theorem EQ{k:List Int}{v:V}{u:Value}(a:RelV v u):∀{es:List cM}{xs:List jN},Paired ER es xs->Paired ER (es.map fun e=>if e.1=.inl k then(e.1,e.2.1,v)else e) (xs.map (putAt k u))
 | _,_,.nil=>.nil
 | _,_,@Paired.cons _ _ _ e x es xs h t=>by
  rw [Qp,Qp];refine .cons ?_ (EQ a t);unfold putAt;by_cases c:x.1=k
  ·rw [if_pos c,if_pos (by rw [h.1,c])];exact⟨h.1,h.2.1,a⟩
  ·rw [if_neg c,if_neg (by rw [h.1];intro z;cases z;exact c rfl)];exact h
theorem vR{k:List Int}{b:JY}{v:V}{u:Value}(a:RelV v u){es:List cM}{xs:List jN}(t:Paired ER es xs):Paired ER (jE es k b v) (storedH xs k b u):=by
 unfold jE storedH;rw [pJ k t];by_cases c:(Vc xs k).isSome=true
 ·rw [if_pos c,if_pos c];exact EQ a t
 ·rw [if_neg c,if_neg c];exact Paired.snoc t ⟨rfl,rfl,a⟩
theorem zO:∀{es:List cM}{xs:List jN},Paired ER es xs->es.map (·.1)=(xs.map (·.1)).map Sum.inl
 | _,_,.nil=>rfl
 | _,_,.cons h t=>by rw [Qp,Qp,Qp,zO t,h.1]
theorem vQ{k:List Int}{b:JY}{v:V}:∀{es:List cM}{xs:List jN},Paired ER es xs->(es.find? fun e=>decide (e.1=.inl k))=some (.inl k,b,v)->∃ p,Vc xs k=some p/\RelV v p.2
 | _,_,.nil,q=>by cases q
 | _,_,@Paired.cons _ _ _ e x es xs h t,q=>by
  rw [Y4]at q;by_cases c:x.1=k
  ·have a:Vc (x::xs) k=some x.2:=by simp [Vc,Y4,c]
   rw [decide_eq_true (by rw [h.1,c])]at q;cases q
   exact⟨_,a,h.2.2⟩
  ·have a:Vc (x::xs) k=Vc xs k:=by simp [Vc,Y4,c]
   rw [decide_eq_false (by rw [h.1];intro z;cases z;exact c rfl)]at q;rw [a];exact vQ t q
theorem Rm{l:List (List Int)}(h:l.Nodup):(l.map (Sum.inl:List Int->eW)).Nodup:=by
 rw [UH,Ya];exact List.Pairwise.imp (fun n e=>n (Sum.inl.inj e)) h
theorem Rn{l:List (List Int)}(h:(l.map (Sum.inl:List Int->eW)).Nodup):l.Nodup:=by
 rw [UH,Ya]at h;exact List.Pairwise.imp (fun n e=>n (by rw [e])) h
abbrev dM(P:J2)(w:J4):HeapKind P w (List Int):=tupleKind (intKind P w)
theorem lF{X:Cx}{pins:List (JY × Obj)}{σ:L2.St}{H:Hp}{s:YP}{a:JY}{es:List cM}{j:Nat}(I:Inv X pins σ H s)(h:H a=some (bZ a es j))(d:∀ e∈es,∃ ks,e.1=.inl ks/\bR X.K H e.2.1 (ks.map V.int))(n:(es.map (·.1)).Nodup):
  (a == Zg)=false/\∃ xs:List jN,s.heap.DictOfH (dM X.prog X.w) a xs/\Paired ER es xs:=by
 obtain⟨⟨u,o,f,B,A,z,y⟩,_⟩:=(show eY X.prog X.w H s.heap a (bZ a es j)from I.hok a _ h)
 have mk:∀{l:List cM}{r:List Zz},Paired (fun(e:eW × JY × V) (r:Zz)=>r.hash=D6 e.1/\r.key=.ref e.2.1/\RelV e.2.2 r.val) l r->(∀ e∈l,∃ ks,e.1=.inl ks/\bR X.K H e.2.1 (ks.map V.int))->
   ∃ xs:List jN,r=xs.map (entryOfKey (dM X.prog X.w))/\Paired ER l xs/\∀ x∈xs,(dM X.prog X.w).is s.heap x.1 x.2.1:=by
  intro l r q
  induction q with
  | nil=>exact fun _=>⟨[],rfl,.nil,fun x b=>nomatch b⟩
  | @cons e r l rs h t ih=>
   intro d;obtain⟨xs,i,c,g⟩:=ih fun e v=>d e (Qg _ v);obtain⟨ks,p,E⟩:=d e Qe
   refine⟨(ks,e.2.1,r.val)::xs,?_,.cons ⟨p,rfl,h.2.2⟩ c,fun x b=>?_⟩
   ·rw [Qp,<- i];congr 1;obtain⟨M,J,G⟩:=r;obtain⟨m,k,F⟩:=h;dsimp only at m k ⊢;subst m k;rw [p];rfl
   ·rcases Qj.mp b with rfl | b
    ·exact hJ I E
    ·exact g x b
 obtain⟨xs,i,c,g⟩:=mk y d
 refine⟨u,xs,⟨o,f,j,B,A,z,i,g,?_⟩,c⟩
 rw [zO c]at n;exact Rn n
theorem n6{P:J2}{w:J4}{H:Hp}{h:Heap}{a:JY}{es:List cM}{xs:List jN}(c:(a == Zg)=false)(d:h.DictOfH (dM P w) a xs)(r:Paired ER es xs):∃ ep,eY P w H h a (bZ a es ep):=by
 obtain⟨o,b,ep,f,j,i,g,m,l⟩:=d;clear m l
 refine⟨ep,⟨c,o,b,f,j,i,?_⟩,⟨o,f⟩,fun p n ⟨c,o,b,s,q⟩ k=>⟨c,o,b,k _ s,q⟩⟩
 rw [g];clear f j i g
 induction r with
 | nil=>exact .nil
 | @cons e x es xs h t ih=>
  rw [Qp];refine .cons ⟨?_,?_,h.2.2⟩ ih
  ·rw [h.1];rfl
  ·rw [h.2.1];rfl
end DC
namespace DC
open PySem.Spec L2 DL ST SL
section
variable {X:Cx}
def dN(b:Bool)(d e:D):Option D:=match e with
 | .dict a=>(bW d).bind fun k=>if cW a=true then some (.bool (if b then !fC a k else fC a k))else none
 | e=>i9 b d e
theorem vE{b:Bool}{d r:D}{a:List (D × D)}(h:dN b d (.dict a)=some r):∃ k,bW d=some k/\cW a=true/\r=.bool (if b then !fC a k else fC a k):=by
 obtain⟨k,e,q⟩:=aN (show((bW d).bind fun k=>if cW a=true then some (Zb (if b then !fC a k else fC a k))else none)=some r from h);by_cases c:cW a=true
 ·rw [if_pos c]at q;cases q;exact⟨k,e,c,rfl⟩
 ·rw [if_neg c]at q;cases q
theorem sS(E:X.A.units+65<J8):bO X (J9 .In) (cU X.K (dN false)):=fun c s B H x y v u Q I m j J=>by
 obtain⟨F,d,e,q,z,p,R2,g,k⟩:=J
 cases R2 with
 | @dct a es kvs ep f h n l t=>
  obtain⟨i,G,o,rfl⟩:=vE g;obtain⟨b,rfl,N⟩:=iH p G;cases m;cases j;obtain⟨M,R,dd,O⟩:=lF I h (DReps.flat t o) n;refine wpAny_in_heap (knd:=dM X.prog X.w) (k:=i) (show X.A.in1.units<J8 from by show X.A.units+1<J8;lia) (hJ I N) M dd ?_;rw [<- pJ i O,<- DReps.has i t]
  exact⟨.bl _,H,I.tok _,rfl,k F H _ (aM.refl F H) (.bl _)⟩
 | exn f h n=>
  obtain⟨i,G,o,_⟩:=vE g;cases o
 | tup h r=>exact wB E c s B H _ _ v u Q I m j ⟨F,d,_,q,z,p,.tup h r,g,k⟩
 | lst h r=>exact wB E c s B H _ _ v u Q I m j ⟨F,d,_,q,z,p,.lst h r,g,k⟩
 | non=>cases g
 | bl _=>cases g
 | int _=>cases g
 | str _=>cases g
theorem nH(E:X.A.units+65<J8):bO X (J9 .NotIn) (cU X.K (dN true)):=fun c s B H x y v u Q I m j J=>by
 obtain⟨F,d,e,q,z,p,R2,g,k⟩:=J
 cases R2 with
 | @dct a es kvs ep f h n l t=>
  obtain⟨i,G,o,rfl⟩:=vE g;obtain⟨b,rfl,N⟩:=iH p G;cases m;cases j;obtain⟨M,R,dd,O⟩:=lF I h (DReps.flat t o) n;refine wpAny_notIn_heap (knd:=dM X.prog X.w) (k:=i) (show X.A.in1.units<J8 from by show X.A.units+1<J8;lia) (hJ I N) M dd ?_;rw [<- pJ i O,<- DReps.has i t]
  exact⟨.bl _,H,I.tok _,rfl,k F H _ (aM.refl F H) (.bl _)⟩
 | exn f h n=>
  obtain⟨i,G,o,_⟩:=vE g;cases o
 | tup h r=>exact AI E c s B H _ _ v u Q I m j ⟨F,d,_,q,z,p,.tup h r,g,k⟩
 | lst h r=>exact AI E c s B H _ _ v u Q I m j ⟨F,d,_,q,z,p,.lst h r,g,k⟩
 | non=>cases g
 | bl _=>cases g
 | int _=>cases g
 | str _=>cases g
def fN(d e:D):Option D:=match d with
 | .dict a=>(bW e).bind fun k=>if cW a=true then getD a k else none
 | d=>aK d e
theorem mW(hu:X.A.units+65<J8):fW X (cU X.K fN):=fun c g j s o H x y v u Q I E B R J=>by
 obtain⟨F,d,e,q,z,R1,R2,i,k⟩:=R
 cases R1 with
 | @dct a es kvs ep f h n l t=>
  obtain⟨G,O,i⟩:=aN (show((bW e).bind fun k=>if cW kvs=true then getD kvs k else none)=some q from i);by_cases M:cW kvs=true
  ·rw [if_pos M]at i;obtain⟨b,rfl,T⟩:=iH R2 O;cases E;cases B;obtain⟨lo,xs,dd,er⟩:=lF I h (DReps.flat t M) n;obtain⟨b',S,Z,Y⟩:=DReps.get G t i;obtain⟨p,W,U⟩:=vQ er Z;have N:=dd.typeIs;unfold Ua;refine Qa ?_;rw [JK N.not_modules];refine Qa (JF N PySem.F.slot_dict_getitem.lookup ?_)
   have fin:JZ (J1 X.prog X.w) X.A (UN g false (.ref a) (.ref b)) (fun r m=>JZ (J1 X.prog X.w) X.A (U3 c (.ref a) r >>= fun _=>pure r) (EP X j o Q) X.xe m) X.xe s:=by
    rw [J];refine UV ?_;refine wpAny_getItem_heap (knd:=dM X.prog X.w) (k:=G) (show X.A.in1.units<J8 from by show X.A.units+1<J8;lia) (hJ I T) dd W ?_;exact Qa (JM (Qb ⟨S,H,I.tok _,U,k F H _ (aM.refl F H) Y⟩))
   first
    | exact Qb (Qa fin)
    | exact Qa (Qb (Qa fin))
    | exact Qa fin
  ·rw [if_neg M]at i;cases i
 | exn f h n=>
  obtain⟨G,O,i⟩:=aN i;cases i
 | tup h r=>exact aU c g j s o H _ _ v u Q I E B ⟨F,_,e,q,z,.tup h r,R2,i,k⟩ J
 | lst h r=>exact aU c g j s o H _ _ v u Q I E B ⟨F,_,e,q,z,.lst h r,R2,i,k⟩ J
 | non=>cases i
 | bl _=>cases i
 | int _=>cases i
 | str _=>cases i
end
end DC
namespace DC
open PySem.Spec L2 DL ST SL
def sU:D->Option (List Int × D)
 | .tuple [k,v]=>(bW k).bind fun a=>some (a,v)
 | _=>none
def k5:List D->Option (List (List Int × D))
 | []=>some []
 | d::r=>(sU d).bind fun p=>(k5 r).bind fun a=>some (p::a)
def l6(b:List (List Int × D)):List (D × D):=b.foldl (fun a p=>fE a p.1 p.2) []
def vD:List D->Option D
 | [.list ds]=>if ds.length<=1000 then(k5 ds).bind fun a=>some (.dict (l6 a))else none
 | _=>none
structure Tr where
 k:List Int
 b:JY
 v:V
 d:D
def Co(K:PySem.W.Frag)(F:JY->Prop)(H:Hp)(x:V)(t:Tr):Prop:=∃ b,x=.ref b/\bR K H b [.ref t.b,t.v]/\bR K H t.b (t.k.map V.int)/\aV K F H t.d t.v
theorem PQ{K:PySem.W.Frag}{F:JY->Prop}{H:Hp}{d:D}{x:V}{p:List Int × D}(r:aV K F H d x)(h:sU d=some p):∃ t,p=(t.k,t.d)/\Co K F H x t:=by
 cases r with
 | @tup a vs ds h1 r1=>
  unfold sU at h
  split at h
  ·rename_i k v e;cases e;obtain⟨j,m,h⟩:=aN h;cases h
   cases r1 with
   | cons f i=>
    cases i with
    | cons c g=>
     cases g;obtain⟨b,rfl,l⟩:=iH f m
     exact⟨⟨j,b,_,v⟩,rfl,a,rfl,h1,l,c⟩
  ·cases h
 | _=>cases h
theorem Ft{K:PySem.W.Frag}{F:JY->Prop}{H:Hp}:∀{ds:List D}{vs:List V}{ps:List (List Int × D)},Reps K F H ds vs->k5 ds=some ps->∃ ts:List Tr,ps=ts.map (fun t=>(t.k,t.d))/\Paired (Co K F H) vs ts
 | _,_,_,.nil,h=>by cases h;exact⟨[],rfl,.nil⟩
 | _,_,_,.cons r rs,h=>by
  obtain⟨p,c,h⟩:=aN h;obtain⟨ps,b,h⟩:=aN h;cases h;obtain⟨t,rfl,q⟩:=PQ r c;obtain⟨ts,rfl,a⟩:=Ft rs b
  exact⟨t::ts,rfl,.cons q a⟩
theorem Paired.at{c d:Type}{R:c->d->Prop}:∀{l:List c}{m:List d}{i:Nat}{a:c},Paired R l m->l[i]?=some a->∃ b,m[i]?=some b/\R a b
 | _,_,_,_,.nil,e=>by simp at e
 | _,_,0,_,.cons h _,e=>by simp at e;subst e;exact⟨_,rfl,h⟩
 | _,_,i+1,_,.cons _ t,e=>by
  obtain⟨b,g,f⟩:=Paired.at t (by simpa using e)
  exact⟨b,by simpa using g,f⟩
theorem Paired.atR{d c:Type}{R:d->c->Prop}:∀{l:List d}{m:List c}{i:Nat}{b:c},Paired R l m->m[i]?=some b->∃ a,l[i]?=some a/\R a b
 | _,_,_,_,.nil,e=>by simp at e
 | _,_,0,_,.cons h _,e=>by simp at e;subst e;exact⟨_,rfl,h⟩
 | _,_,i+1,_,.cons _ t,e=>by
  obtain⟨b,g,f⟩:=Paired.atR t (by simpa using e)
  exact⟨b,by simpa using g,f⟩
theorem pick{P:Nat->Value->Prop}(n:Nat)(h:∀ i,i<n->∃ u,P i u):∃ f:Nat->Value,∀ i,i<n->P i (f i):=by
 classical
 refine⟨fun i=>if c:i<n then Classical.choose (h i c)else .none,fun i a=>?_⟩
 show P i (if c:i<n then Classical.choose (h i c)else .none)
 rw [dif_pos a];exact Classical.choose_spec (h i a)
def jP:Tr:=⟨[],0,.non,.none⟩
theorem Fc{K:PySem.W.Frag}{F:JY->Prop}{H:Hp}(a:List Tr)(c:Nat->Value)(j:∀ t∈a,bR K H t.b (t.k.map V.int)/\aV K F H t.d t.v)(g:∀(i:Nat) t,a[i]?=some t->RelV t.v (c i)):
  ∀ i,i<=a.length->∃ es,DReps K F H (l6 ((a.map fun t=>(t.k,t.d)).take i)) es/\Paired ER es (jJ (fun i=>(a.getD i jP).k) (fun i=>(a.getD i jP).b) c i)
 | 0,_=>⟨[],.nil,.nil⟩
 | i+1,hi=>by
  obtain⟨es,o,n⟩:=Fc a c j g i (by lia);have f:i<a.length:=hi
  have l:a[i]?=some a[i]:=by simp [f]
  have m:a.getD i jP=a[i]:=by simp [List.getD,f]
  have h:=j a[i] (YB f)
  refine⟨jE es a[i].k a[i].b a[i].v,?_,?_⟩
  ·have e:(a.map fun t=>(t.k,t.d)).take (i+1)=(a.map fun t=>(t.k,t.d)).take i++[(a[i].k,a[i].d)]:=by
    rw [List.take_succ,QF,l];rfl
   rw [e];unfold l6;rw [List.foldl_append];exact DReps.put o h.1 h.2
  ·show Paired ER _ (storedH _ (a.getD i jP).k (a.getD i jP).b (c i))
   rw [m];exact vR (g i _ l) n
section
variable {X:Cx}
theorem boot_dict:Zk "dict"=some (.type "dict"):=by decide +kernel
theorem S8{P:J2}{w:J4}(h h':Heap)(k:List Int)(b:JY)(x:(dM P w).is h k b)(e:∀ b o,h.get? b=some o->h'.get? b=some o):(dM P w).is h' k b:=TK.at x fun o a=>e b o a
theorem u9{pins:List (JY × Obj)}{σ:L2.St}{H:Hp}{s:YP}(I:Inv X pins σ H s):Zg<s.heap.objs.size:=by
 have h:Za<s.heap.objs.size:=(I.mod.glob.keeps I.bk).lt;exact JP (by decide) h
def Lc(K:PySem.W.Frag):List V->Hp->VK->Prop:=fun b H Q=>∃(F:JY->Prop) (ds:List D) (ps:List (List Int × D)),(∀ a,F a->H a≠none)/\Reps K F H [.list ds] b/\ds.length<=1000/\k5 ds=some ps /\
 ∀ p es ep,H p=none->DReps K F H (l6 ps) es->(es.map (·.1)).Nodup->es.length<=1000->Q (.ref p) (aZ H p (bZ p es ep))
theorem Dg(hc:X.calm=true)(hu:X.A.units+66<J8):dW X (.type "dict") (Lc X.K):=fun a0 s σ H xs us Q I rv zz=>by
 obtain⟨F,ds,ps,z,R,hl,e1,k⟩:=zz
 cases R with
 | cons R1 R2=>
  cases R2
  cases R1 with
  | @lst a vs _ h1 r1=>
   obtain⟨u,rfl,ru⟩:=iK rv;cases ru;obtain⟨f,n,⟨o,nl,g1,g2,g3,g4⟩,_⟩:=I.list h1.sq;obtain⟨c,rfl,p⟩:=Ft r1 e1
   have d:f.length=c.length:=by rw [<- n.length];exact Paired.length p
   have r:c.length<=1000:=by rw [<- Paired.length p,<- r1.length];exact hl
   obtain⟨m,h⟩:=pick (P:=fun i u=>∀ t,c[i]?=some t->RelV t.v u/\∀ v,f[i]?=some v->∃ b,v=.ref b/\s.heap.IsTuple b #[.ref t.b,u]) c.length fun i g=>by
    have l:c[i]?=some c[i]:=by simp [g]
    obtain⟨x,S,b,rfl,J,E,G⟩:=Paired.atR p l;obtain⟨a2,rj,O,_⟩:=I.tuple J
    cases rj with
    | @cons _ u1 _ us1 ra rb=>
     cases rb with
     | @cons _ u2 _ us2 rc rd=>
      cases rd;cases ra
      refine⟨u2,fun t j=>?_⟩
      rw [l]at j;cases j
      refine⟨rc,fun v T=>?_⟩
      obtain⟨w',ew,M⟩:=n.get S;rw [T]at ew;cases ew;cases M
      exact⟨b,rfl,O⟩
   obtain⟨oc,od,a1,N⟩:=o
   have W:s.heap.get? a=some { cls:=.type "list",dict:=none,data:=.seq f.toArray nl,slots:=N }:=by
    rw [g1];simp only at g2 g3 g4;rw [g2,g3,g4]
   refine MT (knd:=dM X.prog X.w) (fun i=>(c.getD i jP).k) (fun i=>(c.getD i jP).b) m S8 (I.ok.hd hc) (fun B hB=>show B.units<J8 by lia) W (fun i v T=>?_) (fun i g=>?_) (by rw [QA,d];exact r) fun h' tk dd keep=>?_
   ·have q:f[i]?=some v:=by simpa using T
    have g:i<c.length:=by rw [<- d];exact(Qf.mp q).1
    have l:c[i]?=some c[i]:=by simp [g]
    have Y:c.getD i jP=c[i]:=by simp [List.getD,g]
    obtain⟨b,e,it⟩:=(h i g _ l).2 v q
    exact⟨b,e,by rw [Y];exact it⟩
   ·have y:i<c.length:=by rw [<- d];simpa using g
    have l:c[i]?=some c[i]:=by simp [y]
    have Y:c.getD i jP=c[i]:=by simp [List.getD,y]
    obtain⟨x,S,b,_,J,E,G⟩:=Paired.atR p l
    show TK X.prog X.w s.heap (c.getD i jP).k (c.getD i jP).b
    rw [Y];exact hJ I E
   ·obtain⟨es,f1,Z⟩:=Fc (K:=X.K) (F:=F) (H:=H) c m (fun t j=>by
     obtain⟨i,g⟩:=List.mem_iff_getElem?.mp j;obtain⟨x,S,b,_,J,E,G⟩:=Paired.atR p g
     exact⟨E,G⟩) (fun i t j=>(h i (Qf.mp j).1 t j).1) c.length (Ql _)
    rw [Uw (by simp)]at f1
    have U:f.toArray.size=c.length:=by rw [QA,d]
    rw [U]at dd;have lo:(s.heap.objs.size == Zg)=false:=beq_eq_false_iff_ne.mpr (Zy (Qu (u9 I)));have hp:H s.heap.objs.size=none:=I.hok.fresh (Ql _);obtain⟨ep,oo⟩:=n6 (H:=H) lo dd Z
    refine⟨.ref s.heap.objs.size,aZ H s.heap.objs.size (bZ s.heap.objs.size es ep),I.laid keep (Ql _) oo,rfl,k _ es ep hp f1 ?_ ?_⟩
    ·obtain⟨_,_,_,_,_,_,_,_,hn⟩:=dd;rw [zO Z];exact Rm hn
    ·rw [Paired.length Z];exact Qz (Ab _) r
theorem C9(h:X.calm=true)(g:X.A.units+66<J8):dW X (.type "dict") (gS X.K vD):=n3 (Dg h g) fun j H Q e=>by
 obtain⟨F,s,q,z,R,a,k⟩:=e;unfold vD at a
 split at a
 ·rename_i b;by_cases c:b.length<=1000
  ·rw [if_pos c]at a;obtain⟨f,i,a⟩:=aN a;cases a
   exact⟨F,b,f,z,R,c,i,fun p m o d r n l=>k _ _ _ (aM.frozen d) (.dct (.inr rfl) dY n l (r.stay (aM.frozen d).stay))⟩
  ·rw [if_neg c]at a;cases a
 ·cases a
end
end DC
namespace DC
open PySem.Spec L2 DL ST SL EL
def dH(ga:aA->Option D):aA->Option (List D):=fun a=>(ga a).bind m5
def iW(gr:aA->Option (List D)):aA->Option (List D):=fun a=>(gr a).bind oP
def qK(gr:aA->Option (List D)):aA->Option (List D):=fun a=>(gr a).bind Bz
def rA(gr:aA->Option (List D)):aA->Option (List D):=fun a=>(gr a).bind zL
section
variable {X:Cx}{tg e a b:Expr}{es:List Expr}{ga:aA->Option D}{gr:aA->Option (List D)}{p pos:Pos}
theorem hF(a:DE X e ga):DI X tg e (dH ga):=CP a
theorem n7(c:Gl X "range")(b:X.mg "range"=none)(d:DA X [a] gr)(hs:J0 [a] X.env=[(false,Zs a X.env)]:=by rfl):DI X tg (.Call (.Name "range" p) [a] [] pos) (iW gr):=Ob c b d hs
theorem Oa{d:List Expr}{x1}{c:Pos}(g:Gl X "zip")(f:X.mg "zip"=none)(h:DA X [a,b] gr)(hs:J0 [a,b] X.env=[(false,Zs a X.env),(false,Zs b X.env)]:=by rfl)(e:J0 [b] X.env=[(false,Zs b X.env)]:=by rfl):
  DI X (.Tuple d x1 c) (.Call (.Name "zip" p) [a,b] [] pos) (qK gr):=Nl g f h hs e
theorem N8{c:List Expr}{x1}{b:Pos}(e:Gl X "enumerate")(d:X.mg "enumerate"=none)(f:DA X [a] gr)(hs:J0 [a] X.env=[(false,Zs a X.env)]:=by rfl):
  DI X (.Tuple c x1 b) (.Call (.Name "enumerate" p) [a] [] pos) (rA gr):=N7 e d f hs
end
end DC
namespace DL
open PySem.Spec L2
def Cv:Sl->Bool
 | .ownD _ | .ownM _=>true
 | _=>false
def oO(i:Nat)(ρ:aA):Bool:=(ρ.set i .no).all fun s => !Cv s
theorem Pq{i j:Nat}{ρ:aA}{s:Sl}(h:oO i ρ=true)(a:ρ[j]?=some s)(hs:Cv s=true:=by rfl):i=j:=by
 by_cases c:i=j
 ·exact c
 ·have:(ρ.set i .no)[j]?=some s:=by rw [QC c];exact a
  have:=QZ.mp h _ (QM this)
  rw [hs]at this;cases this
theorem bL.putOwnD{K:PySem.W.Frag}{F:JY->Prop}{H H₀:Hp}{σ:L2.St}{ρ:List Sl}(S:bL K F H H₀ σ ρ){i:Nat}{b:List (D × D)}{es:List (eW × JY × V)}{d:Nat}{p:JY}(c:H p=none)(m:H₀ p=none)(n:(es.map (·.1)).Nodup)(l:es.length<=1000)(r:DReps K F H b es):
  bL K F (aZ H p (bZ p es d)) H₀ (σ.set i (some (.ref p))) (ρ.set i (.ownD b)):=by
 have e:aM F F H (aZ H p (bZ p es d)):=aM.fresh c;have S':=S.ext e;have k:¬ F p:=fun f=>S.fz p f c
 refine⟨by simp [S.len],fun j s h=>?_,S.sepNew c,S'.fz⟩
 ·by_cases a:i=j
  ·subst a
   have g:i<ρ.length:=by
    have:=Qf.mp h
    simpa using this.1
   rw [QG g]at h;cases h
   exact⟨some (.ref p),by rw [QG (by rw [S.len];exact g)],p,es,d,rfl,dY,k,m,n,l,r.stay e.stay⟩
  ·rw [QC a]at h;obtain⟨o,q,w⟩:=S'.sl j s h
   exact⟨o,by rw [QC a];exact q,w⟩
theorem bL.turnD{K:PySem.W.Frag}{F:JY->Prop}{H H₀:Hp}{σ:L2.St}{ρ:List Sl}(S:bL K F H H₀ σ ρ){i:Nat}{e c:List (D × D)}{es b:List (eW × JY × V)}{Y ep':Nat}{p:JY}(J:ρ[i]?=some (.ownD e))(hs:σ[i]?=some (some (.ref p)))
  (I:H p=some (bZ p es Y)) (B:¬ F p) (X:H₀ p=none) (E:∀(j:Nat) (k2:List (List Int × List D)),ρ[j]?≠some (.ownM k2)) (n:(b.map (·.1)).Nodup) (l:b.length<=1000) (r:DReps K F H c b):
  bL K F (aZ H p (bZ p b ep')) H₀ σ (ρ.set i (.ownD c))/\cK K F F H (aZ H p (bZ p b ep')):=by
 have T:cK K F F H (aZ H p (bZ p b ep')):=⟨fun _ h=>h,fun a O h=>by
   rcases h with(h | ⟨o,h⟩) | h
   ·exact .inl (.inl (by rw [bI (by intro z;subst z;rw [I]at h;cases h)];exact h))
   ·exact .inl (.inr ⟨o,by rw [bI (by intro z;subst z;rw [I]at h;cases h)];exact h⟩)
   ·exact .inr h,fun a O f h=>by
   have t:a≠p:=fun z=>B (by rw [<- z];exact f);rcases h with h | ⟨o,h⟩
   ·exact .inl (by rw [bI t];exact h)
   ·exact .inr ⟨o,by rw [bI t];exact h⟩,fun a φ f h=>by rw [bI (fun z=>B (by rw [<- z];exact f))];exact h⟩
 have U:i<ρ.length:=(Qf.mp J).1
 refine⟨⟨by simp [S.len],fun j s h=>?_,S.sepTurn (x:=.inr e) J,fun a f z=>S.fz a f (by
  have t:a≠p:=fun y=>B (by rw [<- y];exact f)
  rwa [bI t]at z)⟩,T⟩
 ·by_cases g:i=j
  ·subst g;rw [QG U]at h;cases h
   exact⟨_,hs,p,b,ep',rfl,dY,B,X,n,l,r.stay T⟩
  ·rw [QC g]at h;obtain⟨o,q,w⟩:=S.sl j s h
   refine⟨o,q,?_⟩
   cases s with
   | no=>trivial
   | ownD k2=>
    obtain⟨a,M,N,m,A,G,k,Q,R,u⟩:=w
    have t:a≠p:=by
     intro z;subst z;exact S.sep i j a (.inr e) (.inr k2) g J h hs (by rw [q,m])
    exact⟨a,M,N,m,by rw [bI t];exact A,G,k,Q,R,u.stay T⟩
   | ownM k2=>exact absurd h (E j k2)
   | dat d=>obtain⟨v,m,u⟩:=w;exact⟨v,m,u.stay T⟩
   | own Z=>
    obtain⟨a,ws,m,A,G,k,u⟩:=w
    exact⟨a,ws,m,by rw [bI (by intro z;subst z;rw [I]at A;cases A)];exact A,G,k,u.stay T⟩
theorem Pr{i:Nat}{ρ:aA}{a:List (D × D)}(h:oO i ρ=true)(c:ρ[i]?=some (.ownD a))(j:Nat)(b:List (List Int × List D)):ρ[j]?≠some (.ownM b):=fun z=>by
 have e:=Pq h z;subst e;rw [c]at z;cases z
end DL
namespace DC
open PySem.Spec L2 DL ST SL EL
def wM(i:Nat)(gr:aA->Option (List D)):aA->Option aP:=fun a=>(gr a).bind fun b=>match b with
 | [.list ds]=>if ds.length<=1000 then(k5 ds).bind fun c=>some (.nx (a.set i (.ownD (l6 c))))else none
 | _=>none
def kJ(i:Nat)(gk:aA->Option D):aA->Option D:=fun a=>match a[i]? with
 | some (.ownD kvs)=>(gk a).bind fun c=>(bW c).bind fun b=>if cW kvs=true then getD kvs b else none
 | _=>none
def lY(i:Nat)(gk gv:aA->Option D):aA->Option aP:=fun a=>match a[i]? with
 | some (.ownD kvs)=>(gv a).bind fun d=>(gk a).bind fun c=>(bW c).bind fun b=>if(cW kvs && decide (kvs.length<1000) && oO i a)=true then some (.nx (a.set i (.ownD (fE kvs b d))))else none
 | _=>none
section
variable {X:Cx}{e k v:Expr}{es:List Expr}{gr:aA->Option (List D)}{gk gv:aA->Option D}{p pos:Pos}
theorem Ny{i:Nat}{x y:Str}{b a:Pos}(Q:X.N.Nodup)(M:X.calm=true)(z:X.A.units+66<J8)(J:Gl X y)(G:X.mg y=none)(w:Zk y=some (.type "dict"))(O:DA X (e::es) gr)(I:X.N[i]?=some x:=by rfl)(v:i6 X.env.scope x:=by first | exact ZD rfl | exact Zp rfl)
  (B:y≠"__name__":=by decide) (g:(y == ("__debug__":Str))=false:=by decide) (he:J0 (e::es) X.env=(false,Zs e X.env)::J0 es X.env:=by rfl) (hpl:(Zo a (J0 es X.env)).any (·.1)=false:=by rfl)
  (hs:ZB (.Call (.Name y p) (e::es) [] a) (some (.Name x b)) pos.line X.env=pure false:=by rfl) (K:X.fn x=true ∨ X.env.scope.names.lookup x=some .local:=by first | exact .inl rfl | exact .inr rfl | assumption):
  DS X (.Assign [.Name x b] (.Call (.Name y p) (e::es) [] a) pos) (wM i gr):=ps_mono (k6 Q I v (Hc (Dg M z) J G w O B g he hpl) hs K) fun W Y H t=>by
 obtain⟨j,c,F,s,o,E,S,q,k⟩:=t;obtain⟨Z,T,q⟩:=aN q
 split at q
 ·rename_i h;by_cases f:h.length<=1000
  ·rw [if_pos f]at q;obtain⟨u,R,q⟩:=aN q;cases q
   refine⟨F,c,s,[.list h],S,T,fun m H' vs E' U=>⟨m,h,u,(S.ext E').fz,U,f,R,fun pp es ep d r n l=>?_⟩⟩
   exact k m _ _ ((E.trans E').trans (aM.fresh d)) (E'.stay.trans (aM.fresh d).stay) ((S.ext E').putOwnD d ((E.trans E').same.free d) n l r)
  ·rw [if_neg f]at q;cases q
 ·cases q
def Lj(K:PySem.W.Frag):R2:=fun x y H Q=>∃(F:JY->Prop) (a b:JY) (es:List cM) (ep:Nat) (kvs:List (D × D)) (ks:List Int) (r:D),x=.ref a/\y=.ref b/\bR K H b (ks.map V.int)/\H a=some (bZ a es ep)/\(es.map (·.1)).Nodup/\cW kvs=true/\DReps K F H kvs es/\getD kvs ks=some r/\∀ w,aV K F H r w->Q w H
theorem O8(hu:X.A.units+65<J8):fW X (Lj X.K):=fun c d f s j H x y v u Q I z o l E=>by
 obtain⟨F,a,b,es,ep,B,g,q,U,T,J,h,n,S,t,G,k⟩:=l;subst U T;cases z;cases o;obtain⟨Z,Y,dd,W⟩:=lF I h (DReps.flat t S) n;obtain⟨b',m,R,O⟩:=DReps.get g t G;obtain⟨p,N,M⟩:=vQ W R;have i:=dd.typeIs;unfold Ua;refine Qa ?_;rw [JK i.not_modules];refine Qa (JF i PySem.F.slot_dict_getitem.lookup ?_)
 have fin:JZ (J1 X.prog X.w) X.A (UN d false (.ref a) (.ref b)) (fun r e=>JZ (J1 X.prog X.w) X.A (U3 c (.ref a) r >>= fun _=>pure r) (EP X f j Q) X.xe e) X.xe s:=by
  rw [E];refine UV ?_;refine wpAny_getItem_heap (knd:=dM X.prog X.w) (k:=g) (show X.A.in1.units<J8 from by show X.A.units+1<J8;lia) (hJ I J) dd N ?_;exact Qa (JM (Qb ⟨m,H,I.tok _,M,k _ O⟩))
 first
  | exact Qb (Qa fin)
  | exact Qa (Qb (Qa fin))
  | exact Qa fin
theorem Do{i:Nat}{x:Str}(y:X.A.units+65<J8)(z:DE X k gk)(G:X.N[i]?=some x:=by rfl)(v:i7 X.env.scope x:=by first | exact ZD rfl | exact Zp (ZD rfl) | exact Zp (Zp rfl))(B:(x == ("__debug__":Str))=false:=by decide)
  (f:(x == ("__classdict__":Str))=false:=by decide) (hs:rW k:=by exact fun _ _=>rfl):DE X (.Subscript (.Name x p) k pos) (kJ i gk):=
 eQ (wE (O8 y) (mG G v B f) z hs) fun W H Q l=>by
  obtain⟨F,e,j,d,S,q,t⟩:=l;unfold kJ at q
  split at q
  ·rename_i c O;obtain⟨u,M,q⟩:=aN q;obtain⟨s,K,q⟩:=aN q;by_cases g:cW c=true
   ·rw [if_pos g]at q;obtain⟨a,I,J,r,o,q3,Z,n,Y,m⟩:=S.ownD O
    refine⟨.ref a,r,F,e,j,u,S,M,fun h U kv E1 T=>?_⟩
    obtain⟨b,rfl,E⟩:=iH T K
    exact⟨h,a,b,I,J,c,s,d,rfl,rfl,E,E1.same _ _ o,n,g,m.stay E1.stay,q,fun w R=>t h U w E1 R⟩
   ·rw [if_neg g]at q;cases q
  ·cases q
theorem Hu{es:List cM}{k:List Int}{b:JY}{v:V}(h:(es.map (·.1)).Nodup):((jE es k b v).map (·.1)).Nodup:=by
 unfold jE;by_cases c:j8 es k=true
 ·rw [if_pos c,Yk]
  have:(es.map ((fun x=>x.1) ∘ fun(e:cM)=>if e.1=.inl k then(e.1,e.2.1,v)else e))=es.map (·.1):=by
   refine Y7 fun e _=>?_
   show(if e.1=.inl k then(e.1,e.2.1,v)else e).1=e.1
   split <;> rfl
  rw [this];exact h
 ·rw [if_neg c,Yb,Jm]
  refine⟨h,by simp,fun x d y a z=>?_⟩
  subst z;simp only [Qp,List.map_nil,Qd]at a;subst a;obtain⟨e,f,g⟩:=QN.mp d;exact c (Jb.mpr ⟨e,f,decide_eq_true g⟩)
theorem Hv{es:List cM}{k:List Int}{b:JY}{v:V}:(jE es k b v).length<=es.length+1:=by
 unfold jE;split
 ·rw [Qo];lia
 ·rw [Qm,QH];lia
theorem CW{i:Nat}{x:Str}{p' h:Pos}(hu:X.A.units+65<J8)(hk:DE X k gk)(hv:DE X v gv)(hN:X.N[i]?=some x:=by rfl)(Y:i7 X.env.scope x:=by first | exact ZD rfl | exact Zp (ZD rfl) | exact Zp (Zp rfl))(hd:(x == ("__debug__":Str))=false:=by decide)
  (a1:(x == ("__classdict__":Str))=false:=by decide) (hs:ZB v (some (.Subscript (.Name x p') k h)) pos.line X.env=pure false:=by rfl):DS X (.Assign [.Subscript (.Name x p') k h] v pos) (lY i gk gv):=by
 intro g s n H W I ⟨a2,j,F,M,o,E,S,q,kk⟩;unfold lY at q
 split at q
 ·rename_i t e0;obtain⟨d,e1,q⟩:=aN q;obtain⟨kd,e2,q⟩:=aN q;obtain⟨B,e3,q⟩:=aN q;by_cases c:(cW t && decide (t.length<1000) && oO i M)=true
  ·rw [if_pos c]at q;cases q;simp only [QO,decide_eq_true_eq]at c;obtain⟨⟨fl,ln⟩,one⟩:=c;refine wpAny_Assign_Subscript (bH (hv g s n H (fun w r=>∃ m,aM F m H r/\aV X.K m r d w) I ⟨F,j,M,d,S,e1,fun m r w E1 R1=>⟨m,E1,R1⟩⟩) fun u s1 ⟨w,r,I1,R,m,E1,R1⟩=>?_) hs;have S1:=S.ext E1;obtain⟨a,es,ep,q1,q2,q3,q4,q5,q6,q7⟩:=S1.ownD e0;refine bH ((mG hN Y hd a1) g s1 n r (fun z J=>z=.ref a/\J=r) I1 ⟨.ref a,q1,rfl,rfl⟩) fun u2 s2 O=>?_;obtain⟨z,J,I2,rz,ez,eh⟩:=O;subst ez eh;cases rz;refine bH (hk g s2 n J (fun y p=>∃ l,aM m l J p/\aV X.K l p kd y) I2 ⟨m,j,M,kd,S1,e2,fun l p y E3 R3=>⟨l,E3,R3⟩⟩) fun u3 Q O=>?_;obtain⟨y,p,I3,ry,l,E3,R3⟩:=O;obtain⟨b,rfl,hb⟩:=iH R3 e3;cases ry;have S3:=S1.ext E3;have hH:=E3.same _ _ q2;have t3:=q7.stay (K:=X.K) E3.stay;obtain⟨lo,xs,dd,er⟩:=lF I3 hH (DReps.flat t3 fl) q5
   have U:xs.length<=sizeLine:=by rw [<- Paired.length er];exact Qz q6 (by rw [Yj];lia)
   refine wpAny_setItem_heap (knd:=dM X.prog X.w) (k:=B) (show X.A.in1.units<J8 from by show X.A.units+1<J8;lia) (hJ I3 hb) dd (fun h' G Z=>?_) U
   have a0:¬ l a:=fun f=>by
    rcases E3.new a f with f | ⟨f,_⟩
    ·exact q3 f
    ·rw [q2]at f;cases f
   have T:es.length<1000:=by rw [<- DReps.length q7];exact ln
   obtain⟨ep',oo⟩:=n6 (H:=p) lo G (vR R er);obtain⟨T1,T2⟩:=S3.turnD (ep':=ep') e0 q1 hH a0 q4 (Pr one e0) (Hu (k:=B) (b:=b) (v:=w) q5) (Qz Hv T) (DReps.put t3 hb (R1.stay E3.stay));have I4:Inv X g n (aZ p a (bZ a (jE es B b w) ep')) { Q with heap:=h',toks:=Q.toks+(dM X.prog X.w).draws B }:=I3.write (x:=a) (e:=a) (t':=Q.toks+(dM X.prog X.w).draws B) (by rw [hH];exact Z4) (.inl rfl) (fun c ob hc z=>(Z.2 c hc).trans z) (let⟨o2,_,_,hq,_⟩:=G;⟨o2,hq⟩) oo
   exact⟨n,_,I4,kk l _ n (((E.trans E1).trans E3).turn q4) ((E1.stay.trans E3.stay).trans T2) T1⟩
  ·rw [if_neg c]at q;cases q
 ·cases q
end
end DC
namespace DC
open PySem.Spec L2 DL ST SL EL
def mN(h:Heap)(a:JY)(b:Array Zz)(c:Nat):Prop:=(a == Zg)=false/\∃ o,h.get? a=some o/\o.ExactDict/\o.data=.dict b c
section
variable {P:J2}{w:J4}{A:Around}{E:Value->YP->Prop}{s:YP}{d it:JY}{raw:Array Zz}{ep i:Nat}
theorem mN.ty(h:mN s.heap d raw ep):s.TypeIs (.ref d) "dict":=let⟨_,o,h1,h2,_⟩:=h;⟨o,h1,h2.1⟩
theorem Ga{Q:Value->YP->Prop}(h:mN s.heap d raw ep)(f:Q (.ref s.heap.objs.size) { s with heap:=s.heap.push { cls:=.type "dict_keyiterator",data:=.fields #[.ref d,.int 0 0,.int raw.size 0,.int ep 0] } }):JZ (J1 P w) A (pyIter (.ref d)) Q E s:=by
 have a:=h.ty;obtain⟨e,o,c,g,b⟩:=h;refine wpAny_pyIter_slot a PySem.F.slot_dict_iter (Q9 PySem.F.slot_dict_iter a PySem.F.entry_dict_iter ?_ (PySem.F.args_dict_iter_1 _));unfold Builtin.«dict.__iter__»;refine Qa ?_;unfold Builtin.Dict.dictSlotNone
 refine Qa (UF a ?_);show JZ _ _ (pure (Value.ref d)) _ _ s;refine Qb ?_
 show JZ _ _ (Builtin.Dict.showsAll d >>= _) _ _ s;unfold Builtin.Dict.showsAll
 rw [if_neg (by rw [e];exact Qx)];refine Qa (Qb (Qa (Jn c b ?_)));refine Qa (wpAny_dictEpoch c b (Qa (Q0 (Qb ⟨_,rfl,"dict_keyiterator",_,⟨_,Qr _ rfl,rfl⟩,PySem.F.slot_dict_keyiterator_next.lookup,?_⟩))))
 simpa [Z0]using f
theorem FM{Q:Option Value->YP->Prop}(a:s.heap.IsKeyIter it d i raw.size ep)(h:mN s.heap d raw ep)(j:i<raw.size)
  (l:∀ h',h'.IsKeyIter it d (i+1) raw.size ep->Zi it s.heap h'->Q (some raw[i].key) { s with heap:=h' }):JZ (J1 P w) A (ZU (.ref it)) Q E s:=by
 obtain⟨o,e,k,c⟩:=id a;obtain⟨m,od,g,n,f⟩:=h;unfold ZU;refine Qa (UL (Yf (name:=Str.ofString "__next__") a.typeIs PySem.F.slot_dict_keyiterator_next (Q9 PySem.F.slot_dict_keyiterator_next a.typeIs PySem.F.entry_dict_keyiterator_next ?_ (PySem.F.args_dict_keyiterator_next_1 _))));refine Qa (Qb (Qa (Qa ?_)));refine Qa (YY a.typeIs (Qb (Qa (U1 e c ?_))));simp only [show Builtin.Dict_items.ownsTuple "dict_keyiterator"=false from by decide,Qq,if_false]
 show JZ _ _ (if(Value.ref d == Value.none)=true then _ else _) _ _ s;rw [if_neg (show ¬ ((Value.ref d == Value.none)=true)from Qx)]
 refine Qa (Qb (Qa (Jn g f ?_)));rw [if_neg (by simp)];refine Qa (Qb (Qa (wpAny_dictEpoch g f ?_)));rw [if_neg (by simp)];refine Qb ?_;simp only [show ¬ ((i:Int)<0)from by lia,if_false,YZ,QJ j];refine Qa ?_;refine Qa (YY a.typeIs (Qb (Qa (wpAny_isOneOf_keyiter a.typeIs ?_))))
 show JZ _ _ (setField (.ref it) 1 (Z0 ((i:Int)+1)) >>= _) _ _ s;refine Qa (Jt e c (by simp) ?_)
 have b:(s.heap.update it (Obj.mapFields (·.setIfInBounds 1 (Z0 ((i:Int)+1))))).IsKeyIter it d (i+1) raw.size ep:=⟨_,QQ _ e (JJ (YK c _)),(Uv ..).trans k,by rw [YK c];simp [Z0]⟩;refine Qa (QV (Qa (wpAny_isOneOf_keyiter (s:={ s with heap:=s.heap.update it (Obj.mapFields (·.setIfInBounds 1 (Z0 ((i:Int)+1)))) }) b.typeIs ?_)))
 show JZ _ _ (pure raw[i].key) _ _ _;exact Qb (Qb ⟨_,rfl,Qb (l _ b (QY ..))⟩)
theorem EI{Q:Option Value->YP->Prop}(l:A.handled=none)(c:s.heap.IsKeyIter it d i raw.size ep)(h:mN s.heap d raw ep)(k:raw.size<=i)
  (n:∀ h',Heap.ExtBut it s.heap h'->Q none { s with heap:=h' }):JZ (J1 P w) A (ZU (.ref it)) Q E s:=by
 obtain⟨o,e,q,f⟩:=id c;obtain⟨p,od,j,r,g⟩:=h;unfold ZU;refine Qa (UL (Yf (name:=Str.ofString "__next__") c.typeIs PySem.F.slot_dict_keyiterator_next (Q9 PySem.F.slot_dict_keyiterator_next c.typeIs PySem.F.entry_dict_keyiterator_next ?_ (PySem.F.args_dict_keyiterator_next_1 _))));refine Qa (Qb (Qa (Qa ?_)));refine Qa (YY c.typeIs (Qb (Qa (U1 e f ?_))));simp only [show Builtin.Dict_items.ownsTuple "dict_keyiterator"=false from by decide,Qq,if_false]
 show JZ _ _ (if(Value.ref d == Value.none)=true then _ else _) _ _ s;rw [if_neg (show ¬ ((Value.ref d == Value.none)=true)from Qx)]
 refine Qa (Qb (Qa (Jn j g ?_)));rw [if_neg (by simp)];refine Qa (Qb (Qa (wpAny_dictEpoch j g ?_)));rw [if_neg (by simp)];refine Qb ?_;simp only [show ¬ ((i:Int)<0)from by lia,if_false,YZ,Yl k];refine Qa ?_
 refine Qa (YY c.typeIs (Qb ?_));show JZ _ _ (setField (.ref it) 0 .none >>= _) _ _ s
 refine Qa (Jt e f (by simp) ?_);show JZ _ _ (newExc (.type "StopIteration") [] >>= _) _ _ _;refine Qa ?_
 simp only [newExc,newTuple];refine Qa (Q0 ?_ (by size_fits));refine Qa (m:=Z2 _ _) (Jy (a:=Value.none) (by first | rfl | (simp only [Z2];rfl)) (Q0 ?_ (by size_fits)));simp only [raiseNew];refine Qa (wpAny_handled ?_);rw [show A.in1.handled=none from l];refine Qa (Qb (wpAny_throw ?_));refine Qa (Ju (T:="StopIteration") (b:=true) ⟨_,Qr _ rfl,rfl⟩ isSubtype_stop ?_);exact Qb (n _ (((QY ..).extBut.push _).push _))
end
def BH(a:JY)(es:List cM)(b:Nat):It:=⟨fun i H=>H a=some (bZ a es b)/\i<es.length,fun i H x c=>c=H/\∃ e,es[i]?=some e/\x=.ref e.2.1,fun i H=>H a=some (bZ a es b)/\es.length<=i⟩
theorem AS{X:Cx}{pins:List (JY × Obj)}{σ:L2.St}{H:Hp}{s:YP}{a:JY}{es:List cM}{b:Nat}(I:Inv X pins σ H s)(h:H a=some (bZ a es b)):
  ∃ raw:Array Zz,mN s.heap a raw b/\raw.size=es.length/\∀(i:Nat) (hi:i<raw.size) (e:cM),es[i]?=some e->raw[i].key=.ref e.2.1:=by
 obtain⟨⟨f,o,raw,l,k,j,d⟩,_⟩:=(show eY X.prog X.w H s.heap a (bZ a es b)from I.hok a _ h)
 refine⟨raw,⟨f,o,l,k,j⟩,?_,fun i hi e g=>?_⟩
 ·have:=Paired.length d
  simpa using this.symm
 ·obtain⟨r,c,_,q,_⟩:=Paired.at d g
  have:raw.toList[i]?=some raw[i]:=by simp [hi]
  rw [this]at c;cases c;exact q
theorem Td{P:J2}{w:J4}{K:PySem.W.Frag}{S:Expr}(a it:JY)(es:List cM)(R:Nat):jQ P w K S (BH a es R) [it] it (fun i h=>h.IsKeyIter it a i es.length R) where
 mem:=by simp
 obj:=fun i h f b j=>by
  have e:b=it:=by simpa using j
  subst e;obtain⟨o,e,c,d⟩:=f
  exact⟨o,e,fun v z=>by rw [d]at z;cases z⟩
 keep:=fun i h n f k=>let⟨o,e,c⟩:=f;⟨o,k it (by simp) o e,c⟩
 item:=by
  intro X u q x Q i g s J H E I m f t;subst u q x;obtain⟨r,N⟩:=t;obtain⟨p,rd,sz,M⟩:=AS I r;obtain⟨G,F,U,B,A,y⟩:=m it (by simp);rw [<- sz]at f;refine FM f rd (by lia) fun n l T=>?_;have Z:Inv X g J H { s with heap:=n }:=I.turned (t':=s.toks) (fun b o j e=>(T.2 b j).trans e) G F B A y;obtain⟨o,e,c,d⟩:=id l
  have O:es[i]?=some es[i]:=by simp [N]
  refine⟨_,rfl,pL (s:={ s with heap:=n }) e c d (by decide) ⟨.ref (es[i]).2.1,H,Z,?_,⟨rfl,_,O,rfl⟩,by rw [<- sz];exact l,fun b j=>(m b j).1⟩⟩
  rw [M i (by lia) _ O];rfl
 done:=by
  intro X u q x Q i g s J H E I m f t;subst u q x;obtain⟨r,N⟩:=t;obtain⟨p,rd,sz,M⟩:=AS I r;obtain⟨G,F,U,B,A,y⟩:=m it (by simp);rw [<- sz]at f;exact EI (I.ok.hd Q) f rd (by lia) fun n Y=>⟨rfl,I.turned (t':=s.toks) (fun b o j e=>Y b o j e) G F B A y⟩
 self:=fun _ _ _ _ _ f h=>wpAny_pyIter_keyiter f h
def x9:D->Bool
 | .tuple _=>true
 | _=>false
def qS:D->Option (List D)
 | .dict a=>if(a.all fun e=>x9 e.1)=true then some (a.map (·.1))else none
 | d=>m5 d
theorem GK{K:PySem.W.Frag}{F:JY->Prop}{H:Hp}:∀{kss:List (List Int)}{bs:List JY},Paired (fun(ks:List Int) (b:JY)=>bR K H b (ks.map V.int)) kss bs->Reps K F H (kss.map fun ks=>.tuple (ks.map J3)) (bs.map V.ref)
 | _,_,.nil=>.nil
 | _,_,.cons h t=>.cons (.tup h (pN _)) (GK t)
theorem R4{K:PySem.W.Frag}{F:JY->Prop}{H:Hp}{k:eW}{b:JY}(h:nZ K H k b):aV K F H (tW k) (.ref b):=by
 cases k with
 | inl c=>exact .tup h (pN c)
 | inr a=>obtain⟨_,bs,e,d⟩:=h;exact .tup e (GK d)
theorem DReps.key{K:PySem.W.Frag}{F:JY->Prop}{H:Hp}{a:List (D × D)}{es:List cM}(t:DReps K F H a es):∀{i:Nat}{d:D},(a.map (·.1))[i]?=some d->∃ e,es[i]?=some e/\aV K F H d (.ref e.2.1):=by
 induction es generalizing a with
 | nil=>cases t;intro i d h;simp at h
 | cons e es b=>
  cases t with
  | cons c f t=>
   intro i d h
   cases i with
   | zero=>simp at h;subst h;exact⟨_,rfl,R4 c⟩
   | succ i=>exact b t (by simpa using h)
theorem OX{K:PySem.W.Frag}{F:JY->Prop}{H:Hp}{a:JY}{es:List cM}{k:Nat}{b:List (D × D)}(f:F a)(h:H a=some (bZ a es k))(t:DReps K F H b es):lL K F H (b.map (·.1)) (BH a es k):=fun q v T z i=>by
 have j:=T.xt _ _ f h;have g:=t.stay T
 refine⟨fun d p=>?_,fun o=>⟨j,by rw [<- DReps.length g];simpa using o⟩⟩
 obtain⟨e,l,r⟩:=DReps.key g p
 refine⟨⟨j,(Qf.mp l).1⟩,fun x u y=>?_⟩
 obtain⟨n,s,c,m⟩:=y;subst n m;rw [l]at c;cases c
 exact⟨q,aM.refl _ _,r⟩
def mU(ga:aA->Option D):aA->Option (List D):=fun a=>(ga a).bind qS
theorem Ds{X:Cx}{G e:Expr}{ga:aA->Option D}(A:DE X e ga):DI X G e (mU ga):=by
 intro g s z H R I h;obtain⟨F,i,w,O,S,q,k⟩:=h;obtain⟨d,B,q⟩:=aN q
 cases d with
 | dict j=>
  by_cases c:(j.all fun e=>x9 e.1)=true
  ·rw [qS,if_pos c]at q;cases q;refine bH (A g s z H (fun x m=>∃ p,aM F p H m/\aV X.K p m (.dict j) x) I ⟨F,i,w,_,S,B,fun p m v y u=>⟨p,y,u⟩⟩) fun v r E=>?_;obtain⟨x,m,I1,M,p,y,u⟩:=E;generalize hd:PyData.dict j=dd at u
   cases u with
   | @dct a es kvs' ep f h n l t=>
    cases hd;cases M;obtain⟨J,rd,sz,Q⟩:=AS I1 h;refine Ga rd ⟨r.heap.objs.size,[r.heap.objs.size],_,_,m,rfl,I1.kept (t':=r.toks) fun b o e=>Qc _ e,Td a _ es ep,⟨_,Qr _ rfl,rfl,by rw [sz];rfl⟩,fun b N=>?_,k p m _ y (OX f h t)⟩
    have e:b=r.heap.objs.size:=by simpa using N
    subst e;exact I1.fpOk (Ql _) (I1.hok.fresh (Ql _))
   | exn f h n=>
    exfalso
    cases hd;cases c
   | _=>cases hd
  ·rw [qS,if_neg c]at q;cases q
 | _=>exact CP A g s z H R I ⟨F,i,w,O,S,by show(ga w).bind m5=_;rw [B];exact q,k⟩
end DC
namespace DC
open PySem.Spec L2 DL ST SL EL
end DC
namespace DL
open PySem.Spec L2
section
variable {X:Cx}{a b:Expr}{ga:aA->Option (List D)}{pos:Pos}
end
end DL
namespace TX
open PySem.Spec L2 DL
open Builtin Builtin.Str
section
variable {X:Cx}
end
end TX
namespace TX
open PySem.Spec L2 DL
open Builtin Builtin.Str
section
variable {X:Cx}{o e:Expr}{go ge:aA->Option D}{apos cpos:Pos}
def lC:List D->Option D
 | [.str z]=>if decide (z.length<=1000000)then some (.int z.length)else none
 | _=>none
theorem Ae:dW X (.builtin "len") (gS X.K lC):=n3 MX fun e H Q b=>by
 obtain⟨F,f,q,z,R,a,k⟩:=b;unfold lC at a
 split at a
 ·split at a
  next c=>
   cases a
   cases R with
   | cons r d=>
    cases d;cases r
    exact⟨_,rfl,by rw [Yj];have:=of_decide_eq_true c;lia,k F H _ (aM.refl F H) (.int _)⟩
  next=>cases a
 ·cases a
def lA:D->D->Option D
 | .str x,.str y=>if decide (x.length+y.length<=1000000)then some (.str (x++y))else none
 | _,_=>none
theorem Fn:bO X (Zt .Add) (cU X.K lA):=pV Pw fun x y H Q b=>by
 obtain⟨F,d,e,q,z,f,R2,a,k⟩:=b;unfold lA at a
 split at a
 ·split at a
  next c=>
   cases a;cases f;cases R2
   exact⟨_,_,rfl,rfl,by rw [Yj];have:=of_decide_eq_true c;lia,k F H _ (aM.refl F H) (.str _)⟩
  next=>cases a
 ·cases a
end
end TX
namespace TX
open PySem.Spec L2 DL ZL EL
open Builtin Builtin.Str
def zE(x:Str):List Str:=x.cps.toList.map fun c=>⟨#[c]⟩
end TX
namespace TB
open PySem.Spec L2 DL TX
inductive hU(K:PySem.W.Frag)(w:J4):List (Str × D)->List Zz->Prop
 | nil:hU K w [] []
 | cons {x:Str}{d:D}{h:Int}{t:Tok}{v:V}{u:Value}{tb:List (Str × D)}{es:List Zz}:h=PySem.hashStr w x->RelV v u->(∀ F H,aV K F H d v)->hU K w tb es->hU K w ((x,d)::tb) (⟨h,.str x t,u⟩::es)
def oA(K:PySem.W.Frag)(w:J4)(a:JY)(tb:List (Str × D)):Prop:=∃ es ep,K.lookup a=some ⟨.type "dict",none,.dict es ep,#[]⟩/\hU K w tb es.toList
def lQ(tb:List (Str × D))(ga:aA->Option D):aA->Option D:=fun a=>(ga a).bind fun k=>match k with
 | .str x=>tb.lookup x
 | _=>none
theorem SY{prog:J2}{K:PySem.W.Frag}{w:J4}:∀{tb:List (Str × D)}{es:List Zz},hU K w tb es->∀ e∈es,∃ k,(PySem.strKind prog w).is k e.key=true/\e.hash=(PySem.strKind prog w).hash k:=by
 intro tb es h
 induction h with
 | nil=>intro e a;cases a
 | cons c r d _ b=>
  intro e a;rcases Qj.mp a with rfl | a
  ·exact⟨_,by simp [PySem.strKind,Value.isStrOf],c⟩
  ·exact b e a
theorem SX{prog:J2}{K:PySem.W.Frag}{w:J4}{x:Str}{d:D}:∀{tb:List (Str × D)}{es:List Zz},hU K w tb es->tb.lookup x=some d->∃ e v,es.find? (fun e=>(PySem.strKind prog w).is x e.key)=some e/\RelV v e.val/\∀ F H,aV K F H d v:=by
 intro tb es h
 induction h with
 | nil=>intro e;cases e
 | @cons y d' hh t v u tb es h1 h2 h3 _ ih=>
  intro e;rw [QW]at e;by_cases z:x=y
  ·subst z;rw [beq_self_eq_true]at e;cases e
   exact⟨_,v,by rw [List.find?_cons_of_pos (by simp [PySem.strKind,Value.isStrOf])],h2,h3⟩
  ·rw [show(x == y)=false from by simpa using z]at e;obtain⟨g,a,f,c,b⟩:=ih e
   refine⟨g,a,?_,c,b⟩
   rw [List.find?_cons_of_neg (by simp [PySem.strKind,Value.isStrOf];first | exact z | exact fun q=>z q.symm)];exact f
section
variable {X:Cx}{e:Expr}{ga gb:aA->Option D}{p pos:Pos}
def Lp(K:PySem.W.Frag)(w:J4):R2:=fun x y H Q=>∃ a k tb d,x=.ref a/\y=.str k/\oA K w a tb/\tb.lookup k=some d/\∀ v,(∀ F,aV K F H d v)->Q v H
theorem Pa:fW X (Lp X.K X.w):=fun b c g s m H x y v u Q I o n ⟨a,k,Y,d,S,R,⟨h,U,p,T⟩,J,q⟩ z=>by
 subst S R;cases o;obtain⟨t,rfl⟩:=n;obtain⟨W,i,O,N,M⟩:=SX (prog:=X.prog) T J;have B:=I.kIn a _ p;have j:s.heap.MapOf (PySem.strKind X.prog X.w) a (findBy (PySem.strKind X.prog X.w).is h):=⟨_,h,U,B,⟨rfl,rfl,rfl⟩,rfl,fun e G=>SY T e (by simpa using G),fun _=>rfl⟩
 have E:findBy (PySem.strKind X.prog X.w).is h k=some W.val:=by
  unfold findBy;rw [<- Array.find?_toList,O];rfl
 have l:=j.typeIs;unfold Ua;refine Qa ?_;rw [JK l.not_modules];refine Qa (JF l PySem.F.slot_dict_getitem.lookup ?_)
 have fin:JZ (J1 X.prog X.w) X.A (UN c false (.ref a) (.str k t)) (fun r f=>JZ (J1 X.prog X.w) X.A (U3 b (.ref a) r >>= fun _=>pure r) (EP X g m Q) X.xe f) X.xe s:=by
  rw [z];refine UV ?_;refine wpAny_getItem_of (knd:=PySem.strKind X.prog X.w) (k:=k) (by simp [PySem.strKind,Value.isStrOf]) j E ?_;exact Qa (JM (Qb ⟨i,H,I.tok _,N,q i fun F=>M F H⟩))
 first
  | exact Qb (Qa fin)
  | exact Qa (Qb (Qa fin))
  | exact Qa fin
theorem Dr{x:Str}{a:JY}{tb:List (Str × D)}(j:Gl X x)(i:X.mg x=some (.ref a))(T:oA X.K X.w a tb)(m:DE X e ga)(l:(x == ("__debug__":Str))=false:=by decide)(hs:rW e:=by exact fun _ _=>rfl):DE X (.Subscript (.Name x p) e pos) (lQ tb ga):=
 eQ (wE Pa (Hd (v:=.ref a) j i rfl l) m hs) fun t H Q g=>by
  obtain⟨F,b,f,d,S,q,k⟩:=g;obtain⟨h,n,q⟩:=aN q
  refine⟨F,b,f,h,S,n,fun c r v s o=>?_⟩
  split at q
  ·cases o
   exact⟨a,_,tb,d,rfl,rfl,T,q,fun v R=>k c r v s (R c)⟩
  ·cases q
def j6:D->D->Option D
 | .str x,.int i=>if decide (x.length<=1000000)then(atI x.cps.toList i).bind fun c=>some (.str ⟨#[c]⟩)else none
 | _,_=>none
theorem yB:fW X (cU X.K j6):=Gc O9 fun x y H Q b=>by
 obtain⟨F,d,e,q,z,h,R2,a,k⟩:=b;unfold j6 at a
 split at a
 ·split at a
  next c=>
   obtain⟨g,f,a⟩:=aN a;cases a;cases h;cases R2
   exact⟨_,_,g,rfl,rfl,by rw [Yj];have:=of_decide_eq_true c;lia,f,k F H _ (aM.refl F H) (.str _)⟩
  next=>cases a
 ·cases a
end
mutual
def kR:D->Bool
 | .none=>true
 | .bool _=>true
 | .int _=>true
 | .str _=>true
 | .tuple a=>noLs a
 | _=>false
def noLs:List D->Bool
 | []=>true
 | d::ds=>kR d && noLs ds
end
mutual
theorem u6{K:PySem.W.Frag}{F a:JY->Prop}{H:Hp}{d:D}{v:V}(h:aV K F H d v)(q:kR d=true):aV K a H d v:=by
 cases h with
 | non=>exact .non
 | bl b=>exact .bl b
 | int i=>exact .int i
 | str x=>exact .str x
 | tup h r=>exact .tup h (noLs_rep r q)
 | lst h r=>cases q
 | dct f h n l r=>cases q
 | exn f h n=>cases q
theorem noLs_rep{K:PySem.W.Frag}{F a:JY->Prop}{H:Hp}{ds:List D}{vs:List V}(h:Reps K F H ds vs)(q:noLs ds=true):Reps K a H ds vs:=by
 cases h with
 | nil=>exact .nil
 | cons h r=>
  have q:=QD.mp q;exact .cons (u6 h q.1) (noLs_rep r q.2)
end
def nK(i:Nat)(ga:aA->Option D):aA->Option aP:=fun a=>match a[i]? with
 | some (.own ds)=>(ga (a.map frz)).bind fun d=>if(kR d && decide (ds.length<1000))=true then some (.nx (a.set i (.own (ds++[d]))))else none
 | _=>none
section
variable {X:Cx}{e:Expr}{ga:aA->Option D}{p pos:Pos}
theorem Nv{i:Nat}{x:Str}{b a:Pos}(R:DE X e ga)(U:X.N[i]?=some x:=by rfl)(O:i7 X.env.scope x:=by first | exact ZD rfl | exact Zp (ZD rfl) | exact Zp (Zp rfl))(Q:(x == ("__debug__":Str))=false:=by decide)
  (u:(x == ("__classdict__":Str))=false:=by decide) (h:J0 [e] X.env=(false,Zs e X.env)::J0 [] X.env:=by rfl)
  (g:ZY (.Name x p) "append" X.env (Zs (.Name x p) X.env)=Zs (.Name x p) X.env:=by rfl)
  (j:((Zo a (J0 [e] X.env)).all (fun x => !x.1) && (Ut a (ZN [] X.env)).all (fun x=>x.1.isSome)
   && decide ([e].length+([]:List Z1).length+(if([]:List Z1).isEmpty then 0 else 1)<30))=true:=by rfl)
  (f:(b.endLine == a.line)=true:=by rfl) (c:(Zo a (J0 [] X.env)).any (·.1)=false:=by rfl) (t:ZB (.Call (.Attribute (.Name x p) "append" b) [e] [] a) none pos.line X.env=pure false:=by rfl):
  DS X (.Expr (.Call (.Attribute (.Name x p) "append" b) [e] [] a) pos) (nK i ga):=
 ps_mono (wG (AK PySem.F.plainAttrs_list PySem.F.slot_list_append PySem.F.type_list_append AF (mG U O Q u) (k4 R nJ h) g j f h c) t) fun W G H J=>by
 obtain⟨B,m,F,I,o,E,S,q,k⟩:=J;unfold nK at q
 split at q
 ·rename_i ds w;obtain⟨d,Z,q⟩:=aN q;by_cases n:(kR d && decide (ds.length<1000))=true
  ·rw [if_pos n]at q;cases q;rw [QO,decide_eq_true_eq]at n;obtain⟨l,vs,s,M,q3,K,q5⟩:=S.own w
   refine⟨_,s,.inl ⟨rfl,_,cJ.of M⟩,_,m,I.map frz,d,S.frz,Z,fun F' H' v E' R'=>?_⟩
   have E2:=E'.lend S;have S':=S.ext E2;obtain⟨l',r,A,z,Y,g4,y⟩:=S'.own w;rw [s]at A;cases A
   refine⟨l,r,v,rfl,rfl,z,wX (by rw [<- y.length];lia),?_⟩
   obtain⟨S2,T⟩:=S'.turn w s z Y (y.append (.cons (u6 R' n.1) .nil));exact k _ _ G ((E.trans E2).turn K) (E2.stay.trans T) S2
  ·rw [if_neg n]at q;cases q
 ·cases q
end
end TB
namespace TX
open PySem.Spec L2 DL
open Builtin Builtin.Str
section
variable {X:Cx}
def tY:D->Bool
 | .none=>true
 | _=>false
def qH:D->D->Option D
 | d,.none=>some (.bool (tY d))
 | _,_=>none
theorem PK:bO X (J9 .Is) (cU X.K qH):=pV Pz fun x y H Q b=>by
 obtain⟨F,d,e,q,z,c,R2,a,k⟩:=b;unfold qH at a
 split at a
 ·cases a;cases R2
  refine⟨rfl,?_⟩
  have e:decide (x=.non)=tY d:=by cases c <;> rfl
  rw [e];exact k F H _ (aM.refl F H) (.bl _)
 ·cases a
def xD(x:Str):It:=⟨fun i _=>i<x.cps.size,fun i H v a=>a=H/\∃ c,x.cps[i]?=some c/\v=.str ⟨#[c]⟩,fun i _=>x.cps.size<=i⟩
theorem Th{P:J2}{w:J4}{K:PySem.W.Frag}{tg:Expr}(it:JY)(x:Str)(t:Tok):jQ P w K tg (xD x) [it] it (fun i h=>h.IsStrIter it (Zv x) x t i) where
 mem:=by simp
 obj:=fun i h j b f=>by
  obtain⟨o,ho,_,hd⟩:=j;rw [Qd.mp f]
  exact⟨o,ho,fun v z=>by rw [hd]at z;cases z⟩
 keep:=fun i h g j k=>by
  obtain⟨o,ho,r⟩:=j
  exact⟨o,k it (by simp) o ho,r⟩
 item:=by
  intro X hP U hK hc i l s T H E I J j hg;subst hP U hK;obtain⟨S,R,f2,O,N,M⟩:=J it (by simp);have a1:i<x.cps.size:=hg
  have go:∀(n:String),Zv x=n->n="str_ascii_iterator" ∨ n="str_iterator"->∀(c:Nat) (g:Heap) (G:Tok),x.cps[i]?=some c->g.IsStrIter it n x t (i+1)->(∀ b o,b≠it->s.heap.get? b=some o->g.get? b=some o)->∃ u,some (Value.str ⟨#[c]⟩ s.toks)=some u /\
    JZ (J1 X.prog X.w) X.A (US tg (.ref it) u) (fun _ s2=>∃ y H',Inv X l T H' s2/\RelV y u/\(xD x).yld i H y H'/\s2.heap.IsStrIter it (Zv x) x t (i+1)/\∀ b∈[it],H' b=none) E { s with heap:=g,toks:=G }:=fun n hn a0 c g G a4 B kk=>by
   have I1:Inv X l T H { s with heap:=g,toks:=G }:=I.turned (fun b o f e=>kk b o f e) S R O N M;obtain⟨o',Z,a3,a2⟩:=id B
   refine⟨_,rfl,pL (s:={ s with heap:=g,toks:=G }) (n:=n) Z a3 a2 (by rcases a0 with rfl | rfl <;> decide) ⟨.str ⟨#[c]⟩,H,I1,⟨_,rfl⟩,⟨rfl,c,a4,rfl⟩,by rw [hn];exact B,fun b f=>(J b f).1⟩⟩
  have m:x.cps[i]?=some x.cps[i]:=by simp [a1]
  by_cases a:(x.cps.all (·<128))=true
  ·have e:Zv x="str_ascii_iterator":=by unfold Zv;rw [if_pos a]
   have d:s.heap.IsStrIter it "str_ascii_iterator" x t i:=by rw [<- e];exact j
   exact wpAny_pyNext_ascii_item d m fun g p Y=>go _ e (.inl rfl) _ g _ m p fun b o f q=>Y.extBut b o f q
  ·have e:Zv x="str_iterator":=by unfold Zv;rw [if_neg a]
   have d:s.heap.IsStrIter it "str_iterator" x t i:=by rw [<- e];exact j
   exact wpAny_pyNext_wide_item d m fun g p Y=>go _ e (.inr rfl) _ g _ m p fun b o f q=>Y.extBut b o f q
 done:=by
  intro X hP U hK hc i l s T H E I J j hg;subst hP U hK;obtain⟨S,R,f2,O,N,M⟩:=J it (by simp);have F:x.cps[i]?=none:=Yl hg;by_cases a:(x.cps.all (·<128))=true
  ·have e:Zv x="str_ascii_iterator":=by unfold Zv;rw [if_pos a]
   have d:s.heap.IsStrIter it "str_ascii_iterator" x t i:=by rw [<- e];exact j
   exact wpAny_pyNext_ascii_end (I.ok.hd hc) d F fun g eb=>⟨rfl,I.turned (t':=s.toks) (fun b o f e=>eb b o f e) S R O N M⟩
  ·have e:Zv x="str_iterator":=by unfold Zv;rw [if_neg a]
   have d:s.heap.IsStrIter it "str_iterator" x t i:=by rw [<- e];exact j
   exact wpAny_pyNext_wide_end (I.ok.hd hc) d F fun g eb=>⟨rfl,I.turned (t':=s.toks) (fun b o f e=>eb b o f e) S R O N M⟩
 self:=fun A i s Q E j h=>by
  by_cases a:(x.cps.all (·<128))=true
  ·have e:Zv x="str_ascii_iterator":=by unfold Zv;rw [if_pos a]
   have d:s.heap.IsStrIter it "str_ascii_iterator" x t i:=by rw [<- e];exact j
   exact wpAny_pyIter_striter_ascii d h
  ·have e:Zv x="str_iterator":=by unfold Zv;rw [if_neg a]
   have d:s.heap.IsStrIter it "str_iterator" x t i:=by rw [<- e];exact j
   exact wpAny_pyIter_striter_wide d h
def zG:D->Option (List D)
 | .str x=>some ((zE x).map .str)
 | _=>none
def qJ(ga:aA->Option D):aA->Option (List D):=fun a=>(ga a).bind zG
theorem N9{M e:Expr}{ga:aA->Option D}(Q:DE X e ga):DI X M e (qJ ga):=by
 intro j s E H R I h;obtain⟨F,l,G,Y,S,q,k⟩:=h;obtain⟨d,U,q⟩:=aN q;refine bH (Q j s E H (fun x f=>∃ g,aM F g H f/\aV X.K g f d x) I ⟨F,l,G,d,S,U,fun g f v u r=>⟨g,u,r⟩⟩) fun v m w=>?_;obtain⟨x,f,I1,N,g,u,r⟩:=w
 cases r with
 | str z=>
  cases q;obtain⟨t,rfl⟩:=N;refine wpAny_pyIter_strU ?_
  refine⟨m.heap.objs.size,[m.heap.objs.size],_,xD z,f,rfl,I1.kept (t':=m.toks) fun b o e=>Qc _ e,Th _ z t,⟨_,Qr _ rfl,rfl,rfl⟩,fun b O=>?_,k g f _ u ?_⟩
  ·have e:b=m.heap.objs.size:=by simpa using O
   subst e;exact I1.fpOk (Ql _) (I1.hok.fresh (Ql _))
  ·intro B H2 T w i
   refine⟨fun d a=>?_,fun p=>?_⟩
   ·unfold zE at a;rw [Yk,QF,QI]at a
    cases n:z.cps[i]? with
    | none=>rw [n]at a;cases a
    | some c=>
     rw [n]at a;cases a
     refine⟨(Array.getElem?_eq_some_iff.mp n).1,fun y W J=>?_⟩
     obtain⟨rfl,Z,A,rfl⟩:=J;rw [n]at A;cases A
     exact⟨B,aM.refl B W,.str _⟩
   ·unfold zE at p;rw [Qo,Qo,Qt]at p;exact p
 | _=>cases q
end
end TX
namespace CL
open PySem.Spec L2
section
variable {X:Cx}{N':List Str}{scope:ZK}{inner:List (Option Nat)}{x0:Str}{cl:List (Str × JY)}{C:JY}{fp:List JY}{s s4:YP}{H:Hp}{σ:L2.St}{pins:List (JY × Obj)}
end
section
variable {X:Cx}{elt tg iter:Expr}{ifs:List Expr}{scope:ZK}{pos:Pos}{N':List Str}{inner:List (Option Nat)}{x0:Str}{wi:TI}{g:TG}{ti:TT}{te:TE}
end
end CL
namespace DL
open PySem.Spec PySem.SeqAt L2 CL
section
variable {X:Cx}{elt tg iter:Expr}{ifs:List Expr}{scope:ZK}{pos:Pos}{N':List Str}{inner:List (Option Nat)}{x0:Str}{gi:aA->Option (List D)}{s:D->aA->Option aA}{t:aA->Option Bool}{ge:aA->Option D}
end
end DL
namespace CL
open PySem.Spec L2
section
variable {X:Cx}{elt tg iter:Expr}{ifs:List Expr}{scope:ZK}{pos:Pos}{N':List Str}{inner:List (Option Nat)}{x0:Str}{wi:TI}{g:TG}{ti:TT}{te:TE}
end
end CL
namespace DL
open PySem.Spec PySem.SeqAt L2 CL
section
variable {X:Cx}{elt tg iter:Expr}{ifs:List Expr}{scope:ZK}{pos:Pos}{N':List Str}{inner:List (Option Nat)}{x0:Str}{gi:aA->Option (List D)}{s:D->aA->Option aA}{t:aA->Option Bool}{ge:aA->Option D}
end
end DL
namespace LM
open PySem.Spec L2 CL DL DC
theorem M2{prog:J2}{w:J4}{A:Around}{E:Value->YP->Prop}{s:YP}{id:String}{b:Builtin}{args:List Value}{c:List (Str × Value)}{Q:Value->YP->Prop}(i:builtinKind id=none)(h:plainId id=true)
  (j:entryFor table id=some b) (k:argsOk id ⟨args,c⟩)
  (g:JZ (J1 prog w) A.in1 (b ⟨args,c⟩) (fun fin s'=>match fin with
   | .done f=>(match(Except.ok f:Result)with | .ok (.ret v)=>Q v s' | .ok _=>False | .error e=>E e s')
   | .again c'=>c'.quiet=true/\ZW (J1 prog w) A c' (fun r s'=>match r with | .ok (.ret v)=>Q v s' | .ok _=>False | .error e=>E e s') s') E s):
  JZ (J1 prog w) A (call (.builtin id) args c) Q E s:=by
 refine wpAny_call (UP h j ?_);simp only [checkBuiltinCall,i]
 cases d:Manifest.signature? id with
 | none=>exact Qb g
 | some a=>
  have l:Bind.checkArgs id a ⟨args,c⟩=pure ():=by simpa only [argsOk,d]using k
  show JZ _ A.in1 (Bind.checkArgs id a ⟨args,c⟩) _ _ s
  rw [l];exact Qb g
theorem MF(a b:Value):argsOk "min" ⟨[a],[("key",b)]⟩:=by unfold argsOk;kernel_rfl
theorem j2:(toString "min"++toString ".loop":String)="min.loop":=by decide
def K1(x y:Value)(c:Nat):Obj:={ cls:=.type "list",dict:=none,data:=.seq #[x,y] c,slots:=#[] }
theorem mC:∀{ns:List Int}{us:List Value},Vals (ns.map V.int) us->ZH us ns
 | [],_,h=>by cases h;exact .nil
 | n::ns,_,h=>by
  cases h with
  | cons r h=>
   obtain⟨t,rfl⟩:=r;exact .cons n t (mC h)
theorem OM{X:Cx}{pins:List (JY × Obj)}{σ:L2.St}{H:Hp}{s:YP}{F x:JY->Prop}{A:Around}{E:Value->YP->Prop}{Q:Value->YP->Prop}{a b:List Int}{v e:V}{u f:Value}(I:Inv X pins σ H s)(r:aV X.K F H (iR a) v)(i:aV X.K x H (iR b) e)(q:RelV v u)(j:RelV e f)
  (n:A.units<J8) (k:Q (.bool (HT.lexLt a b)) s):JZ (J1 X.prog X.w) A (ZM .Lt u f) Q E s:=by
 obtain⟨c,rfl,t⟩:=iH r (show bW (iR a)=some a from rB a);obtain⟨y,rfl,o⟩:=iH i (show bW (iR b)=some b from rB b);cases q;cases j;obtain⟨m,h,p,_⟩:=I.tuple t;obtain⟨g,d,l,_⟩:=I.tuple o;exact HT.lt_tupInts p l (mC h) (mC d) n k
section
variable {X:Cx}{f l I S:JY}{vs:List V}{pins:List (JY × Obj)}{σ:L2.St}{F:JY->Prop}{H:Hp}{kd:Nat->List Int}
def BL(X:Cx)(f:JY)(vs:List V)(pins:List (JY × Obj))(σ:L2.St)(F:JY->Prop)(H:Hp)(kd:Nat->List Int):Prop:=∀(j:Nat) (pp:List (JY × Obj)) (s':YP) (Hj:Hp) (Fj:JY->Prop) (v:V) (u:Value) (E:Value->YP->Prop),(∀ p∈pins,p∈pp)->Inv X pp σ Hj s'->aM F Fj H Hj->vs[j]?=some v->RelV v u->
 JZ (J1 X.prog X.w) X.A.in1 (call (.ref f) [u]) (fun y a=>∃ Fk Hk w,Inv X pp σ Hk a/\aM Fj Fk Hj Hk/\RelV w y/\aV X.K Fk Hk (iR (kd j)) w) E s'
def i8(kd:Nat->List Int)(i j:Nat):Bool:=HT.lexLt (kd i) (kd j)
structure MI(X:Cx)(l I S:JY)(vs:List V)(pins:List (JY × Obj))(σ:L2.St)(F:JY->Prop)(H:Hp)(kd:Nat->List Int)(j:Nat)(x y:Value)(c:Nat)(Fj:JY->Prop)(Hj:Hp)(s:YP):Prop where
 inv:Inv X pins σ Hj s
 ext:aM F Fj H Hj
 it:s.heap.IsListIter I l (j+1)
 fI:eH X pins Hj I
 fS:eH X pins Hj S
 hS:s.heap.get? S=some (K1 x y c)
 bx:∃ v,vs[Zr (i8 kd) j]?=some v/\RelV v x
 yb:∃ v,RelV v y/\aV X.K Fj Hj (iR (kd (Zr (i8 kd) j))) v
theorem Aw{K:PySem.W.Frag}{H b:Hp}{a:JY}{xs:List V}(e:eJ H b)(h:cJ K H a xs):cJ K b a xs:=by
 rcases h with(h | ⟨o,h⟩) | h
 ·exact .inl (.inl (e _ _ h))
 ·exact .inl (.inr ⟨o,e _ _ h⟩)
 ·exact .inr h
theorem Oh(hh:X.A.handled=none)(hu:X.A.units+10<J8)(hk:BL X f vs pins σ F H kd)(G:cJ X.K H l vs)(T:l≠I)(B:I≠S){R:Result->YP->Prop}
  (fin:∀ x s' Fk Hk,(∃ v,vs[Zr (i8 kd) (vs.length-1)]?=some v/\RelV v x)->Inv X pins σ Hk s'->aM F Fk H Hk->R (.ok (.ret x)) s'):
  ∀(m j:Nat) (s:YP) (x y:Value) (c:Nat) (Fj:JY->Prop) (Hj:Hp),vs.length-(j+1)=m->j+1<=vs.length->MI X l I S vs pins σ F H kd j x y c Fj Hj s->ZW (J1 X.prog X.w) X.A (.builtin "min.loop" ⟨[.ref I,.ref f,.ref S],[]⟩) R s:=by
 intro m
 induction m with
 | zero=>
  intro j s x y c Fj Hj e1 e2 M
  have en:vs.length-1=j:=by lia
  obtain⟨i,k,pl,_⟩:=M.inv.list (Aw M.ext.same G);have W:=Walks.list (prog:=X.prog) (w:=X.w) (A:=X.A.in1) (by simp [hh]) I l T i.toArray;refine Yh PySem.F.entry_min_loop ?_;rw [Q7 PySem.F.plain_min_loop _];refine Qa (m:=Ur (.ref S)) (Yx M.hS rfl ?_)
  show JZ _ X.A.in1 (Uh (ZU (.ref I)) _ >>= _) _ _ s
  have sz:i.toArray.size=j+1:=by rw [QA,<- k.length];lia
  refine Qa (Yy (W.done s _ _ (by rw [sz];exact⟨M.it,pl.isList⟩) fun h tk J=>?_));have n:=J S _ (by simp [Zy B]) M.hS;have I1:Inv X pins σ Hj { s with heap:=h,toks:=tk }:=M.inv.turned (it:=I) (fun b o d e=>J b o (by simp [d]) e) M.fI.1 M.fI.2.1 M.fI.2.2.2.1 M.fI.2.2.2.2.1 M.fI.2.2.2.2.2;refine Qa (m:=updateSeq S (fun _=>#[])) (Y3 n rfl (Qa (Jo (Qb ?_))));refine fin x _ Fj Hj (by rw [en];exact M.bx) ?_ M.ext;exact I1.turned (it:=S) (t':=tk) (fun b o d e=>(Yr _ _ (Zy d)).trans e) M.fS.1 M.fS.2.1 M.fS.2.2.2.1 M.fS.2.2.2.2.1 M.fS.2.2.2.2.2
 | succ m ih=>
  intro j s x y c Fj Hj e1 e2 M
  have lt:j+1<vs.length:=by lia
  obtain⟨i,k,pl,_⟩:=M.inv.list (Aw M.ext.same G);have W:=Walks.list (prog:=X.prog) (w:=X.w) (A:=X.A.in1) (by simp [hh]) I l T i.toArray;refine Yh PySem.F.entry_min_loop ?_;rw [Q7 PySem.F.plain_min_loop _];refine Qa (m:=Ur (.ref S)) (Yx M.hS rfl ?_)
  show JZ _ X.A.in1 (Uh (ZU (.ref I)) _ >>= _) _ _ s
  have sz:i.toArray.size=vs.length:=by rw [QA,k.length]
  refine Qa (Yy (W.item (j+1) s _ _ (by rw [sz];exact lt) ⟨M.it,pl.isList⟩ fun u h tk pu E J=>?_));have n:=J S _ (by simp [Zy B]) M.hS;have I1:Inv X pins σ Hj { s with heap:=h,toks:=tk }:=M.inv.turned (it:=I) (fun b o d e=>J b o (by simp [d]) e) M.fI.1 M.fI.2.1 M.fI.2.2.2.1 M.fI.2.2.2.2.1 M.fI.2.2.2.2.2;obtain⟨oI,hI,cI,dI⟩:=id E.1
  have Q:∀ b∈[I,S],∃ o,h.get? b=some o/\∀ v,o.data≠.cell v:=fun b d=>by
   rcases Qj.mp d with rfl | d
   ·exact⟨oI,hI,fun v z=>by rw [dI]at z;cases z⟩
   ·rw [Qd.mp d]
    exact⟨_,n,fun v z=>by cases z⟩
  have a0:∀ b∈[I,S],eH X pins Hj b:=fun b d=>by
   rcases Qj.mp d with rfl | d
   ·exact M.fI
   ·rw [Qd.mp d];exact M.fS
  have a1:=I1.pinned a0 Q
  have hv:i[j+1]?=some u:=by simpa using pu
  have r:vs[j+1]?=some vs[j+1]:=Qh lt;obtain⟨u',O,ru⟩:=k.get r;rw [hv]at O;cases O
  show JZ _ X.A.in1 (Uh (U5 [u] (call (.ref f) [u])) _ >>= _) _ _ _
  refine Qa (Yy (QV (YO (hk (j+1) _ _ Hj Fj _ u _ (fun p hp=>QK _ hp) a1 M.ext r ru) (fun Z s2 h2=>?_) fun _ _ z=>z)));obtain⟨Fk,Hk,w2,I2,E2,rw2,R2⟩:=h2;have pI:=I2.pin (I,oI) (Qk _ (Qk _ (kZ (by simp) hI)));have pS:=I2.pin (S,_) (Qk _ (Qk _ (kZ (by simp) n)));have I2':=I2.unpinned
  have N:s2.heap.IsListIter I l (j+1+1):=E.1.at fun o e=>by rw [hI]at e;cases e;exact pI.1
  have t:=pS.1;have U:eH X pins Hk I:=⟨pI.2.1,M.fI.2⟩;have g:eH X pins Hk S:=⟨pS.2.1,M.fS.2⟩;obtain⟨wy,ry,Ry⟩:=M.yb;have Ry:=Ry.stay E2.stay
  show JZ _ X.A.in1 (Uh (U5 [u,Z] (ZM .Lt Z y >>= _)) _ >>= _) _ _ _
  refine Qa (Yy (QV (Qa (OM I2' R2 Ry rw2 ry (by show X.A.units+1<J8;lia) ?_))));refine Qa (QV (Yv (Qa (Jo (Qb ?_)))));have E':=M.ext.trans E2
  cases b:HT.lexLt (kd (j+1)) (kd (Zr (i8 kd) j))with
  | true=>
   simp only [if_true];refine Qa (Y3 t rfl (Qa (Jo ?_)));rw [j2]
   have Y:Zr (i8 kd) (j+1)=j+1:=by simp only [Zr,i8,b,if_true]
   have up:∀ a o,a≠S->s2.heap.get? a=some o->(s2.heap.update S (ZC fun _=>#[u,Z])).get? a=some o:=fun a o ns q=>(Yr _ _ (Zy ns)).trans q;refine Qb ⟨Yq PySem.F.plain_min_loop _,ih (j+1) _ u Z _ Fk Hk (by lia) lt ⟨I2'.turned (it:=S) (t':=s2.toks) (fun b o d e=>up b o d e) g.1 g.2.1 g.2.2.2.1 g.2.2.2.2.1 g.2.2.2.2.2,E',N.at fun o e=>up I o B e,U,g,QQ _ t rfl,⟨_,by rw [Y];exact r,ru⟩,⟨w2,rw2,by rw [Y];exact R2⟩⟩⟩
  | false=>
   simp only [Qq,if_false];refine Qa (Jo ?_);rw [j2]
   have Y:Zr (i8 kd) (j+1)=Zr (i8 kd) j:=by simp only [Zr,i8,b,Qq,if_false]
   exact Qb ⟨Yq PySem.F.plain_min_loop _,ih (j+1) _ x y _ Fk Hk (by lia) lt ⟨I2',E',N,U,g,t,by rw [Y];exact M.bx,⟨wy,ry,by rw [Y];exact Ry⟩⟩⟩
theorem Od{s:YP}{Q:Value->YP->Prop}{E:Value->YP->Prop}(hh:X.A.handled=none)(hu:X.A.units+10<J8)(hk:BL X f vs pins σ F H kd)(I0:Inv X pins σ H s)(t:cJ X.K H l vs)(Z:0<vs.length)
  (fin:∀ x s' Fk Hk,(∃ v,vs[Zr (i8 kd) (vs.length-1)]?=some v/\RelV v x)->Inv X pins σ Hk s'->aM F Fk H Hk->Q x s'):JZ (J1 X.prog X.w) X.A (call (.builtin "min") [.ref l] [("key",.ref f)]) Q E s:=by
 obtain⟨g,r,R,_⟩:=I0.list t;obtain⟨ol,T,_⟩:=id R.isList;have lS:l<s.heap.objs.size:=Qs T;refine M2 PySem.F.kind_min PySem.F.plain_min PySem.F.entry_min (MF _ _) ?_;refine Qa (m:=Zl "min" ["key","default"] 0 ⟨[],[("key",.ref f)]⟩) (Jy (show Zl "min" ["key","default"] 0 ⟨[],[("key",.ref f)]⟩=pure [some (.ref f),none]from rfl) (Qa (Qb ?_)));refine Qa (Jl R.isList ?_);refine Qa (Q0 ?_);rw [j2];have eS:(s.heap.push { cls:=.type "list_iterator",data:=.fields #[.ref l,.int 0 0] }).objs.size=s.heap.objs.size+1:=Yp ..;refine Qb ⟨Yq PySem.F.plain_min_loop _,?_⟩;rw [eS];generalize hI:s.heap.objs.size=Ia at *;have M:l≠Ia:=Qu lS;have j:Ia≠Ia+1:=Qu (YC _);have fI:eH X pins H Ia:=I0.fpOk (Nat.le_of_eq hI) (I0.hok.fresh (Nat.le_of_eq hI));have fS:eH X pins H (Ia+1):=I0.fpOk (by rw [hI];exact Nat.le_succ _) (I0.hok.fresh (by rw [hI];exact Nat.le_succ _));have I1:Inv X pins σ H { s with heap:=(s.heap.push { cls:=.type "list_iterator",data:=.fields #[.ref l,.int 0 0] }).push { cls:=.type "list",data:=.seq #[] } }:=I0.kept (t':=s.toks) fun b o e=>Qc _ (Qc _ e);have W:=Walks.list (prog:=X.prog) (w:=X.w) (A:=X.A.in1) (by simp [hh]) Ia l M g.toArray
 have sz:g.toArray.size=vs.length:=by rw [QA,r.length]
 refine Yh PySem.F.entry_min_loop ?_;rw [Q7 PySem.F.plain_min_loop _]
 have I:((s.heap.push { cls:=.type "list_iterator",data:=.fields #[.ref l,.int 0 0] }).push { cls:=.type "list",data:=.seq #[] }).get? (Ia+1)=some { cls:=.type "list",data:=.seq #[] }:=by rw [<- eS];exact Qr _ rfl
 have U:((s.heap.push { cls:=.type "list_iterator",data:=.fields #[.ref l,.int 0 0] }).push { cls:=.type "list",data:=.seq #[] }).IsListIter Ia l 0:=⟨{ cls:=.type "list_iterator",data:=.fields #[.ref l,.int 0 0] },Qc _ (by rw [<- hI];exact Qr _ rfl),rfl,rfl⟩;refine Qa (m:=Ur (.ref (Ia+1))) (Yx I rfl ?_)
 show JZ _ X.A.in1 (Uh (ZU (.ref Ia)) _ >>= _) _ _ _
 refine Qa (Yy (W.item 0 _ _ _ (by rw [sz];exact Z) ⟨U,(R.isList.push _).push _⟩ fun u h tk pu n kp=>?_));have G:=kp _ _ (by simp [Zy j]) I;have I2:=I1.turned (h':=h) (it:=Ia) (t':=tk) (fun b o d e=>kp b o (by simp [d]) e) fI.1 fI.2.1 fI.2.2.2.1 fI.2.2.2.2.1 fI.2.2.2.2.2;obtain⟨oI,k,cI,dI⟩:=id n.1
 have J:∀ b∈[Ia,Ia+1],∃ o,h.get? b=some o/\∀ v,o.data≠.cell v:=fun b d=>by
  rcases Qj.mp d with rfl | d
  ·exact⟨oI,k,fun v z=>by rw [dI]at z;cases z⟩
  ·rw [Qd.mp d]
   exact⟨_,G,fun v z=>by cases z⟩
 have Y:∀ b∈[Ia,Ia+1],eH X pins H b:=fun b d=>by
  rcases Qj.mp d with rfl | d
  ·exact fI
  ·rw [Qd.mp d];exact fS
 have a1:=I2.pinned Y J
 have hv:g[0]?=some u:=by simpa using pu
 have i:vs[0]?=some vs[0]:=Qh Z;obtain⟨u',y,ru⟩:=r.get i;rw [hv]at y;cases y
 show JZ _ X.A.in1 (Uh (U5 [u] (call (.ref f) [u])) _ >>= _) _ _ _
 refine Qa (Yy (QV (YO (hk 0 _ _ H F _ u _ (fun p hp=>QK _ hp) a1 (aM.refl F H) i ru) (fun O N h2=>?_) fun _ _ z=>z)));obtain⟨Fk,Hk,w2,I3,E2,rw2,R2⟩:=h2;have pI:=I3.pin (Ia,oI) (Qk _ (Qk _ (kZ (by simp) k)));have pS:=I3.pin (Ia+1,_) (Qk _ (Qk _ (kZ (by simp) G)));have I3':=I3.unpinned
 have S:N.heap.IsListIter Ia l (0+1):=n.1.at fun o e=>by rw [k]at e;cases e;exact pI.1
 have B:=pS.1;have a0:eH X pins Hk Ia:=⟨pI.2.1,fI.2⟩;have c:eH X pins Hk (Ia+1):=⟨pS.2.1,fS.2⟩;refine Qa (m:=updateSeq (Ia+1) (fun _=>#[u,O])) (Y3 B rfl ?_);rw [j2];have up:∀ a o,a≠Ia+1->N.heap.get? a=some o->(N.heap.update (Ia+1) (ZC fun _=>#[u,O])).get? a=some o:=fun a o ns q=>(Yr _ _ (Zy ns)).trans q;exact Qb ⟨Yq PySem.F.plain_min_loop _,Oh hh hu hk t M j (fun x s' Fk Hk q1 q2 q3=>fin x s' Fk Hk q1 q2 q3) _ 0 _ u O _ Fk Hk rfl Z ⟨I3'.turned (it:=Ia+1) (t':=N.toks) (fun b o d e=>up b o d e) c.1 c.2.1 c.2.2.2.1 c.2.2.2.2.1 c.2.2.2.2.2,E2,S.at fun o e=>up Ia o j e,a0,c,QQ _ B rfl,⟨_,i,ru⟩,⟨w2,rw2,R2⟩⟩⟩
end
end LM
namespace MN
open PySem.Spec PySem.SeqAt L2 DL SD
section
variable {prog:J2}{w:J4}{A:Around}{E:Value->YP->Prop}{s:YP}
theorem IE{x y:D}{p q:Value}{a b:List Int}{J bs:List JY}{Q:Value->YP->Prop}(K:A.units+64<J8)(d:UX s.heap p x J)(c:UX s.heap q y bs)(l:iY x y=true)(g:lI x=some a)(f:lI y=some b)
  (k:Q (.bool (HT.lexLt a b)) s) (n:a≠b):JZ (J1 prog w) A (ZM .Lt p q) Q E s:=by
 cases x with
 | int i=>cases y with
  | int j=>
   cases g;cases f;cases d;cases c
   have e:HT.lexLt [i] [j]=decide (i<j):=by
    rw [HT.lexLt_cons,if_neg (by intro z;exact n (by rw [z]))]
   rw [e]at k;exact HT.rcLt_int A s i _ j _ prog w E _ k
  | _=>cases l
 | tuple m=>cases y with
  | tuple h=>
   have I:cZ m=some a:=g;have H:cZ h=some b:=f
   cases d with
   | tuple u t r o=>cases c with
    | tuple G F B v=>exact HT.lt_tupInts ⟨_,u,t,_,r⟩ ⟨_,G,F,_,B⟩ (rC I o) (rC H v) (by lia) k
  | _=>cases l
 | _=>cases y <;> cases l
theorem Sc{l b:JY}{xs e:List D}{a c:List Int}{as bs:List JY}{R:Fin->YP->Prop}(Z:A.units+64<J8)(rl:UX s.heap (.ref l) (.tuple xs) as)(rb:UX s.heap (.ref b) (.tuple e) bs)(Y:fU xs e=true)(f1:fT xs=some a)(f2:fT e=some c)
  (h:R (.done (.ret (.bool (HT.lexLt a c)))) s):JZ (J1 prog w) A (Builtin.«tuple.__lt__» ⟨[.ref l,.ref b],[]⟩) R E s:=by
 cases rl with
 | @tuple _ o1 vs1 n1 _ _ h1 h2 h3 h4=>
 cases rb with
 | @tuple _ o2 vs2 n2 _ _ g1 g2 g3 g4=>
 show JZ _ _ (isInstance (.ref b) (.type "tuple") >>= _) _ _ s
 refine Qa (Ju (T:="tuple") ⟨o2,g1,g2⟩ isSubtype_tuple_tuple ?_);simp only [YN,Qq,if_false];refine Qa (wpAny_tupleItemsOf h1 h3 ?_);refine Qa (wpAny_tupleItemsOf g1 g3 ?_);refine Qa ?_
 refine YT _
  (fun rest r G=>r.1=none/\G=s/\∃(F B:List Value) (g f:List D) (M K:List Int) (p o:List JY),rest=UQ F B/\U9 s.heap F g p/\U9 s.heap B f o/\fU g f=true/\fT g=some M/\fT f=some K/\HT.lexLt M K=HT.lexLt a c/\vs1.size=vs2.size)
  _ ?_ ?_ _ _ ⟨rfl,rfl,_,_,xs,e,a,c,_,_,rfl,h4,g4,Y,f1,f2,rfl,?_⟩
 ·rintro⟨u,v⟩ rest r G ⟨O,rfl,F,B,g,f,M,K,p,o,q,X,W,J,n,m,d,i⟩
  cases X with
  | nil=>simp at q
  | @cons u0 us0 x xs0 as0 bs0 p1 p2=>
   cases W with
   | nil=>simp at q
   | @cons v0 vs0 y ys0 as1 bs1 I H=>
    simp only [YU,List.cons.injEq,Prod.mk.injEq]at q;obtain⟨⟨rfl,rfl⟩,rfl⟩:=q;obtain⟨U,k,n⟩:=aN n;obtain⟨a2,S,n⟩:=aN n;cases n;obtain⟨c1,j,m⟩:=aN m;obtain⟨c2,Q,m⟩:=aN m;cases m;obtain⟨N,l2⟩:=QD.mp J;have t:=zR N k j;rw [sK _ _ _ _ t]at d;refine Qa (EH Z p1 I N k j prog w _ _ ?_);by_cases z:U=c1
    ·rw [decide_eq_true z];rw [if_pos z]at d;simp only [YN,Qq,if_false];exact Qb ⟨rfl,rfl,_,_,_,_,_,_,_,_,rfl,p2,H,l2,S,Q,d,i⟩
    ·rw [decide_eq_false z];rw [if_neg z]at d;simp only [Bool.not_false,if_true];rw [<- d]at h;exact Qa (JW (Qa (IE Z p1 I N k j (Qa (Qb (Qb (Qb h)))) z)))
 ·rintro⟨X,W⟩ G ⟨O,rfl,F,B,g,f,M,K,p,o,q,I,H,J,n,m,d,i⟩
  simp only at O
  subst O;refine Qb ?_
  cases I with
  | nil=>
   cases H with
   | nil=>
    cases n;cases m
    show R (.done (.ret (.bool (decide (vs1.size<vs2.size))))) G
    rw [i,decide_eq_false (YV _),<- HT.lexLt_nil_nil,d];exact h
   | cons _ _=>cases J
  | cons _ _=>
   cases H with
   | nil=>cases J
   | cons _ _=>simp at q
 ·have U:=UU _ _ _ h4;have a2:=UU _ _ _ g4
  have ll:∀{xs e:List D},fU xs e=true->xs.length=e.length:=by
   intro xs
   induction xs with
   | nil=>intro e h;cases e with
    | nil=>rfl
    | cons _ _=>cases h
   | cons x xs ih=>intro e h;cases e with
    | nil=>cases h
    | cons y e=>rw [QE,QE,ih (QD.mp h).2]
  rw [<- Qt,<- Qt,U,a2,ll Y]
theorem ON{l b:JY}{xs d:List D}{a c:List Int}{q bs:List JY}{Q:Value->YP->Prop}(r:A.units+65<J8)(j:UX s.heap (.ref l) (.tuple xs) q)(k:UX s.heap (.ref b) (.tuple d) bs)(n:fU xs d=true)(p:fT xs=some a)(o:fT d=some c)
  (h:Q (.bool (HT.lexLt a c)) s):JZ (J1 prog w) A (ZM .Lt (.ref l) (.ref b)) Q E s:=by
 have i:s.TypeIs (.ref l) "tuple":=by cases j with | tuple g f _ _=>exact⟨_,g,f⟩
 have m:s.TypeIs (.ref b) "tuple":=by cases k with | tuple g f _ _=>exact⟨_,g,f⟩
 exact wpAny_richCompare_same_room (op:=.Lt) i m PySem.F.slot_tuple_lt (Q9 PySem.F.slot_tuple_lt i PySem.F.entry_tuple_lt (Sc (by first | (show A.units+64<J8;lia) | (show A.units+1+64<J8;lia)) j k n p o ⟨_,rfl,(fun e=>nomatch e),h⟩) (PySem.F.args_tuple_lt_2 _ _)) (by lia)
end
end MN
namespace MN
open PySem.Spec PySem.SeqAt L2 DL SD
section
variable {prog:J2}{w:J4}{A:Around}{R:Result->YP->Prop}{I S:JY}{fp wr:List JY}{n:Nat}{P:Nat->Value->Prop}{St:Nat->Heap->Prop}
abbrev iM(b:Heap)(h:Heap):Prop:=∀ a o,b.get? a=some o->h.get? a=some o
def two(v:Value)(c:Nat):Obj:={ cls:=.type "list",dict:=none,data:=.seq #[v,v] c,slots:=#[] }
theorem j2:(toString "min"++toString ".loop":String)="min.loop":=by decide
theorem FE(W:Walks prog w A.in1 I fp wr n P St)(base:Heap)(U:∀ a o,base.get? a=some o->a≠S/\a∉wr)(bt:Nat->Nat->Bool)
  (Y:∀ i j x y (s:YP) (Q:Value->YP->Prop) (E:Value->YP->Prop),iM base s.heap->P i x->P j y->Q (.bool (bt i j)) s->JZ (J1 prog w) A.in1 (ZM .Lt x y) Q E s) (N:S∉fp):
  ∀(m j:Nat) (s:YP) (x:Value) (c:Nat),n-(j+1)=m->j+1<=n->St (j+1) s.heap->P (Zr bt j) x->iM base s.heap->s.heap.get? S=some (two x c)->
  (∀ v h tk,P (Zr bt (n-1)) v->(∀ a o,a∉wr->a≠S->s.heap.get? a=some o->h.get? a=some o)->R (.ok (.ret v)) { s with heap:=h,toks:=tk })->ZW (J1 prog w) A (.builtin "min.loop" ⟨[.ref I,.none,.ref S],[]⟩) R s:=by
 have M:S∉wr:=fun h=>N (W.sub _ h);intro m
 induction m with
 | zero=>
  intro j s x c e1 Z G t od r fin
  have X:j+1=n:=by lia
  refine Yh PySem.F.entry_min_loop ?_;rw [Q7 PySem.F.plain_min_loop _];refine Qa (m:=Ur (.ref S)) (Yx r rfl ?_)
  show JZ _ A.in1 (Uh (ZU (.ref I)) _ >>= _) _ _ s
  refine Qa (Yy (W.done s _ _ (X ▸ G) fun h tk l=>?_));have d:=l S _ M r;refine Qa (m:=updateSeq S (fun _=>#[])) (Y3 d rfl (Qa (Jo (Qb ?_))));exact fin x _ tk (by rw [<- X];exact t) fun a o k e q=>(Yr _ _ (Zy e)).trans (l a o k q)
 | succ m T=>
  intro j s x c e1 Z G t od r fin
  have lt:j+1<n:=by lia
  refine Yh PySem.F.entry_min_loop ?_;rw [Q7 PySem.F.plain_min_loop _];refine Qa (m:=Ur (.ref S)) (Yx r rfl ?_)
  show JZ _ A.in1 (Uh (ZU (.ref I)) _ >>= _) _ _ s
  refine Qa (Yy (W.item (j+1) s _ _ lt G fun v h tk O p l=>?_));have d:=l S _ M r;have g:iM base h:=fun a o q=>l a o (U a o q).2 (od a o q)
  show JZ _ A.in1 (Uh (U5 [v,v] (ZM .Lt v x >>= _)) _ >>= _) _ _ _
  refine Qa (Yy (QV (Qa (Y (j+1) (Zr bt j) v x _ _ _ g O t ?_))));refine Qa (QV (Yv (Qa (Jo (Qb ?_)))))
  cases b:bt (j+1) (Zr bt j)with
  | true=>
   simp only [if_true];refine Qa (Y3 d rfl (Qa (Jo ?_)));rw [j2];have B:∀ a o,a≠S->h.get? a=some o->(h.update S (ZC fun _=>#[v,v])).get? a=some o:=fun a o e q=>(Yr _ _ (Zy e)).trans q;refine Qb ⟨Yq PySem.F.plain_min_loop _,T (j+1) _ v _ (by lia) lt (W.frame _ _ _ p fun a af o q=>?_) (by simp only [Zr,b,if_true];exact O) (fun a o q=>B a o (U a o q).1 (g a o q)) (QQ _ d rfl) fun u K f H J=>?_⟩
   ·exact B a o (fun z=>N (by rw [<- z];exact af)) q
   ·exact fin u K f H fun a o k e q=>J a o k e (B a o e (l a o k q))
  | false=>
   simp only [Qq,if_false];refine Qa (Jo ?_);rw [j2];refine Qb ⟨Yq PySem.F.plain_min_loop _,T (j+1) _ x c (by lia) lt p (by simp only [Zr,b,Qq,if_false];exact t) g d fun u K f H J=>?_⟩;exact fin u K f H fun a o k e q=>J a o k e (l a o k q)
end
section
variable {prog:J2}{w:J4}{A:Around}{E:Value->YP->Prop}{s:YP}
theorem Oc{l:JY}{c:Array Value}{bt:Nat->Nat->Bool}{Q:Value->YP->Prop}(S:A.handled=none)(t:s.heap.IsList l c)(H:0<c.size)
  (X:∀ i j x y (s':YP) (Q:Value->YP->Prop) (E:Value->YP->Prop),iM s.heap s'.heap->c[i]?=some x->c[j]?=some y->Q (.bool (bt i j)) s'->JZ (J1 prog w) A.in1 (ZM .Lt x y) Q E s')
  (h:∀ v h' tk,c[Zr bt (c.size-1)]?=some v->iM s.heap h'->Q v { s with heap:=h',toks:=tk }):JZ (J1 prog w) A (call (.builtin "min") [.ref l]) Q E s:=by
 obtain⟨ol,r,U,nl,T⟩:=id t;have p:l<s.heap.objs.size:=Qs r;refine PySem.call_function_tree PySem.F.kind_min PySem.F.plain_min PySem.F.entry_min (PySem.F.args_min1 _) ?_;refine Qa (m:=Zl "min" ["key","default"] 0 ⟨[],[]⟩) (Jy (show Zl "min" ["key","default"] 0 ⟨[],[]⟩=pure [none,none]from rfl) (Qa (Qb ?_)));refine Qa (Jl t ?_);refine Qa (Q0 ?_);rw [j2];have u:s.heap.objs.size≠s.heap.objs.size+1:=Qu (YC _);have od:iM s.heap ((s.heap.push { cls:=.type "list_iterator",data:=.fields #[.ref l,.int 0 0] }).push { cls:=.type "list",data:=.seq #[] }):=fun a o q=>Qc _ (Qc _ q)
 have b:∀ a o,s.heap.get? a=some o->a≠s.heap.objs.size+1/\a∉[s.heap.objs.size]:=fun a o q=>by
  have:=Qs q
  exact⟨Qu (YG this),fun z=>by rw [Qd.mp z]at this;exact YV _ this⟩
 have W:=Walks.list (prog:=prog) (w:=w) (A:=A.in1) (by simp [S]) s.heap.objs.size l (Qu p) c
 have B:s.heap.objs.size+1∉[s.heap.objs.size,l]:=fun z=>by
  rcases Qj.mp z with z | z
  ·exact u z.symm
  ·rw [Qd]at z;rw [<- z]at p;exact absurd p (Nat.not_lt.mpr (Nat.le_succ _))
 have I:(s.heap.push { cls:=.type "list_iterator",data:=.fields #[.ref l,.int 0 0] }).objs.size=s.heap.objs.size+1:=Yp ..;refine Qb ⟨Yq PySem.F.plain_min_loop _,?_⟩;rw [I];refine Yh PySem.F.entry_min_loop ?_;rw [Q7 PySem.F.plain_min_loop _]
 have f:((s.heap.push { cls:=.type "list_iterator",data:=.fields #[.ref l,.int 0 0] }).push { cls:=.type "list",data:=.seq #[] }).get? (s.heap.objs.size+1)=some { cls:=.type "list",data:=.seq #[] }:=by rw [<- I];exact Qr _ rfl
 refine Qa (m:=Ur (.ref (s.heap.objs.size+1))) (Yx f rfl ?_)
 show JZ _ A.in1 (Uh (ZU (.ref s.heap.objs.size)) _ >>= _) _ _ _
 refine Qa (Yy (W.item 0 _ _ _ H ⟨⟨_,Qc _ (Qr _ rfl),rfl,rfl⟩,(t.push _).push _⟩ fun v h1 tk M n G=>?_));have K:s.heap.objs.size+1∉[s.heap.objs.size]:=fun z=>u (Qd.mp z).symm;have e:=G _ _ K f;have d:iM s.heap h1:=fun a o q=>G a o (b a o q).2 (od a o q);refine Qa (m:=updateSeq (s.heap.objs.size+1) (fun _=>#[v,v])) (Y3 e rfl ?_);rw [j2];have g:∀ a o,a≠s.heap.objs.size+1->h1.get? a=some o->(h1.update (s.heap.objs.size+1) (ZC fun _=>#[v,v])).get? a=some o:=fun a o O q=>(Yr _ _ (Zy O)).trans q;refine Qb ⟨Yq PySem.F.plain_min_loop _,FE W s.heap b bt X B _ 0 _ v _ rfl H (W.frame _ _ _ n fun a Z o q=>g a o (fun z=>B (by rw [<- z];exact Z)) q) M (fun a o q=>g a o (b a o q).1 (d a o q)) (QQ _ e rfl) fun J Y k N R=>?_⟩;exact h J Y k N fun a o q=>R a o (b a o q).2 (b a o q).1 (g a o (b a o q).1 (d a o q))
end
end MN
namespace MN
open PySem.Spec PySem.SeqAt L2 DL SD
def fF:KD->List KD->KD
 | b,[]=>b
 | b,p::r=>fF (if HT.lexLt p.1 b.1=true then p else b) r
theorem C4:∀(l:List KD) (b p:KD),fF b (l++[p])=if HT.lexLt p.1 (fF b l).1=true then p else fF b l
 | [],_,_=>rfl
 | _::l,_,p=>C4 l _ p
def rY:List D->Option D
 | [.list (.tuple d0::ds)]=>(eZ d0 (.tuple d0::ds)).bind fun l=>match l with
  | b::r=>some (fF b r).2
  | []=>none
 | _=>none
theorem zY{b:KD}{r:List KD}{bt:Nat->Nat->Bool}(f:∀ i j,bt i j=HT.lexLt ((b::r).getD i b).1 ((b::r).getD j b).1):∀ m,m<=r.length->(b::r)[Zr bt m]?=some (fF b (r.take m))/\Zr bt m<=m
 | 0,_=>⟨rfl,Ql _⟩
 | m+1,h=>by
  obtain⟨d,le⟩:=zY f m (by lia);have a:r[m]?=some r[m]:=Qh (by lia)
  have g:r.take (m+1)=r.take m++[r[m]]:=by rw [List.take_succ,a];rfl
  have e:bt (m+1) (Zr bt m)=HT.lexLt r[m].1 (fF b (r.take m)).1:=by
   rw [f,QP,QP,d,List.getElem?_cons_succ,a];rfl
  unfold Zr;rw [g,C4,e];by_cases c:HT.lexLt r[m].1 (fF b (r.take m)).1=true
  ·rw [if_pos c,if_pos c]
   exact⟨by rw [List.getElem?_cons_succ,a],Ql _⟩
  ·rw [if_neg c,if_neg c]
   exact⟨d,Nat.le_succ_of_le le⟩
theorem AT{h:Heap}:∀{us:List Value}{ds:List D}{as:List JY}{i:Nat}{u:Value}{d:D},U9 h us ds as->us[i]?=some u->ds[i]?=some d->∃ bs,UX h u d bs
 | _,_,_,0,_,_,.cons r _,e1,e2=>by cases e1;cases e2;exact⟨_,r⟩
 | _,_,_,i+1,_,_,.cons _ t,e1,e2=>AT (i:=i) t (by simpa using e1) (by simpa using e2)
theorem GJ{K:PySem.W.Frag}{F:JY->Prop}{H:Hp}:∀{ds:List D}{vs:List V}{us:List Value}{i:Nat}{d:D}{u:Value},Reps K F H ds vs->Vals vs us->ds[i]?=some d->us[i]?=some u->∃ v,aV K F H d v/\RelV v u
 | _,_,_,0,_,_,.cons r _,.cons q _,e1,e2=>by cases e1;cases e2;exact⟨_,r,q⟩
 | _,_,_,i+1,_,_,.cons _ r,.cons _ q,e1,e2=>GJ (i:=i) r q (by simpa using e1) (by simpa using e2)
theorem GO{d0:List D}:∀{ds:List D}{l:List KD},eZ d0 ds=some l->Zd ds=true/\ds.length=l.length
 | [],_,h=>by cases h;exact⟨rfl,rfl⟩
 | d::ds,_,h=>by
  obtain⟨k,g,h⟩:=aN h;obtain⟨r,e,h⟩:=aN h;cases h;obtain⟨c,b⟩:=GO e;obtain⟨x,a,rfl,_,f⟩:=kK g
  exact⟨by rw [Zd,show ZG (.tuple (x::a))=Zd (x::a)from rfl,vT f,c];rfl,by rw [QE,QE,b]⟩
theorem Mw{X:Cx}(hc:X.calm=true)(hu:X.A.units+66<J8):dW X (.builtin "min") (gS X.K rY):=fun O s σ H xs us Q I rv zz=>by
 obtain⟨F,ds,q,z,R,f,k⟩:=zz;unfold rY at f
 split at f
 ·rename_i Z dr;obtain⟨l,Y,f⟩:=aN f
  cases l with
  | nil=>cases f
  | cons b r=>
   cases f
   cases R with
   | cons R1 R2=>
   cases R2
   cases R1 with
   | @lst a vs _ h1 r1=>
   obtain⟨u,rfl,ru⟩:=iK rv;cases ru;obtain⟨c,e,pl,_⟩:=I.list h1.sq;obtain⟨cl,ll⟩:=GO Y;obtain⟨w,t⟩:=wJ Y;obtain⟨as,rd⟩:=Reps.reads I r1 cl e
   have d:c.length=(b::r).length:=by rw [<- e.length,<- r1.length,ll]
   have G:∀ i,i<c.length->(.tuple Z::dr)[i]?=some ((b::r).getD i b).2:=fun i hi=>by
    rw [<- w,QF,QP,Qh (by lia)];rfl
   have key:∀ i,i<c.length->kC Z ((b::r).getD i b).2=some ((b::r).getD i b).1:=fun i hi=>by
    refine t _ ?_;rw [QP,Qh (by lia)];exact YB _
   refine Oc (bt:=fun i j=>HT.lexLt ((b::r).getD i b).1 ((b::r).getD j b).1) (I.ok.hd hc) pl.isList (by rw [QA,d];exact JO _) (fun i j x y s' Q' E' od hx hy hQ=>?_) fun v h' tk T od=>?_
   ·have h:c[i]?=some x:=by simpa using hx
    have g:c[j]?=some y:=by simpa using hy
    have p:=(Qf.mp h).1;have S:=(Qf.mp g).1;obtain⟨a7,o⟩:=AT rd h (G i p);obtain⟨a6,n⟩:=AT rd g (G j S);obtain⟨x1,a5,M,E,f1⟩:=kK (key i p);obtain⟨x2,a0,J,B,f2⟩:=kK (key j S);rw [M]at o;rw [J]at n;have o:=Reads.keeps od o;have n:=Reads.keeps od n
    cases o with
    | tuple a1 a2 a3 a4=>
    cases n with
    | tuple b1 b2 b3 b4=>
    exact ON (by show X.A.units+1+65<J8;lia) (.tuple a1 a2 a3 a4) (.tuple b1 b2 b3 b4) (sN E B) f1 f2 hQ
   ·have hn:c.toArray.size-1=r.length:=by rw [QA,d];rfl
    rw [hn]at T;obtain⟨W,g2⟩:=zY (b:=b) (r:=r) (bt:=fun i j=>HT.lexLt ((b::r).getD i b).1 ((b::r).getD j b).1) (fun _ _=>rfl) r.length (Ql _);rw [List.take_length]at W
    have m:c[Zr (fun i j=>HT.lexLt ((b::r).getD i b).1 ((b::r).getD j b).1) r.length]?=some v:=by simpa using T
    have p:=(Qf.mp m).1;have U:=G _ p;rw [QP,W]at U;obtain⟨N,w1,w2⟩:=GJ r1 e U m
    exact⟨N,H,I.kept od,w2,k F H N (aM.refl F H) w1⟩
 ·cases f
end MN
namespace LM
open PySem.Spec L2 CL DL DC SD MN
def pO(g:D->Option D):List D->Option (List KD)
 | []=>some []
 | d::r=>(g d).bind fun k=>(bW k).bind fun a=>(pO g r).bind fun l=>some ((a,d)::l)
theorem Gg{g:D->Option D}:∀{ds:List D}{l:List KD},pO g ds=some l->l.map (·.2)=ds/\∀ p∈l,∃ k,g p.2=some k/\bW k=some p.1
 | [],_,h=>by cases h;exact⟨rfl,fun p a=>nomatch a⟩
 | d::r,_,h=>by
  obtain⟨k,i,h⟩:=aN h;obtain⟨j,f,h⟩:=aN h;obtain⟨l,e,h⟩:=aN h;cases h;obtain⟨c,b⟩:=Gg e
  refine⟨by rw [Qp,c],fun p a=>?_⟩
  rcases Qj.mp a with rfl | a
  ·exact⟨k,i,f⟩
  ·exact b p a
theorem Ak{d:D}{is:List Int}(h:bW d=some is):d=iR is:=by
 unfold bW at h
 split at h
 ·rename_i a
  have:∀{a:List D}{is:List Int},cZ a=some is->a=is.map J3:=by
   intro a
   induction a with
   | nil=>intro is h;cases h;rfl
   | cons d a b=>
    intro is h
    cases d with
    | int i=>
     obtain⟨c,e,h⟩:=aN h;cases h;rw [Qp,b e]
    | _=>cases h
  rw [this h];rfl
 ·cases h
def vP(inner:List (Option Nat))(ga gb:aA->Option D):aA->Option D:=fun a=>(ga a).bind fun x=>match x with
 | .list c=>(pO (fun d=>gb (.dat d::iX inner a)) c).bind fun l=>match l with
  | b::r=>some (fF b r).2
  | []=>none
 | _=>none
theorem bL.cons{K:PySem.W.Frag}{F:JY->Prop}{H H₀:Hp}{σ:L2.St}{ρ:aA}{d:D}{v:V}(S:bL K F H H₀ σ ρ)(r:aV K F H d v):bL K F H H₀ (some v::σ) (.dat d::ρ):=
 ⟨by simp [S.len],fun i s h=>by
  cases i with
  | zero=>cases h;exact⟨_,rfl,v,rfl,r⟩
  | succ i=>exact S.sl i s h,fun i j a g f b e c k=>by
  cases i with
  | zero=>cases g <;> cases e
  | succ i=>cases j with
   | zero=>cases f <;> cases c
   | succ j=>exact S.sep i j a g f (fun z=>b (by rw [z])) e c k,S.fz⟩
section
variable {X:Cx}{e body:Expr}{params:Arguments}{scope:ZK}{lpos kp p pos:Pos}{N':List Str}{inner:List (Option Nat)}{x0 qual:Str}{c P:JY}{ga gb:aA->Option D}
theorem N3(hc:X.calm=true)(hr:dC 2 X.A)(LS:vZ X N' scope inner x0)(hT:jO P (kB lpos qual) X.H₀)(C:PySem.W.CodeHd X.base c P)(B:Bm X.mg X.base)(n:X.env.code=.ref c)(hq:X.env.qual++"<lambda>"=qual)(M:defaultsOf params X.env=([],[]))
  (o:∀ cl pm c' ctv u,Z8 (PySem.W.kla_fn "<lambda>" qual params body scope cl pm (.ref c') ctv) ⟨[u],[]⟩=pure [(x0,u)]) (hg:Gl X "min") (hm:X.mg "min"=none) (ha:DE X e ga)
  (N:∀ cl f c' s H,dC 0 (X.A.in1.deeper (PySem.W.envX qual scope s.heap.objs.size f (.ref c') cl))->DE (Bo X X.A.in1 N' qual scope cl f c' s H) body gb)
  (a2:J0 [e] X.env=(false,Zs e X.env)::J0 [] X.env:=by rfl)
  (he:Zo pos (J0 [e] X.env)=(false,Zs e X.env)::Zo pos (J0 [] X.env):=by rfl)
  (h:(Zo pos (J0 [e] X.env)).any (·.1)=false:=by rfl)
  (O:(Ut pos (ZN [⟨some "key",.Lambda params body scope lpos,kp⟩] X.env)).all (·.1.isSome)=true:=by rfl)
  (a5:(Ut pos (ZN [⟨some "key",.Lambda params body scope lpos,kp⟩] X.env)).any (·.1.isNone)=false:=by rfl)
  (a6:(Ut pos (ZN [⟨some "key",.Lambda params body scope lpos,kp⟩] X.env)).filterMap (·.1)=([("key":Str)]:List Str):=by rfl):
  DE X (.Call (.Name "min" p) [e] [⟨some "key",.Lambda params body scope lpos,kp⟩] pos) (vP inner ga gb):=by
 intro pins s σ H Q I ⟨F,H₀,ρ,d,S,q,kk⟩;obtain⟨x,e1,q⟩:=aN q
 split at q
 rotate_left
 ·cases q
 rename_i R;obtain⟨l,e2,q⟩:=aN q
 cases l with
 | nil=>cases q
 | cons b r=>
 cases q;obtain⟨k,a0⟩:=Gg e2;obtain⟨cl,a7,c1,c2,c3⟩:=Cs (env:=X.env) (scope:=scope) fun x hx hk=>I.ok.has x.1 (LS.free x hx hk).2;refine Jc (kW I hg hm boot_min ?_ (by decide) (by decide));refine callWith_kw (bH (Dk ha aL a2 pos pins s σ H (fun vs Y=>∃ i,aM F i H Y/\Reps X.K i Y [.list R] vs) I ⟨F,H₀,ρ,[.list R],S,by unfold aB;rw [e1];rfl,fun i Y vs E1 U=>⟨i,E1,U⟩⟩) fun us s1 ⟨b1,Y,I1,r1,i,E1,U⟩=>?_) he h O a5
 cases U with
 | cons U R0=>
 cases R0
 cases U with
 | @lst a vs _ hl rl=>
 obtain⟨u,rfl,ru⟩:=iK r1;cases ru;refine kws_cons (Oy I1 M a7 n C B hq (hT.inv I1) fun f c' pm ctv H2 s2 a3 I2 a8 hf hn fo=>kws_nil ?_);rw [a6]
 have E12:aM i i Y H2:=by
  rcases a3 with rfl | ⟨h1,rfl⟩
  ·exact aM.refl _ _
  ·exact aM.fresh h1
 have b0:=I2.pinned (fp:=[f]) (fun b N=>by rw [Qd.mp N];exact I1.fpOk hf hn) (fun b N=>by rw [Qd.mp N];exact⟨_,fo,fun v z=>by cases z⟩);have t:=rl.stay (E12.stay (K:=X.K));have J:R.length=vs.length:=rl.length
 have G:(b::r).length=vs.length:=by rw [<- J,<- k,Qo]
 have S2:=(S.ext E1).ext E12
 have T:∀ j v,vs[j]?=some v->R[j]?=some ((b::r).getD j b).2/\(b::r).getD j b∈(b::r):=fun j v m=>by
  have hj:=(Qf.mp m).1
  have:(b::r)[j]?=some ((b::r).getD j b):=by rw [QP,Qh (by lia)];rfl
  exact⟨by rw [<- k,QF,this];rfl,QM this⟩
 refine Od (kd:=fun j=>((b::r).getD j b).1) (F:=i) (H:=H2) (vs:=vs) (pins:=pins++pX [f] s2.heap) (σ:=σ) (I.ok.hd hc) (by have:=hr.un;lia) (fun j pp s' Hj Fj v u E sub Ij Ej m ru=>?_) b0 (Aw E12.same hl.sq) (by rw [<- G];exact JO _) (fun x s' Fk Hk hx Ik Ek=>?_)
 ·obtain⟨dj,hm⟩:=T j v m;obtain⟨kj,Z,g2⟩:=a0 _ hm;obtain⟨v',g,Rj⟩:=(t.stay (Ej.stay (K:=X.K))).get dj;rw [m]at g;cases g;have St:=bL.cons ((S2.ext Ej).inner inner) Rj;have a9:=(Ij.pin (f,_) (Qk _ (sub _ (Qk _ (kZ (by simp) fo))))).1;have rm:dC 1 X.A.in1:=hr.in1;refine wpAny_call (JA (Ox LS Ij (show X.A.in1.frames=some X.stack from I.ok.frames) rm.hd rm.depth c1 c2 c3 a9 (Ej.same _ _ a8) (o _ _ _ _ _) ru (N _ _ _ _ _ (rm.deeper _)) ⟨Fj,H₀,.dat _::iX inner ρ,kj,St,Z,fun F' H' w E' R'=>(⟨F',E',R'⟩:∃ F',aM Fj F' Hj H'/\aV X.K F' H' kj w)⟩) fun rr b2 hz=>?_);obtain⟨y,w,Hk,rfl,a1,Ik,Fk,Ek,Rk⟩:=hz
  exact⟨Fk,Hk,w,Ik,Ek,a1,by rw [<- Ak g2];exact Rk⟩
 ·obtain⟨v,m,rv⟩:=hx;obtain⟨Z,_⟩:=zY (b:=b) (r:=r) (bt:=i8 fun j=>((b::r).getD j b).1) (fun _ _=>rfl) r.length (Ql _);rw [List.take_length]at Z
  have a4:vs.length-1=r.length:=by rw [<- G];rfl
  rw [a4]at m
  have gd:R[Zr (i8 fun j=>((b::r).getD j b).1) r.length]?=some (fF b r).2:=by rw [<- k,QF,Z];rfl
  obtain⟨v',g,Rv⟩:=(t.stay (Ek.stay (K:=X.K))).get gd;rw [m]at g;cases g
  exact⟨v,Hk,Ik.unpinned,rv,kk Fk Hk v (E1.trans (E12.trans Ek)) Rv⟩
end
end LM
namespace LM
open PySem.Spec L2 CL DL DC
def kT(K:PySem.W.Frag)(n:Nat)(G:List D->Option D)(P:JY)(tp:Array Value):Sp:=fun a H Q E=>jO P tp H/\aW K n G a H Q E
theorem zS{P:J2}{w:J4}{K:PySem.W.Frag}{mg:Str->Option Value}{base:Heap}{x a:Str}{b:Zj}{f TP:JY}{tp:Array Value}{l:Zu}{N c:List Str}{k n m:Nat}{g:aA->Option aP}{G:List D->Option D}(Z:G=bU m g)(T:c.length=n)(U:N.length=m)(F:mK K x a b f l)(S:bX N c (bB b))
  (X:∀(cdv:Value) (A:Around) (outer:List Env) (s:YP) (H:Hp) (E:XK),cdv=l.code->jO TP tp H->dC k (A.deeper (UZ a (bB b) s.heap.objs.size f cdv))->
   iL (kQ aR P w K mg base N a (bB b) f cdv A outer s H E).nox (fM b) g):aQ P w K mg base aR (k+1) f l c (kT K n G TP tp):=by
 subst T U Z;obtain⟨oc,od,kV,a0,pm,an,cdv,ct,M,rfl,O,i⟩:=F.ex;refine E9 O i S (fun J H Q E h=>?_) fun A outer s H J Q E R h=>?_
 ·obtain⟨_,F,ds,d,y,_,r,_⟩:=h;rw [<- r.length,y]
 ·obtain⟨Y,F,ds,d,y,z,r,q,u⟩:=h;have j:=X cdv A outer s H E rfl Y R
  refine⟨_,fX.nox j,?_⟩
  unfold bU at q
  split at q
  ·rename_i d' e;cases q
   exact⟨F,H,F,_,_,aM.refl F H,wY z r,e,fun p o v t R'=>u p o v t R'⟩
  ·rename_i I e;cases q
   exact⟨F,H,F,_,_,aM.refl F H,wY z r,e,fun p o B t T' S'=>u p o .non t .non⟩
  ·cases q
section
variable {X:Cx}{e:Expr}{es:List Expr}{p pos:Pos}{gr:aA->Option (List D)}
theorem jO.ext{P:JY}{tp:Array Value}{F a:JY->Prop}{H H':Hp}(T:jO P tp H)(E:aM F a H H'):jO P tp H':=let⟨m,e⟩:=T;⟨m,E.same _ _ e⟩
theorem r0{k n:Nat}{f TP:JY}{tp:Array Value}{i:Zu}{h:List Str}{x:Str}{G:List D->Option D}(F:aQ X.prog X.w X.K X.mg X.base aR k f i h (kT X.K n G TP tp))(B:jO TP tp X.H₀)(r:dC k X.A)(v:Gl X x)(t:X.mg x=some (.ref f))(u:PySem.W.keepIn X.K (.ref f)=true)(y:Binds X.K i h [])
  (z:DA X (e::es) gr) (c:∀ ρ ds,gr ρ=some ds->ds.length=n) (g:(x == ("__debug__":Str))=false:=by decide) (he:J0 (e::es) X.env=(false,Zs e X.env)::J0 es X.env:=by rfl) (hpl:(Zo pos (J0 es X.env)).any (·.1)=false:=by rfl):
  DE X (.Call (.Name x p) (e::es) [] pos) (aJ G gr):=fun a s l H Q I ⟨O,H₀,ρ,d,S,q,o⟩=>
 Ha (E:=E0) F r v t u y .nil G7 z g he hpl a s l H Q I (by
  obtain⟨b,j,q⟩:=aN q
  exact⟨O,H₀,ρ,b,S,j,fun T N m E1 J=>by
   show kT X.K n G TP tp (m++[]) N Q E0
   rw [Yg]
   exact⟨(B.inv I).ext E1,T,b,d,c ρ b j,(S.ext E1).fz,J,q,fun R M w U R2=>o R M w (E1.trans U) R2⟩⟩)
end
def tE(K:PySem.W.Frag)(G:List D->Option D)(P:JY)(tp:Array Value):Sp:=fun b H Q E=>∃(a:JY) (ns:List Int),b=[.ref a]/\cJ K H a (ns.map V.int)/\ns.length<=63/\H P=some (.tbl tp)/\∀ H',H' P=some (.tbl tp)->Q (.bl true) H'
theorem OB{P:J2}{w:J4}{K:PySem.W.Frag}{mg:Str->Option Value}{base:Heap}{j:jL}{k:Nat}{f TP:JY}{tp:Array Value}{i:Zu}{d:List Str}{G:List D->Option D}(F:aQ P w K mg base j k f i d (kT K 1 G TP tp))
  (h:∀ ns:List Int,ns.length<=63->G [.list (ns.map J3)]=some (.bool true)):aQ P w K mg base j k f i d (tE K G TP tp):=
 F.imp fun r H Q E l=>by
  obtain⟨a,ns,e,c,m,g,q⟩:=l;subst e
  refine⟨⟨#[],by rw [g];simp⟩,fun b=>H b≠none,[.list (ns.map J3)],.bool true,rfl,fun _ z=>z,.cons ?_ .nil,h ns m,fun s p v E' n=>?_⟩
  ·rcases c with c | c
   ·refine .lst (.inl ⟨?_,c⟩) (pN ns)
    rcases c with c | ⟨o,c⟩ <;> (rw [c];simp)
   ·exact .lst (.inr (.inr c)) (pN ns)
  ·cases n;exact q p (E'.same _ _ g)
theorem OC{P:J2}{w:J4}{K:PySem.W.Frag}{mg Y:Str->Option Value}{k:Nat}{fa a TP tc:JY}{tp:Array Value}{fd:Zu}{x:Str}{G:List D->Option D}{s₁:YP}{vs:List Value}{ns:List Int}
  (KX:K.In s₁.heap) (N:s₁.heap.Ns Za mg) (c:s₁.heap.Ns builtinsNs Y) (a0:∀ x:Str,x≠"__name__"->Y x=Zk x) (O:s₁.heap.NoLimit) (hg:s₁.gens=#[]) (a3:Bm mg s₁.heap)
  (E:s₁.heap.get? a=some { cls:=.type "list",data:=.seq vs.toArray }) (hi:ZH vs ns) (Z:ns.length<=63) (hr:dC k callerA) (T:s₁.heap.get? TP=some (PySem.W.tabObj #[])) (a2:K.lookup TP=none) (hC:PySem.W.CodeHd s₁.heap tc TP)
  (F:∀ base:Heap,K.In base->base.Ns Za mg->Bm mg base->aQ P w K mg base aR k fa fd [x] (tE K G TP tp)) (B:∀(s:YP) (u:Value),BindsTo s fd ⟨[u],[]⟩ [(x,u)]):
  ZW (J1 P w) callerA (.call (.ref fa) ⟨[.ref a],[]⟩) (fun r s'=>r=.ok (.ret (.bool true))/\OldK s₁.heap s'.heap/\s'.os=s₁.os/\U4 s'.gens) s₁:=by
 have rv:=HL hi;have J:=hi.length
 have I:a≠TP:=fun z=>by rw [z,T]at E;cases E
 have A:∀ H:Hp,cJ K H a (ns.map V.int)->dV P w H s₁.heap->H TP=some (.tbl tp)->(∀ b u,b≠TP->H b=some u->b=a/\∃ o j,u=.frz o (.lst j))->(H a≠none->K.lookup a=none)->
   ZW (J1 P w) callerA (.call (.ref fa) ⟨[.ref a],[]⟩) (fun r s'=>r=.ok (.ret (.bool true))/\OldK s₁.heap s'.heap/\s'.os=s₁.os/\U4 s'.gens) s₁:=by
  intro H hS M a1 hA hK;have o0:∀{b:JY}{o:Obj},s₁.heap.get? b=some o->H b=none->(j9 s₁.heap H).get? b=some o:=fun e n=>Nk e n
  have f:∀{b:JY}{o:Obj},s₁.heap.get? b=some o->(∀ j n,o.data≠.seq j n)->(∀ j,o.data≠.fields j)->H b=none:=fun{b o} e d1 d2=>by
   cases q:H b with
   | none=>rfl
   | some u=>
    by_cases c:b=TP
    ·subst c;rw [T]at e;cases e;exact absurd rfl (d2 _)
    ·obtain⟨rfl,_⟩:=hA b u c q;rw [E]at e;cases e;exact absurd rfl (d1 _ _)
  have p:∀{b:JY}{m:Str->Option Value},s₁.heap.Ns b m->(j9 s₁.heap H).Ns b m:=fun{b m} ⟨o,es,ep,e,d,r⟩=>⟨o,es,ep,o0 e (f e (fun j n z=>by rw [d]at z;cases z) fun j z=>by rw [d]at z;cases z),d,r⟩
  have R:K.In (j9 s₁.heap H):=fun b o e=>o0 (KX b o e) (by
   cases q:H b with
   | none=>rfl
   | some u=>
    by_cases c:b=TP
    ·subst c;rw [a2]at e;cases e
    ·obtain⟨rfl,_⟩:=hA b u c q
     rw [hK (by rw [q];simp)]at e;cases e)
  have hM:Mod K mg (j9 s₁.heap H):=⟨R,p N,⟨Y,p c,a0⟩,let⟨mc,h1,h2⟩:=O;⟨mc,p h1,h2⟩⟩
  have a4:Bm mg (j9 s₁.heap H):=by
   obtain⟨bm,ob,b1,b2,b3,b4,b5,b6,b7⟩:=a3
   exact⟨bm,ob,b1,b2,b3,o0 b4 (f b4 (fun j n z=>by rw [b7]at z;cases z) fun j z=>by rw [b7]at z;cases z),b5,b6,b7⟩
  have e0:tJ P w K mg (j9 s₁.heap H) callerA [] s₁ H:=⟨rfl,hM,fun b o e=>Rr e,Nat.le_of_eq (OP _ _),trivial,fun b c=>absurd (show b∈([]:List JY)from c) (by simp),M,.of_eq hg⟩;refine JA ((F _ R (p N) a4).run callerA [] s₁ H ⟨[.ref a],[]⟩ [.ref a] [.ref a] (fun v U=>v=.bl true/\U TP=some (.tbl tp)) (fun _ _ _=>False) hr e0 (B s₁ (.ref a)) (.cons rfl .nil) ⟨a,ns,rfl,hS,Z,a1,fun U z=>⟨rfl,z⟩⟩) fun r s' h=>?_
  cases r with
  | error e=>exact ZF h
  | ok fl=>
   cases fl with
   | next=>exact ZF h
   | brk=>exact ZF h
   | cont=>exact ZF h
   | ret u=>
    obtain⟨v,U,os,S,un,y,r',q,q2⟩:=h;subst q
    obtain rfl:u=Value.bool true:=r'
    obtain⟨qs,eP,_⟩:=(show oZ U s'.heap TP tp from y TP _ q2)
    refine⟨rfl,⟨fun b o e=>?_,fun b o e=>un.there b o e (by simp)⟩,os,S⟩
    cases q:H b with
    | none=>exact .inl (un.keep b o e q (by intro z;exact absurd (show b∈([]:List JY)from z) (by simp)) (by simp))
    | some u=>
     by_cases Q:b=TP
     ·subst Q;rw [T]at e;cases e;obtain⟨oc,X,_,_,_,_,_,_,_,g1,g2,g3,g4,_⟩:=hC;exact .inr (.inl ⟨⟨tc,oc,X,g1,g2,g3,g4⟩,rfl,#[],qs,rfl,by rw [eP];simp⟩)
     ·obtain⟨rfl,o',j,rfl⟩:=hA b u Q q;have l:=un.frzs b o' _ q;obtain⟨e1,_⟩:=M b _ q;obtain⟨e2,_⟩:=y b _ l;rw [e]at e1;cases e1;exact .inl e2
 have t:∀ H:Hp,oZ H s₁.heap TP tp:=fun H=>⟨#[],T,trivial,fun a6 a5 _ _ _=>.inl rfl⟩
 cases hk:K.lookup a with
 | some o=>
  have e:=KX a o hk;rw [E]at e;cases e;refine A (fun b=>if b=TP then some (.tbl tp)else none) (.inr ⟨_,vs.toArray,_,hk,rfl,rfl,rfl,by rw [QA,J];exact Qz Z (by decide),by simpa using rv⟩) (fun b u z=>?_) (if_pos rfl) (fun b u c z=>?_) fun z=>absurd (if_neg I) z
  ·by_cases c:b=TP
   ·have i:=(if_pos c).symm.trans z;cases i;subst c;exact t _
   ·have i:=(if_neg c).symm.trans z;cases i
  ·have i:=(if_neg c).symm.trans z;cases i
 | none=>
  refine A (fun b=>if b=TP then some (.tbl tp)else if b=a then some (.frz { cls:=.type "list",data:=.seq vs.toArray } (.lst (ns.map V.int)))else none) (.inl (.inr ⟨{ cls:=.type "list",data:=.seq vs.toArray },(if_neg I).trans (if_pos rfl)⟩)) (fun b u z=>?_) (if_pos rfl) (fun b u c z=>?_) fun _=>hk
  ·by_cases c:b=TP
   ·have i:=(if_pos c).symm.trans z;cases i;subst c;exact t _
   ·have i:=(if_neg c).symm.trans z;by_cases g:b=a
    ·have l:=(if_pos g).symm.trans i;cases l;subst g
     exact⟨E,by rw [Qo];exact Qz Z (by decide),vs,_,rv,E⟩
    ·have l:=(if_neg g).symm.trans i;cases l
  ·have i:=(if_neg c).symm.trans z;by_cases g:b=a
   ·have l:=(if_pos g).symm.trans i;cases l
    exact⟨g,_,_,rfl⟩
   ·have l:=(if_neg g).symm.trans i;cases l
theorem Tt{l:PySem.W.OpenLaw}{k:Nat}{q:J2}{c:List Str}{XP:(Str->Option Value)->Heap->Prop}{I:J4->Heap->Prop}{d:DefRec}{K:Params->PySem.W.Frag}{G:List D->Option D}{x:Str}{TP:JY}{tp:Array Value}
  (N:l.most=some 63) (r:d.params.defaults=[]) (M:dC k callerA)
  (S:∀(w:J4) (h:Heap),I w h->(K w.params).In h/\h.get? TP=some (PySem.W.tabObj #[]))
  (F:∀(w:J4) (mg:Str->Option Value) (fa:JY) (h:Heap),(K w.params).In h->h.Ns Za mg->mg d.name=some (.ref fa)->
   (K w.params).lookup TP=none/\(∃ tc,PySem.W.codeHdIn (K w.params) tc TP=true)/\∃ fd:Zu,(∀(s:YP) (u:Value),BindsTo s fd ⟨[u],[]⟩ [(x,u)]) /\
    ∀ base:Heap,(K w.params).In base->base.Ns Za mg->Bm mg base->aQ l.prog w (K w.params) mg base aR k fa fd [x] (tE (K w.params) G TP tp)):
  PySem.W.WalkO q c XP I l.row.toRowW d [] (fun f vs=>PySem.call f vs):=by
 refine Att.attach_call N r fun w E j mg mb fa o pm cd a0 a vs ns G' Y ho H Q p m i n O=>?_;obtain⟨B,U⟩:=S w _ Y;obtain⟨t,⟨tc,Z⟩,fd,R,X⟩:=F w mg fa _ B G'.T.g p
 have v:Bm mg j.heap:=by
  obtain⟨bm,J,b1,b2,A,b4,b5,y⟩:=G'.T.bmain
  refine⟨bm,J,b1,b2,fun z=>?_,A,b4,b5,y⟩
  obtain⟨o,es,ep,e,H,_⟩:=G'.T.g;rw [z,e]at A;cases A;rw [H]at y;cases y
 exact OC B G'.T.g G'.T.b G'.T.builtins G'.T.nolimit O v m i n M U t (PySem.W.codeHd_of_K B Z) X R
end LM
namespace DC
open PySem.Spec L2 DL ST SL EL TB TX
def rZ:D->D->Option D
 | d,.none=>some (.bool (!tY d))
 | _,_=>none
section
variable {X:Cx}{e k v a b:Expr}{es:List Expr}{gr:aA->Option (List D)}{ga gb ge gk gv:aA->Option D}{p pos:Pos}
theorem PL:bO X (J9 .IsNot) (cU X.K rZ):=pV PD fun x y H Q b=>by
 obtain⟨F,d,e,q,z,c,R2,a,k⟩:=b;unfold rZ at a
 split at a
 ·cases a;cases R2
  refine⟨rfl,?_⟩
  have e:decide (x=.non)=tY d:=by cases c <;> rfl
  rw [e];exact k F H _ (aM.refl F H) (.bl _)
 ·cases a
def Ah(ds:List D):Option D:=(cZ ds).bind fun a=>if a.length=2 then some (.int (if a.getD 1 0<a.getD 0 0 then a.getD 1 0 else a.getD 0 0))else none
def Ag(ds:List D):Option D:=(cZ ds).bind fun a=>if a.length=2 then some (.int (if a.getD 1 0 > a.getD 0 0 then a.getD 1 0 else a.getD 0 0))else none
theorem HI{a:List Int}(h:a.length=2):∃ i j,a=[i,j]:=by
 rcases a with _ | ⟨i,_ | ⟨j,_ | ⟨k,r⟩⟩⟩
 ·cases h
 ·cases h
 ·exact⟨i,j,rfl⟩
 ·cases h
theorem Mv(e:X.calm=true):dW X (.builtin "min") (gS X.K Ah):=n3 (MZ e) fun g H Q b=>by
 obtain⟨F,h,q,z,R,a,k⟩:=b;obtain⟨d,f,a⟩:=aN a;by_cases c:d.length=2
 ·rw [if_pos c]at a;cases a;obtain⟨i,j,rfl⟩:=HI c
  have:=m8 R f
  subst this
  exact⟨_,_,rfl,k F H _ (aM.refl F H) (.int _)⟩
 ·rw [if_neg c]at a;cases a
theorem Mu(e:X.calm=true):dW X (.builtin "max") (gS X.K Ag):=n3 (MY e) fun g H Q b=>by
 obtain⟨F,h,q,z,R,a,k⟩:=b;obtain⟨d,f,a⟩:=aN a;by_cases c:d.length=2
 ·rw [if_pos c]at a;cases a;obtain⟨i,j,rfl⟩:=HI c
  have:=m8 R f
  subst this
  exact⟨_,_,rfl,k F H _ (aM.refl F H) (.int _)⟩
 ·rw [if_neg c]at a;cases a
def nL(i:Nat)(g:aA->Option D):aA->Option aP:=fun a=>(g (a.map frz)).bind fun d=>if kR d=true then some (.nx (a.set i (.dat d)))else none
theorem C1{i:Nat}{x:Str}{a:Pos}(p:X.N.Nodup)(n:DE X e ga)(l:X.N[i]?=some x:=by rfl)(j:i6 X.env.scope x:=by first | exact ZD rfl | exact Zp rfl)(hs:ZB e (some (.Name x a)) pos.line X.env=pure false:=by rfl)(m:X.fn x=true ∨ X.env.scope.names.lookup x=some .local:=by first | exact .inl rfl | exact .inr rfl | assumption):
  DS X (.Assign [.Name x a] e pos) (nL i ga):=ps_mono (k6 p l j n hs m) fun W u H h=>by
 obtain⟨f,b,F,g,o,E,S,q,k⟩:=h;obtain⟨d,r,q⟩:=aN q;by_cases c:kR d=true
 ·rw [if_pos c]at q;cases q
  refine⟨_,b,g.map frz,d,S.frz,r,fun w t v E' s=>?_⟩
  have E2:=E'.lend S;exact k _ t _ (E.trans E2) E2.stay ((S.ext E2).put (u6 s c))
 ·rw [if_neg c]at q;cases q
def wN(i:Nat)(gk gv:aA->Option D):aA->Option aP:=fun a=>(gk a).bind fun c=>(gv a).bind fun d=>(bW c).bind fun b=>some (.nx (a.set i (.ownD [(iR b,d)])))
theorem Ph(hu:X.A.units+65<J8)(Z:DE X k gk)(Y:DE X v gv):PE X (.Dict [some k] [v] pos) (fun σ H Q=>∃ F H₀ ρ kd ks d,bL X.K F H H₀ σ ρ/\gk ρ=some kd/\bW kd=some ks/\gv ρ=some d/\∀ F' H' p b w ep ep0,H p=none->aM F F' (aZ H p (bZ p [] ep0)) H'->bR X.K H' b (ks.map V.int)->aV X.K F' H' d w->Q (.ref p) (aZ H' p (bZ p [(.inl ks,b,w)] ep))):=fun a s σ H Q I l=>by
 obtain⟨F,H₀,ρ,kd,ks,d,S,e1,e2,e3,U⟩:=l;refine wpAny_Dict_any rfl rfl (by simp) (by simp) ?_;have J:H s.heap.objs.size=none:=I.hok.fresh (Ql _);have T:(s.heap.objs.size == Zg)=false:=beq_eq_false_iff_ne.mpr (Zy (Qu (u9 I)));have dd:(s.heap.push { cls:=.type "dict",data:=.dict #[] }).DictOfH (dM X.prog X.w) s.heap.objs.size []:=⟨_,_,_,Qr _ rfl,⟨rfl,rfl,rfl⟩,rfl,rfl,fun x W=>(nomatch W),.nil⟩;obtain⟨ep,oo⟩:=n6 (H:=H) T dd .nil;have I0:Inv X a σ (aZ H s.heap.objs.size (bZ s.heap.objs.size [] ep)) { s with heap:=s.heap.push { cls:=.type "dict",data:=.dict #[] } }:=I.laid (t':=s.toks) (fun b o q=>Qc _ q) (Ql _) oo;have E0:aM F F H (aZ H s.heap.objs.size (bZ s.heap.objs.size [] ep)):=aM.fresh J;generalize s.heap.objs.size=f at *;have S0:=S.ext E0;refine pairTrees_cons_walk (bH (Z a _ σ _ (fun x i=>∃ h,aM F h (aZ H f (bZ f [] ep)) i/\aV X.K h i kd x) I0 ⟨F,H₀,ρ,kd,S0,e1,fun h i v E1 E=>⟨h,E1,E⟩⟩) fun u1 N l=>?_);obtain⟨x1,i,I1,R,h,E1,E⟩:=l;have S1:=S0.ext E1;obtain⟨b,rfl,hb⟩:=iH E e2;cases R;refine bH (Y a N σ i (fun x g=>∃ j,aM h j i g/\aV X.K j g d x) I1 ⟨h,H₀,ρ,d,S1,e3,fun j g v E2 R2=>⟨j,E2,R2⟩⟩) fun u2 t l=>?_;obtain⟨G,g,I2,O,j,E2,R2⟩:=l;refine pairTrees_nil_walk ?_;have M:g f=some (bZ f [] ep):=E2.same _ _ (E1.same _ _ dY);obtain⟨y,xs,d2,er⟩:=lF I2 M (fun e he=>(nomatch he)) .nil;cases er;have m:=eJ.sqT E2.same hb;unfold storeAll;rw [List.forIn_cons];refine Qa (Qa (wpAny_dictSet_heap (knd:=dM X.prog X.w) (k:=ks) (show X.A.units<J8 from by lia) (hJ I2 m) d2 (fun h' r B=>Qb ?_) (QU _)));obtain⟨n,u⟩:=n6 (H:=g) y r (vR O .nil);have I4:Inv X a σ (aZ g f (bZ f (jE [] ks b G) n)) { t with heap:=h',toks:=t.toks+(dM X.prog X.w).draws ks }:=I2.write (x:=f) (e:=f) (t':=t.toks+(dM X.prog X.w).draws ks) (by rw [M];exact Z4) (.inl rfl) (fun c ob hc z=>(B.2 c hc).trans z) (let⟨o2,_,_,hq,_⟩:=r;⟨o2,hq⟩) u
 show JZ _ _ (forIn [] PUnit.unit _) _ _ _
 rw [List.forIn_nil];exact Qb ⟨.ref f,_,I4,rfl,U j g f b G n ep J (E1.trans E2) m R2⟩
theorem C0{i:Nat}{x:Str}{I t:Pos}(hN:X.N.Nodup)(hu:X.A.units+65<J8)(hk:DE X k gk)(hv:DE X v gv)(hi:X.N[i]?=some x:=by rfl)(hx:i6 X.env.scope x:=by first | exact ZD rfl | exact Zp rfl)
  (hs:ZB (.Dict [some k] [v] t) (some (.Name x I)) pos.line X.env=pure false:=by rfl) (hf:X.fn x=true ∨ X.env.scope.names.lookup x=some .local:=by first | exact .inl rfl | exact .inr rfl | assumption):
  DS X (.Assign [.Name x I] (.Dict [some k] [v] t) pos) (wN i gk gv):=ps_mono (k6 hN hi hx (Ph hu hk hv) hs hf) fun W σ H zz=>by
 obtain⟨a2,B,F,ρ,o,E,S,q,kk⟩:=zz;obtain⟨kd,e1,q⟩:=aN q;obtain⟨d,e3,q⟩:=aN q;obtain⟨O,e2,q⟩:=aN q;cases q
 refine⟨F,B,ρ,kd,O,d,S,e1,e2,e3,fun Y Z p b w G a0 hp E' hb R=>?_⟩
 have E0:aM F F H (aZ H p (bZ p [] a0)):=aM.fresh hp;have S':=(S.ext E0).ext E';have h0:B p=none:=E.same.free hp;have hH:Z p=some (bZ p [] a0):=E'.same _ _ dY
 have nf:¬ Y p:=fun f=>by
  rcases E'.new p f with f | ⟨f,_⟩
  ·exact S.fz p f hp
  ·rw [dY]at f;cases f
 have T:cK X.K Y Y Z (aZ Z p (bZ p [(.inl O,b,w)] G)):=⟨fun _ h=>h,fun a xs h=>by
   rcases h with(h | ⟨o,h⟩) | h
   ·exact .inl (.inl (by rw [bI (by intro z;subst z;rw [hH]at h;cases h)];exact h))
   ·exact .inl (.inr ⟨o,by rw [bI (by intro z;subst z;rw [hH]at h;cases h)];exact h⟩)
   ·exact .inr h,fun a xs f h=>by
   have na:a≠p:=fun z=>nf (by rw [<- z];exact f);rcases h with h | ⟨o,h⟩
   ·exact .inl (by rw [bI na];exact h)
   ·exact .inr ⟨o,by rw [bI na];exact h⟩,fun a φ f h=>by rw [bI (fun z=>nf (by rw [<- z];exact f))];exact h⟩
 have old:∀(j:Nat) (s:Sl),ρ[j]?=some s->∃ o,σ[j]?=some o/\qD X.K Y (aZ Z p (bZ p [(.inl O,b,w)] G)) B o s:=fun j s h=>by
  obtain⟨o,q,z⟩:=S.sl j s h
  have ne:∀(a:JY) (u:HO),H a=some u->a≠p:=fun a u g e=>by rw [e,hp]at g;cases g
  have up:∀(a:JY) (u:HO),H a=some u->aZ Z p (bZ p [(.inl O,b,w)] G) a=some u:=fun a u g=>by rw [bI (ne a u g)];exact E'.same _ _ (E0.same _ _ g)
  have M:∀(a:JY) (u:HO),H a=some u->¬ F a->¬ Y a:=fun a u g nf f=>by
   rcases E'.new a f with f | ⟨f,_⟩
   ·exact nf f
   ·rw [E0.same _ _ g]at f;cases f
  have T2:cK X.K F Y H (aZ Z p (bZ p [(.inl O,b,w)] G)):=(E0.trans E').stay.trans T
  refine⟨o,q,?_⟩
  cases s with
  | no=>trivial
  | dat d=>obtain⟨v,J,r⟩:=z;exact⟨v,J,r.stay T2⟩
  | own ds=>obtain⟨a,vs,J,g,y,U,r⟩:=z;exact⟨a,vs,J,up a _ g,M a _ g y,U,r.stay T2⟩
  | ownD a1=>obtain⟨a,es,G,J,g,y,U,n,l,r⟩:=z;exact⟨a,es,G,J,up a _ g,M a _ g y,U,n,l,r.stay T2⟩
  | ownM a1=>obtain⟨a,es,G,J,m⟩:=z;exact⟨a,es,G,J,m.to T2 fun c φ hc y=>⟨up c _ hc,M c _ hc y⟩⟩
 refine kk Y _ _ ((E.trans (E0.trans E')).turn h0) ((E0.trans E').stay.trans T) ⟨by simp [S.len],fun j s h=>?_,S.sepNew hp,fun a f=>?_⟩
 ·by_cases Q:i=j
  ·subst Q
   have hl:i<ρ.length:=by simpa using(Qf.mp h).1
   rw [QG hl]at h;cases h
   exact⟨some (.ref p),by rw [QG (by rw [S.len];exact hl)],p,[(.inl O,b,w)],G,rfl,dY,nf,h0,by simp,by simp,.cons (k:=.inl O) (T.tp _ _ hb) (R.stay T) .nil⟩
  ·rw [QC Q]at h;obtain⟨o,q,z⟩:=old j s h
   exact⟨o,by rw [QC Q];exact q,z⟩
 ·by_cases g:a=p
  ·subst g;rw [dY];simp
  ·rw [bI g];exact S'.fz a f
end
end DC
namespace LM
open PySem.Spec L2 DL DC ST SL TB
theorem NH{es:List cM}{ks:List Int}(h:j8 es ks=true):∃ b v,(es.find? fun e=>decide (e.1=.inl ks))=some (.inl ks,b,v):=by
 obtain⟨e,a,q⟩:=Jb.mp h
 cases f:es.find? fun e=>decide (e.1=.inl ks)with
 | none=>exact absurd q (by simpa using JC.mp f e a)
 | some r=>
  have:=List.find?_some f
  obtain⟨k,b,v⟩:=r
  exact⟨b,v,by rw [<- of_decide_eq_true this]⟩
theorem vS{a b:Type}(f:a->b):∀(l:List a) (j:Nat),(l.map f).eraseIdx j=(l.eraseIdx j).map f
 | [],_=>rfl
 | _::_,0=>rfl
 | x::l,j+1=>by
  show f x::(l.map f).eraseIdx j=f x::(l.eraseIdx j).map f
  rw [vS f l j]
section
variable {P:J2}{w:J4}{κ:Type}[DecidableEq κ]{knd:HeapKind P w κ}{A:Around}{E:Value->YP->Prop}{s:YP}{d b:JY}{k:κ}{xs:List (κ × JY × Value)}
theorem SV{j:Nat}{p:JY × Value}{Q:Option Zz->YP->Prop}(y:knd.room A)(a:knd.is s.heap k b)(F:s.heap.DictOfH knd d xs)(n:xs[j]?=some (k,p))(hsz:xs.length<=sizeLine)
  (h:∀ e h',e.val=p.2->h'.DictOfH knd d (xs.eraseIdx j)->Zi d s.heap h'->Q (some e) { s with heap:=h',toks:=s.toks+knd.draws k }):JZ (J1 P w) A (Builtin.Dict.takeOut d (.ref b)) Q E s:=by
 obtain⟨o,u,M,g,I,f,c,m,t⟩:=F
 have H:u.size=xs.length:=by rw [<- Qt,c,Qo]
 unfold Builtin.Dict.takeOut
 try with_reducible refine QV ?_
 refine Qa (knd.pyHash y a ?_);refine Qa (wpAny_dictFind_heap (s:={ s with toks:=s.toks+knd.draws k }) y a g f c m t (fun q=>absurd n (q j p)) fun r N i=>?_)
 have v:r=j:=by
  have O:=(Qf.mp n).1;have z:=(Qf.mp i).1
  have K:(xs.map (·.1))[j]?=some k:=by rw [QF,n];rfl
  have J:(xs.map (·.1))[r]?=some k:=by rw [QF,i];rfl
  exact(List.getElem?_inj (by simpa using z) t).mp (J.trans K.symm)
 subst v;refine Qa (Jn (s:={ s with toks:=s.toks+knd.draws k }) g f ?_)
 have G:u[r]?=some (entryOfKey knd (k,p)):=by rw [<- QI,c,QF,n];rfl
 rw [G];refine Qa (wpAny_updateDictKeys (hz:=by lia) (s:={ s with toks:=s.toks+knd.draws k }) g f (Qb (h (entryOfKey knd (k,p)) _ rfl ⟨_,_,M+1,QQ _ g (Obj.isFreed_of_dict (Obj.data_mapDictKeys f _)),I.mapDictKeys _,Obj.data_mapDictKeys f _,?_,fun x B=>?_,?_⟩ (QY ..))))
 ·obtain⟨l⟩:=u;simp only [List.eraseIdxIfInBounds_toArray];have c:l=xs.map (entryOfKey knd):=c;rw [c,vS]
 ·exact knd.keeps (m x (List.mem_of_mem_eraseIdx B)) g f (QY ..)
 ·rw [<- vS];exact t.eraseIdx _
theorem Sv{j:Nat}{p:JY × Value}{Q:Value->YP->Prop}(n:∀ B:Around,B.units<=A.units+2->knd.room B)(a:knd.is s.heap k b)(c:s.heap.DictOfH knd d xs)(g:xs[j]?=some (k,p))(hsz:xs.length<=sizeLine)
  (h:∀ h',h'.DictOfH knd d (xs.eraseIdx j)->Zi d s.heap h'->Q p.2 { s with heap:=h',toks:=s.toks+knd.draws k }):JZ (J1 P w) A (call (.builtin "dict.pop") [.ref d,.ref b]) Q E s:=by
 have i:=c.typeIs;refine Q9 PySem.F.slot_dict_pop i PySem.F.entry_dict_pop ?_ (PySem.F.args_dict_pop_2 _ _);unfold Builtin.«dict.pop»;refine Qa ?_;unfold Builtin.Dict.keyAndDefault;refine Qa (UF i ?_)
 show JZ _ _ (pure (d,Value.ref b,none)) _ _ s
 refine Qb ?_;obtain⟨o,l,G,q,y,u,t,r,x⟩:=id c
 have f:l.isEmpty=false:=by
  have:l.size=xs.length:=by rw [<- Qt,t,Qo]
  have v:=(Qf.mp g).1;rw [Array.isEmpty_eq_false_iff];intro z;rw [z]at this
  simp at this
  lia
 simp only [show(keyPart (Value.ref b)).isSome=false from rfl,Qq,if_false];refine Qa (Jn q u ?_);refine Qa (Qb ?_);rw [f];simp only [Qq,if_false];refine Qa (SV (n _ (by first | (show A.units+1<=_;lia) | (show A.units<=_;lia) | (show A.units+2<=_;lia))) a c g hsz fun e h' ev dd m=>?_);simp only [Option.isNone_some,Qq,if_false];exact Qa (Jo (Qb ⟨e.val,rfl,by rw [ev];exact h h' dd m⟩))
end
def L8:TE:=fun _ H Q=>∀ p ep,H p=none->Q (.ref p) (aZ H p (bZ p [] ep))
section
variable {X:Cx}{o e k d v:Expr}{es:List Expr}{ga gk gd gv ge:aA->Option D}{p pos:Pos}
def LX(r:V->List V->Hp->VK->Prop)(to:TE)(t:TA):TE:=fun b H Q=>to b H fun x c=>(∃ a es ep,x=.ref a/\c a=some (bZ a es ep))/\t b c fun d e=>r x d e Q
theorem G9{to:TE}{t:TA}{name:Str}{m c:Pos}{id:String}{r:V->List V->Hp->VK->Prop}(u:Slot "dict" name id)(ty:typeOf (.builtin id)=pure (.type "method_descriptor"))(N:tO X id r)(M:PE X o to)(T:PA X (e::es) t)
  (S:ZY o name X.env (Zs o X.env)=Zs o X.env)
  (R:((Zo c (J0 (e::es) X.env)).all (fun x => !x.1) && (Ut c (ZN [] X.env)).all (fun x=>x.1.isSome) && decide ((e::es).length+([]:List Z1).length+(if([]:List Z1).isEmpty then 0 else 1)<30))=true)
  (O:(m.endLine == c.line)=true) (hs:J0 (e::es) X.env=(false,Zs e X.env)::J0 es X.env) (K:(Zo c (J0 es X.env)).any (·.1)=false):PE X (.Call (.Attribute o name m) (e::es) [] c) (LX r to t):=fun b s d H Q I h=>by
 refine wpAny_Call_method_late S R O rfl (bH (M b s d H _ I h) fun v g ⟨x,n,I1,B,⟨a,f,W,U,J⟩,G⟩=>?_);subst U;cases B;obtain⟨⟨lo,i,z,l,k,g3,g4⟩,_⟩:=(show eY X.prog X.w n g.heap a (bZ a f W)from I1.hok a _ J)
 refine⟨"dict",id,PySem.F.plainAttrs_dict,u,ty,⟨i,l,k.1⟩,fun a' Y=>by cases Y;exact⟨i,l,k.2.1⟩,?_⟩
 have j:=T c b g d n _ I1 G;rw [hs]at j ⊢;exact Calls.callWith_builtin (by show(false || (Zo c (J0 es X.env)).any (·.1))=false;rw [K];rfl) (Calls.evalArgs_plain (bH j fun q y ⟨p,H2,Z,A,E⟩=>N b y d H2 (.ref a) p (.ref a) q Q Z rfl A E))
def mS(ga gk e:aA->Option D):aA->Option D:=fun b=>(ga b).bind fun f=>match f with
 | .dict a=>(gk b).bind fun d=>(e b).bind fun dd=>(bW d).bind fun c=>if cW a=true then some ((getD a c).getD dd)else none
 | _=>none
def Ld(K:PySem.W.Frag):V->List V->Hp->VK->Prop:=fun x c H Q=>∃(a b:JY) (es:List cM) (ep:Nat) (ks:List Int) (w:V),x=.ref a/\c=[.ref b,w]/\bR K H b (ks.map V.int)/\H a=some (bZ a es ep)/\(∀ e∈es,∃ ks,e.1=.inl ks/\bR K H e.2.1 (ks.map V.int))/\(es.map (·.1)).Nodup /\
 (∀ b' v',(es.find? fun e=>decide (e.1=.inl ks))=some (.inl ks,b',v')->Q v' H)/\(j8 es ks=false->Q w H)
theorem Oi(U:X.A.units+65<J8):tO X "dict.get" (Ld X.K):=fun j s O H x c v R Q I o q l=>by
 obtain⟨a,b,es,W,ks,w,M,e,B,h,z,n,G,E⟩:=l;subst M e;cases o;obtain⟨S,m,rfl,t,r⟩:=Vals.two q;cases t;obtain⟨u,c,dd,g⟩:=lF I h z n
 have y:(dM X.prog X.w).room X.A.in1:=show X.A.in1.units<J8 from by show X.A.units+1<J8;lia
 refine call_meetsIn PySem.F.slot_dict_get dd.typeIs PySem.F.entry_dict_get (PySem.F.args_dict_get_3 _ _ _) (meetsH_dict_get_default (dM X.prog X.w) a b u m) ⟨y,ks,c,hJ I B,dd,?_⟩
 cases d:Vc c ks with
 | some p=>
  obtain⟨N,i,f⟩:=NH (es:=es) (ks:=ks) (by rw [pJ ks g,d];rfl);obtain⟨T,k,J⟩:=vQ g f;rw [d]at k;cases k
  exact⟨i,H,I.tok _,J,G N i f⟩
 | none=>exact⟨w,H,I.tok _,r,E (by rw [pJ ks g,d];rfl)⟩
theorem getD_none{K:PySem.W.Frag}{F:JY->Prop}{H:Hp}{a:List (D × D)}{es:List cM}(t:DReps K F H a es){ks:List Int}(h:j8 es ks=false):getD a ks=none:=by
 rw [<- DReps.has ks t]at h;unfold getD
 rw [JC.mpr fun x b z=>by
  have:fC a ks=true:=Jb.mpr ⟨x,b,z⟩
  rw [h]at this;cases this]
 rfl
theorem N1{E j:Pos}(W:X.A.units+65<J8)(Y:DE X o ga)(hk:DE X k gk)(hd:DE X d gd)(u:J0 [k,d] X.env=(false,Zs k X.env)::J0 [d] X.env:=by rfl)(N:J0 [d] X.env=(false,Zs d X.env)::J0 [] X.env:=by rfl)
  (b1:ZY o "get" X.env (Zs o X.env)=Zs o X.env:=by rfl)
  (f1:((Zo j (J0 [k,d] X.env)).all (fun x => !x.1) && (Ut j (ZN [] X.env)).all (fun x=>x.1.isSome) && decide ([k,d].length+([]:List Z1).length+(if([]:List Z1).isEmpty then 0 else 1)<30))=true:=by rfl)
  (R:(E.endLine == j.line)=true:=by rfl) (O:(Zo j (J0 [d] X.env)).any (·.1)=false:=by rfl):DE X (.Call (.Attribute o "get" E) [k,d] [] j) (mS ga gk gd):=
 eQ (G9 PySem.F.slot_dict_get PySem.F.type_dict_get (Oi W) Y (k4 hk (k4 hd nJ N) u) b1 f1 R u O) fun σ H Q M=>by
 obtain⟨F,c,s,r,S,q,w⟩:=M;obtain⟨da,e0,q⟩:=aN q
 split at q
 ·rename_i e;obtain⟨T,e1,q⟩:=aN q;obtain⟨dd,e2,q⟩:=aN q;obtain⟨g,e3,q⟩:=aN q;by_cases p:cW e=true
  ·rw [if_pos p]at q;cases q
   refine⟨F,c,s,_,S,e0,fun F1 H1 v E1 G=>?_⟩
   generalize hdd:PyData.dict e=d0 at G
   cases G with
   | @dct a es kvs' ep f h n l t=>
    cases hdd
    refine⟨⟨a,es,ep,rfl,h⟩,F1,c,s,T,S.ext E1,e1,fun F2 H2 kv E2 R2=>⟨F2,c,s,dd,(S.ext E1).ext E2,e2,fun J I dv E3 R3=>?_⟩⟩
    obtain⟨b,rfl,hb⟩:=iH R2 e3;have E13:=E2.trans E3;have m:=t.stay (K:=X.K) E13.stay
    refine⟨a,b,es,ep,g,dv,rfl,rfl,eJ.sqT E3.same hb,E13.same _ _ h,DReps.flat m p,n,fun b' v' y=>?_,fun Z=>?_⟩
    ·cases i:getD e g with
     | none=>
      have:fC e g=true:=by
       rw [DReps.has g m];exact Jb.mpr ⟨_,List.mem_of_find?_eq_some y,decide_eq_true rfl⟩
      obtain⟨x,U,z⟩:=Jb.mp this;unfold getD at i;rw [Option.map_eq_none_iff]at i;exact absurd z (JC.mp i x U)
     | some r=>
      obtain⟨b2,v2,B,g2⟩:=DReps.get g m i;rw [y]at B;cases B;exact w J I _ (E1.trans E13) (by rw [i];exact g2)
    ·exact w J I _ (E1.trans E13) (by rw [getD_none m Z];exact R3)
   | exn f h n=>
    exfalso
    cases hdd;cases p
   | _=>cases hdd
  ·rw [if_neg p]at q;cases q
 ·cases q
theorem Pk:PE X (.Dict [] [] pos) L8:=fun a s g H Q I h=>by
 refine wpAny_Dict_empty ?_;have f:H s.heap.objs.size=none:=I.hok.fresh (Ql _);have d:(s.heap.objs.size == Zg)=false:=beq_eq_false_iff_ne.mpr (Zy (Qu (u9 I)));have dd:(s.heap.push { cls:=.type "dict",data:=.dict #[] }).DictOfH (dM X.prog X.w) s.heap.objs.size []:=⟨_,_,_,Qr _ rfl,⟨rfl,rfl,rfl⟩,rfl,rfl,fun x e=>(nomatch e),.nil⟩;obtain⟨c,oo⟩:=n6 (H:=H) d dd .nil
 exact⟨.ref s.heap.objs.size,aZ H s.heap.objs.size (bZ s.heap.objs.size [] c),I.laid (t':=s.toks) (fun b o q=>Qc _ q) (Ql _) oo,rfl,h _ c f⟩
def GS(i:Nat):aA->Option aP:=fun a=>some (.nx (a.set i (.ownD [])))
theorem Nz{i:Nat}{x:Str}{b a:Pos}(l:X.N.Nodup)(h:X.N[i]?=some x:=by rfl)(g:i6 X.env.scope x:=by first | exact ZD rfl | exact Zp rfl)
  (hs:ZB (.Dict [] [] a) (some (.Name x b)) pos.line X.env=pure false:=by rfl) (j:X.fn x=true ∨ X.env.scope.names.lookup x=some .local:=by first | exact .inl rfl | exact .inr rfl | assumption):
  DS X (.Assign [.Name x b] (.Dict [] [] a) pos) (GS i):=ps_mono (k6 l h g Pk hs j) fun W m H f=>by
 obtain⟨e,d,F,n,o,E,S,q,k⟩:=f;cases q;intro p r c;exact k F _ _ (E.trans (aM.fresh c)) (aM.fresh c).stay (S.putOwnD c (E.same.free c) .nil (QU _) .nil)
def mZ:List (D × D)->List Int->Option (D × List (D × D))
 | [],_=>none
 | p::r,k=>if bW p.1=some k then some (p.2,r)else(mZ r k).bind fun z=>some (z.1,p::z.2)
theorem Hn{K:PySem.W.Frag}{F:JY->Prop}{H:Hp}{k:List Int}:∀{kvs:List (D × D)}{es:List cM}{z:D × List (D × D)},DReps K F H kvs es->mZ kvs k=some z->∃ j b v,es[j]?=some (.inl k,b,v)/\aV K F H z.1 v/\DReps K F H z.2 (es.eraseIdx j)
 | [],_,_,_,h=>by cases h
 | p::r,_,z,t,h=>by
  cases t with
  | @cons k' b d v _ es h1 h2 t=>
  unfold mZ at h
  split at h
  ·rename_i c;cases h;have e:k'=.inl k:=(vL h1).mp c;subst e
   exact⟨0,b,v,rfl,h2,t⟩
  ·obtain⟨y,l,h⟩:=aN h;cases h;obtain⟨j,m,a,i,g,f⟩:=Hn t l
   exact⟨j+1,m,a,i,g,.cons h1 h2 f⟩
theorem EN:∀{es:List cM}{xs:List jN}{j:Nat}{e:cM},Paired ER es xs->es[j]?=some e->∃ x,xs[j]?=some x/\ER e x
 | _,_,0,_,.cons r t,h=>by cases h;exact⟨_,rfl,r⟩
 | _,_,j+1,_,.cons r t,h=>EN (j:=j) t (by simpa using h)
theorem EO:∀{es:List cM}{xs:List jN} (j:Nat),Paired ER es xs->Paired ER (es.eraseIdx j) (xs.eraseIdx j)
 | _,_,_,.nil=>.nil
 | _,_,0,.cons r t=>t
 | _,_,j+1,.cons r t=>.cons r (EO j t)
def Lk(K:PySem.W.Frag):V->List V->Hp->VK->Prop:=fun x c H Q=>∃(a b b':JY) (es:List cM) (ep:Nat) (ks:List Int) (j:Nat) (v:V),x=.ref a/\c=[.ref b]/\bR K H b (ks.map V.int)/\H a=some (bZ a es ep)/\(∀ e∈es,∃ ks,e.1=.inl ks/\bR K H e.2.1 (ks.map V.int))/\(es.map (·.1)).Nodup/\es.length<=1000/\es[j]?=some (.inl ks,b',v)/\∀ ep',Q v (aZ H a (bZ a (es.eraseIdx j) ep'))
theorem Oj(hu:X.A.units+65<J8):tO X "dict.pop" (Lk X.K):=fun d s t H x E v us Q I G J y=>by
 obtain⟨a,b,b',Y,ep,i,j,w,W,o,T,h,R,n,l,O,q⟩:=y;subst W o;cases G;obtain⟨u,rfl,M⟩:=iK J;cases M;obtain⟨N,E,dd,p⟩:=lF I h R n;obtain⟨⟨k',b2,u⟩,m,r,e2,Z⟩:=EN p O;have r:=Sum.inl.inj r;subst r;cases e2;refine Sv (knd:=dM X.prog X.w) (k:=i) (fun B hB=>show B.units<J8 by lia) (hJ I T) dd m (by rw [<- Paired.length p];exact Qz l (by rw [Yj];lia)) fun U g F=>?_;obtain⟨f,oo⟩:=n6 (H:=H) N g (EO j p);have I4:L2.Inv X d t (aZ H a (bZ a (Y.eraseIdx j) f)) { s with heap:=U,toks:=s.toks+(dM X.prog X.w).draws i }:=I.write (x:=a) (e:=a) (t':=s.toks+(dM X.prog X.w).draws i) (by rw [h];exact Z4) (.inl rfl) (fun c ob S z=>(F.2 c S).trans z) (let⟨o2,_,_,hq,_⟩:=g;⟨o2,hq⟩) oo
 exact⟨w,_,I4,Z,q f⟩
def gA:Sl->Bool
 | .ownM _=>true
 | _=>false
def lR(ρ:aA):Bool:=ρ.all fun s => !gA s
theorem FO{ρ:aA}(h:lR ρ=true)(j:Nat)(a:List (List Int × List D)):ρ[j]?≠some (.ownM a):=fun z=>by
 have:=QZ.mp h _ (QM z)
 cases this
def t9(j i:Nat)(gk:aA->Option D):aA->Option aP:=fun a=>match a[i]? with
 | some (.ownD kvs)=>(gk a).bind fun c=>(bW c).bind fun b=>(mZ kvs b).bind fun z=>if(cW kvs && lR a)=true then some (.nx ((a.set i (.ownD z.2)).set j (.dat z.1)))else none
 | _=>none
theorem T6{es:List cM}{j:Nat}(h:(es.map (·.1)).Nodup):((es.eraseIdx j).map (·.1)).Nodup:=by
 rw [<- vS];exact h.eraseIdx _
theorem Nx{i j:Nat}{x y:Str}{d t e:Pos}(hN:X.N.Nodup)(hu:X.A.units+65<J8)(hk:DE X k gk)(hj:X.N[j]?=some y:=by rfl)(hy:i6 X.env.scope y:=by first | exact ZD rfl | exact Zp rfl)(hi:X.N[i]?=some x:=by rfl)(m:i7 X.env.scope x:=by first | exact ZD rfl | exact Zp (ZD rfl) | exact Zp (Zp rfl))(hd:(x == ("__debug__":Str))=false:=by decide)
  (s:(x == ("__classdict__":Str))=false:=by decide) (B:J0 [k] X.env=(false,Zs k X.env)::J0 [] X.env:=by rfl) (b1:ZY (.Name x p) "pop" X.env (Zs (.Name x p) X.env)=Zs (.Name x p) X.env:=by rfl)
  (f1:((Zo e (J0 [k] X.env)).all (fun x => !x.1) && (Ut e (ZN [] X.env)).all (fun x=>x.1.isSome) && decide ([k].length+([]:List Z1).length+(if([]:List Z1).isEmpty then 0 else 1)<30))=true:=by rfl)
  (l1:(t.endLine == e.line)=true:=by rfl) (p1:(Zo e (J0 [] X.env)).any (·.1)=false:=by rfl) (hs:ZB (.Call (.Attribute (.Name x p) "pop" t) [k] [] e) (some (.Name y d)) pos.line X.env=pure false:=by rfl) (hf:X.fn y=true ∨ X.env.scope.names.lookup y=some .local:=by first | exact .inl rfl | exact .inr rfl | assumption):
  DS X (.Assign [.Name y d] (.Call (.Attribute (.Name x p) "pop" t) [k] [] e) pos) (t9 j i gk):=
 ps_mono (k6 hN hj hy (G9 PySem.F.slot_dict_pop PySem.F.type_dict_pop (Oj hu) (mG hi m hd s) (k4 hk nJ B) b1 f1 l1 B p1) hs hf) fun W σ H zz=>by
 obtain⟨Y,g,F,u,o,E,S,q,kk⟩:=zz;unfold t9 at q
 split at q
 ·rename_i l T;obtain⟨kd,e1,q⟩:=aN q;obtain⟨ks,e2,q⟩:=aN q;obtain⟨z,e3,q⟩:=aN q;by_cases c:(cW l && lR u)=true
  ·rw [if_pos c]at q;cases q;obtain⟨fl,nm⟩:=QD.mp c;obtain⟨a,Q,R,M,h,q3,J,I,G,q7⟩:=S.ownD T
   refine⟨.ref a,M,⟨a,Q,R,rfl,h⟩,F,g,u,kd,S,e1,fun Z H1 kv E1 R1=>?_⟩
   obtain⟨b,rfl,hb⟩:=iH R1 e2;have S1:=S.ext E1;have O:=E1.same _ _ h;have v:=q7.stay (K:=X.K) E1.stay
   have r:¬ Z a:=fun f=>by
    rcases E1.new a f with f | ⟨f,_⟩
    ·exact q3 f
    ·rw [h]at f;cases f
   obtain⟨n,b',w,g1,g2,g3⟩:=Hn v e3
   refine⟨a,b,b',Q,R,ks,n,w,rfl,rfl,hb,O,DReps.flat v fl,I,G,g1,fun ep'=>?_⟩
   obtain⟨T1,U⟩:=S1.turnD (ep':=ep') T M O r J (FO nm) (T6 I) (Qz (List.length_eraseIdx_le _ _) G) g3;exact kk Z _ _ ((E.trans E1).turn J) (E1.stay.trans U) (T1.put (g2.stay U))
  ·rw [if_neg c]at q;cases q
 ·cases q
def mI(i:Nat)(gk gv:aA->Option D):aA->Option aP:=fun a=>match a[i]? with
 | some (.ownD kvs)=>(gv (a.map frz)).bind fun d=>(gk a).bind fun c=>(bW c).bind fun b=>if(cW kvs && decide (kvs.length<1000) && lR a && kR d)=true then some (.nx (a.set i (.ownD (fE kvs b d))))else none
 | _=>none
theorem CY{i:Nat}{x:Str}{p' h:Pos}(hu:X.A.units+65<J8)(hk:DE X k gk)(hv:DE X v gv)(hN:X.N[i]?=some x:=by rfl)(Y:i7 X.env.scope x:=by first | exact ZD rfl | exact Zp (ZD rfl) | exact Zp (Zp rfl))(hd:(x == ("__debug__":Str))=false:=by decide)
  (a1:(x == ("__classdict__":Str))=false:=by decide) (hs:ZB v (some (.Subscript (.Name x p') k h)) pos.line X.env=pure false:=by rfl):DS X (.Assign [.Subscript (.Name x p') k h] v pos) (mI i gk gv):=by
 intro g s m H W I ⟨a2,j,F,M,o,E,S,q,kk⟩;unfold mI at q
 split at q
 ·rename_i t e0;obtain⟨d,e1,q⟩:=aN q;obtain⟨kd,e2,q⟩:=aN q;obtain⟨B,e3,q⟩:=aN q;by_cases c:(cW t && decide (t.length<1000) && lR M && kR d)=true
  ·rw [if_pos c]at q;cases q;simp only [QO,decide_eq_true_eq]at c;obtain⟨⟨⟨fl,ln⟩,nm⟩,nl⟩:=c;refine wpAny_Assign_Subscript (bH (hv g s m H (fun w p=>∃ r,aM F r H p/\aV X.K r p d w) I ⟨_,j,M.map frz,d,S.frz,e1,fun r p w E1 R1=>⟨_,E1.lend S,u6 R1 nl⟩⟩) fun u s1 ⟨w,p,I1,R,r,E1,R1⟩=>?_) hs;have S1:=S.ext E1;obtain⟨a,es,ep,q1,q2,q3,q4,q5,q6,q7⟩:=S1.ownD e0;refine bH ((mG hN Y hd a1) g s1 m p (fun z J=>z=.ref a/\J=p) I1 ⟨.ref a,q1,rfl,rfl⟩) fun u2 s2 O=>?_;obtain⟨z,J,I2,rz,ez,eh⟩:=O;subst ez eh;cases rz;refine bH (hk g s2 m J (fun y n=>∃ l,aM r l J n/\aV X.K l n kd y) I2 ⟨r,j,M,kd,S1,e2,fun l n y E3 R3=>⟨l,E3,R3⟩⟩) fun u3 Q O=>?_;obtain⟨y,n,I3,ry,l,E3,R3⟩:=O;obtain⟨b,rfl,hb⟩:=iH R3 e3;cases ry;have S3:=S1.ext E3;have hH:=E3.same _ _ q2;have t3:=q7.stay (K:=X.K) E3.stay;obtain⟨lo,xs,dd,er⟩:=lF I3 hH (DReps.flat t3 fl) q5
   have U:xs.length<=sizeLine:=by rw [<- Paired.length er];exact Qz q6 (by rw [Yj];lia)
   refine wpAny_setItem_heap (knd:=dM X.prog X.w) (k:=B) (show X.A.in1.units<J8 from by show X.A.units+1<J8;lia) (hJ I3 hb) dd (fun h' G Z=>?_) U
   have a0:¬ l a:=fun f=>by
    rcases E3.new a f with f | ⟨f,_⟩
    ·exact q3 f
    ·rw [q2]at f;cases f
   have T:es.length<1000:=by rw [<- DReps.length q7];exact ln
   obtain⟨ep',oo⟩:=n6 (H:=n) lo G (vR R er);obtain⟨T1,T2⟩:=S3.turnD (ep':=ep') e0 q1 hH a0 q4 (FO nm) (Hu (k:=B) (b:=b) (v:=w) q5) (Qz Hv T) (DReps.put t3 hb (R1.stay E3.stay));have I4:L2.Inv X g m (aZ n a (bZ a (jE es B b w) ep')) { Q with heap:=h',toks:=Q.toks+(dM X.prog X.w).draws B }:=I3.write (x:=a) (e:=a) (t':=Q.toks+(dM X.prog X.w).draws B) (by rw [hH];exact Z4) (.inl rfl) (fun c ob hc z=>(Z.2 c hc).trans z) (let⟨o2,_,_,hq,_⟩:=G;⟨o2,hq⟩) oo
   exact⟨m,_,I4,kk l _ m (((E.trans E1).trans E3).turn q4) ((E1.stay.trans E3.stay).trans T2) T1⟩
  ·rw [if_neg c]at q;cases q
 ·cases q
theorem OH{prog:J2}{w:J4}{A:Around}{E:Value->YP->Prop}{s:YP}{d:JY}{o:Obj}{es:Array Zz}{b:Nat}{Q:Value->YP->Prop}(j:(d == Zg)=false)(c:s.heap.get? d=some o)(k:o.ExactDict)(a:o.data=.dict es b)(e:(es.size:Int)<2 ^ 63)
  (h:Q (.int es.size (s.toks+1)) { s with toks:=s.toks+1+1 }):JZ (J1 prog w) A (call (.builtin "len") [.ref d]) Q E s:=by
 have f:s.TypeIs (.ref d) "dict":=⟨o,c,k.1⟩;refine Z6 kind_len plain_len entry_len (args_len1 _) ?_;unfold Builtin.«len»;refine Qa (m:=oneArg "len" _) (Qb ?_)
 have i:MeetsIn prog w (Builtin.«dict.__len__» ⟨[.ref d],[]⟩) (fun _ R s=>(∃ o es b,s.heap.get? d=some o/\o.data=.dict es b/\R (.ok (.ret (.int es.size s.toks))) { s with toks:=s.toks+1 })):=
  .of_wp fun A R s g=>by
   obtain⟨o,es,b,c,a,h⟩:=g
   show JZ _ _ (dictSize d >>= _) _ _ s
   unfold dictSize;refine Qa (Qa (Jn c a (Qb ?_)))
   show JZ _ _ (Builtin.Dict.pendingCount d >>= _) _ _ s
   refine Qa (wpAny_pendingCount_other j ?_);refine wpAny_ret_mkInt ?_;rw [Nat.add_zero];exact h
 refine Qa (m:=callSpecial? (.ref d) (Str.ofString "__len__")) (Yf (name:=Str.ofString "__len__") f PySem.F.slot_dict_len
  (call_meetsIn PySem.F.slot_dict_len f PySem.F.entry_dict_len (PySem.F.args_dict_len_1 _) i ⟨o,es,b,c,a,?_⟩))
 show JZ _ _ _ _ _ { s with toks:=s.toks+1 }
 refine Qa (QV (Qb ?_));refine Qa (Jo ?_)
 show JZ _ _ (if((es.size:Nat):Int)<0 then _ else _) _ _ _
 rw [if_neg (by lia)]
 show JZ _ _ (if((es.size:Nat):Int) >= 2 ^ 63 then _ else _) _ _ _
 rw [if_neg (by lia)];exact Qa (wpAny_mkInt (Qb ⟨_,rfl,h⟩))
def pF:List D->Option D
 | [.dict kvs]=>if cW kvs=true then some (.int kvs.length)else none
 | _=>none
theorem Mt:dW X (.builtin "len") (gS X.K pF):=fun g s A H B E Q I m j=>by
 obtain⟨F,J,q,z,R,c,k⟩:=j;unfold pF at c
 split at c
 ·rename_i b;by_cases e:cW b=true
  ·rw [if_pos e]at c;cases c
   cases R with
   | cons i R2=>
   cases R2;obtain⟨u,rfl,o⟩:=iK m;generalize hdd:PyData.dict b=M at i
   cases i with
   | @dct a es kvs' ep f h n l t=>
    cases hdd;cases o;obtain⟨⟨p,G,d,y,x,v,r⟩,_⟩:=(show eY X.prog X.w H s.heap a (bZ a es ep)from I.hok a _ h)
    have sz:d.size=b.length:=by rw [DReps.length t,Paired.length r];simp
    refine OH p y x v (by rw [sz,DReps.length t];lia) ⟨.int b.length,H,I.tok _,⟨_,by rw [sz]⟩,k F H _ (aM.refl F H) (.int _)⟩
   | exn f h n=>
    unfold Cu at hdd;cases hdd;cases e
   | _=>cases hdd
  ·rw [if_neg e]at c;cases c
 ·cases c
end
end LM
namespace LM
open HT
theorem RV(A:Around)(s:YP)(a:Int)(t:Tok)(c:Int)(u:Tok)(prog:J2)(w:J4)(E:Value->YP->Prop)(Q:Value->YP->Prop)(h:Q (.bool (decide (c<a))) s):
  JZ (J1 prog w) A (ZM .Gt (.int a t) (.int c u)) Q E s:=
 (PyProof.Rows.gt_int h:JZ (J1 prog w) A (J9 .Gt (.int a t) (.int c u)) Q E s)
section
open PySem.SeqAt
open PySem.AutoSeq1 (wpAny_loadPart')
open PySem.MeetsSeq PySem.MeetsSeq2 PySem.MeetsSeq3
theorem S9(l b:JY)(i f:Array Value)(n Y:Nat)(dd S:Option JY)(X N:Array (Option Value))(ns K:List Int)(W:ZH i.toList ns)(U:ZH f.toList K):
  Meets (Builtin.«tuple.__gt__» ⟨[.ref l,.ref b],[]⟩)
   (fun _ R s=>s.heap.get? l=some { cls:=.type "tuple",dict:=dd,data:=.seq i n,slots:=X }/\s.heap.get? b=some { cls:=.type "tuple",dict:=S,data:=.seq f Y,slots:=N } /\
    R (.ok (.ret (.bool (lexLt K ns)))) s):=
 .of_wp fun r w A R s h=>by
  obtain⟨M,g,d,I,J⟩:=s;obtain⟨hl,hb,h⟩:=h;have f2:=Z9
  have z1:i.size=ns.length:=by rw [<- W.length];simp
  have z2:f.size=K.length:=by rw [<- U.length];simp
  wp_walk using Zx hl,Zx hb,YT _ (fun rest b O=>b.1=none/\O=⟨M,g,d,I,J⟩/\∃(H ws:List Value) (k m:List Int),rest=H.zip ws /\
   ZH H k/\ZH ws m/\k.length+f.size=m.length+i.size/\R (.ok (.ret (.bool (lexLt m k)))) ⟨M,g,d,I,J⟩) _
  case turn=>
   rintro⟨y,x⟩ rest b O ⟨E,rfl,H,ws,k,m,o,B,p,j,z⟩
   cases B with
   | nil=>rw [List.zip_nil_left]at o;cases o
   | cons a t G=>
    cases p with
    | nil=>rw [List.zip_nil_right]at o;cases o
    | cons c u F=>
     rw [YU]at o
     injection o with hyx hrest
     injection hyx with hy hx
     subst hy hx;rw [lexLt_cons]at z;simp only [QE]at j;obtain⟨e,he,v⟩:=EM A.in1 ⟨M,g,d,I,J⟩ a t c u;refine Qa (he r w _ _ ?_)
     cases e with
     | true=>
      rw [if_pos (v.mp rfl).symm]at z
      wp_walk
      exact⟨rfl,rfl,_,_,_,_,hrest,G,F,by lia,z⟩
     | false=>
      rw [if_neg (fun q=>absurd (v.mpr q.symm) Qx)]at z;have Q:=RV A.in1 ⟨M,g,d,I,J⟩ a t c u r w
      wp_walk using Q
      exact⟨_,rfl,by simpa using z⟩
  case fin=>
   rintro⟨b1,b2⟩ O ⟨E,rfl,H,ws,k,m,o,B,p,j,z⟩
   simp only at E
   subst E
   have T:lexLt m k=decide (f.size<i.size):=by
    cases B with
    | nil=>
     cases p with
     | nil=>
      simp only [Y2]at j;rw [lexLt_nil_nil]
      exact(decide_eq_false (by lia)).symm
     | cons c u Z=>
      simp only [Y2,QE]at j;rw [Go]
      exact(decide_eq_false (by lia)).symm
    | cons a t T=>
     cases p with
     | nil=>
      simp only [Y2,QE]at j;rw [Gp]
      exact(decide_eq_true (by lia)).symm
     | cons c u Z=>
      rw [YU]at o;cases o
   rw [T]at z
   wp_walk
   exact⟨_,rfl,by simpa [Builtin.Tuple.tupleCompareSizes]using z⟩
  case h=>
   exact⟨rfl,rfl,i.toList,f.toList,ns,K,rfl,W,U,by lia,h⟩
end
section
variable {prog:J2}{w:J4}{A:Around}{E:Value->YP->Prop}{s:YP}
theorem Nh{l b:JY}{c a:Array Value}{ns d:List Int}{Q:Value->YP->Prop}(y:U8 s.heap l c)(G:U8 s.heap b a)(B:ZH c.toList ns)(z:ZH a.toList d)
  (v:A.units<J8) (h:Q (.bool (lexLt d ns)) s):JZ (J1 prog w) A (J9 .Gt (.ref l) (.ref b)) Q E s:=by
 obtain⟨⟨H,dd,q,t⟩,m,p,n,o⟩:=id y;obtain⟨⟨r,j,k,i⟩,e,g,u,f⟩:=id G
 simp only at p o g f
 subst p o g f
 exact richCompare_meets_room (op:=.Gt) ⟨_,m,rfl⟩ ⟨_,e,rfl⟩ PySem.F.slot_tuple_gt PySem.F.entry_tuple_gt (PySem.F.args_tuple_gt_2 _ _) (S9 l b c a n u dd j t i ns d B z)
  ⟨m,e,show Value.bool (lexLt d ns)≠Value.notImplemented/\Q (.bool (lexLt d ns)) s from⟨(fun x=>nomatch x),h⟩⟩ v
end
end LM
namespace LM
open PySem.Spec PySem.SeqAt L2 DL SD MN DC
def qG:D->D->Option D
 | .tuple xs,.tuple ys=>(cZ xs).bind fun a=>(cZ ys).bind fun b=>some (.bool (HT.lexLt b a))
 | _,_=>none
def n4:List D->Option D
 | [x,y]=>(bW x).bind fun a=>(bW y).bind fun b=>some (if HT.lexLt b a=true then y else x)
 | _=>none
section
variable {prog:J2}{w:J4}{A:Around}{E:Value->YP->Prop}{s:YP}
theorem Oe{a b:Value}{bt:Nat->Nat->Bool}{Q:Value->YP->Prop}(T:A.handled=none)
  (U:∀ i j x y (s':YP) (Q:Value->YP->Prop) (E:Value->YP->Prop),iM s.heap s'.heap->#[a,b][i]?=some x->#[a,b][j]?=some y->Q (.bool (bt i j)) s'->JZ (J1 prog w) A.in1 (ZM .Lt x y) Q E s')
  (h:∀ v h' tk,#[a,b][Zr bt 1]?=some v->iM s.heap h'->Q v { s with heap:=h',toks:=tk }):JZ (J1 prog w) A (call (.builtin "min") [a,b]) Q E s:=by
 refine PySem.call_function_tree PySem.F.kind_min PySem.F.plain_min PySem.F.entry_min (PySem.F.args_min2 _ _) ?_;refine Qa (m:=Zl "min" ["key","default"] 0 ⟨[],[]⟩) (Jy (show Zl "min" ["key","default"] 0 ⟨[],[]⟩=pure [none,none]from rfl) ?_)
 show JZ _ A.in1 (newTuple [a,b] >>= _) _ _ s
 refine Qa (Q0 ?_);have H:(s.heap.push { cls:=.type "tuple",data:=.seq #[a,b] }).IsTuple s.heap.objs.size #[a,b]:=⟨_,Qr _ rfl,rfl,0,rfl⟩;have O:iM s.heap (s.heap.push { cls:=.type "tuple",data:=.seq #[a,b] }):=fun x o q=>Qc _ q;have n:(s.heap.push { cls:=.type "tuple",data:=.seq #[a,b] }).objs.size=s.heap.objs.size+1:=Yp ..;generalize hg:s.heap.push { cls:=.type "tuple",data:=.seq #[a,b] }=g at *;generalize hl:s.heap.objs.size=l at *;refine Qa (JE H ?_);refine Qa (Q0 ?_);rw [j2]
 have I:(g.push { cls:=.type "tuple_iterator",data:=.fields #[.ref l,.int 0 0] }).objs.size=l+2:=by rw [Yp,n]
 refine Qb ⟨Yq PySem.F.plain_min_loop _,?_⟩;rw [I,n];have od:iM s.heap ((g.push { cls:=.type "tuple_iterator",data:=.fields #[.ref l,.int 0 0] }).push { cls:=.type "list",data:=.seq #[] }):=fun a o q=>Qc _ (Qc _ (O a o q))
 have c:∀ a o,s.heap.get? a=some o->a≠l+2/\a∉[l+1]:=fun a o q=>by
  have:=Qs q
  rw [hl]at this
  exact⟨Qu (QB this (Yi _ _)),fun z=>Qu (YG this) (Qd.mp z)⟩
 have W:=Walks.tuple (prog:=prog) (w:=w) (A:=A.in1) (by simp [T]) (l+1) l (Qu (YC _)) #[a,b]
 have B:l+2∉[l+1,l]:=fun z=>by
  rcases Qj.mp z with z | z
  ·exact Yw (YC _) z
  ·exact Yw (QB (YC _) (Nat.le_succ _)) (Qd.mp z)
 refine Yh PySem.F.entry_min_loop ?_;rw [Q7 PySem.F.plain_min_loop _]
 have k:((g.push { cls:=.type "tuple_iterator",data:=.fields #[.ref l,.int 0 0] }).push { cls:=.type "list",data:=.seq #[] }).get? (l+2)=some { cls:=.type "list",data:=.seq #[] }:=by rw [<- I];exact Qr _ rfl
 have u:((g.push { cls:=.type "tuple_iterator",data:=.fields #[.ref l,.int 0 0] }).push { cls:=.type "list",data:=.seq #[] }).IsTupleIter (l+1) l 0:=⟨{ cls:=.type "tuple_iterator",data:=.fields #[.ref l,.int 0 0] },Qc _ (by rw [<- n];exact Qr _ rfl),rfl,rfl⟩;refine Qa (m:=Ur (.ref (l+2))) (Yx k rfl ?_)
 show JZ _ A.in1 (Uh (ZU (.ref (l+1))) _ >>= _) _ _ _
 refine Qa (Yy (W.item 0 _ _ _ (JO _) ⟨u,H.at fun o e=>Qc _ (Qc _ e)⟩ fun v h1 tk M t G=>?_));have K:l+2∉[l+1]:=fun z=>Yw (YC _) (Qd.mp z);have f:=G _ _ K k;have d:iM s.heap h1:=fun a o q=>G a o (c a o q).2 (od a o q);refine Qa (m:=updateSeq (l+2) (fun _=>#[v,v])) (Y3 f rfl ?_);rw [j2];have p:∀ a o,a≠l+2->h1.get? a=some o->(h1.update (l+2) (ZC fun _=>#[v,v])).get? a=some o:=fun a o R q=>(Yr _ _ (Zy R)).trans q;refine Qb ⟨Yq PySem.F.plain_min_loop _,FE W s.heap c bt U B _ 0 _ v _ rfl (Nat.succ_le_succ (QU _)) (W.frame _ _ _ t fun a Y o q=>p a o (fun z=>B (by rw [<- z];exact Y)) q) M (fun a o q=>p a o (c a o q).1 (d a o q)) (QQ _ f rfl) fun J X r N S=>?_⟩;exact h J X r N fun a o q=>S a o (c a o q).2 (c a o q).1 (p a o (c a o q).1 (d a o q))
end
section
variable {X:Cx}
theorem PJ(E:X.A.units+64<J8):bO X (J9 .Gt) (cU X.K qG):=fun g s B H x y v u Q I l j i=>by
 obtain⟨F,d,e,q,z,w,R2,c,k⟩:=i;unfold qG at c
 split at c
 ·obtain⟨a,t,c⟩:=aN c;obtain⟨b,r,c⟩:=aN c;cases c
  cases w with
  | @tup u1 vs _ h1 r1=>
   cases R2 with
   | @tup u2 us _ h2 r2=>
    rw [m8 r1 t]at h1;rw [m8 r2 r]at h2;cases l;cases j;obtain⟨o,m,p,_⟩:=I.tuple h1;obtain⟨h,f,n,_⟩:=I.tuple h2;exact Nh p n (mC m) (mC f) (by lia) ⟨.bl _,H,I,rfl,k F H _ (aM.refl F H) (.bl _)⟩
 ·cases c
theorem Mx(Z:X.calm=true)(hu:X.A.units+66<J8):dW X (.builtin "min") (gS X.K n4):=fun G s σ H xs us Q I O N=>by
 obtain⟨F,ds,q,z,R,e,k⟩:=N;unfold n4 at e
 split at e
 ·rename_i x y;obtain⟨a,e1,e⟩:=aN e;obtain⟨b,e2,e⟩:=aN e;cases e
  cases R with
  | cons M R=>
  cases R with
  | cons R2 R=>
  cases R;obtain⟨u1,u2,rfl,T,S⟩:=Vals.two O;obtain⟨E,rfl,h1⟩:=iH M e1;obtain⟨B,rfl,h2⟩:=iH R2 e2;cases T;cases S;obtain⟨U,u,m,_⟩:=I.tuple h1;obtain⟨J,t,l,_⟩:=I.tuple h2;have p:=mC u;have n:=mC t;have keep:∀{c:JY}{v:Array Value}{g:YP},U8 s.heap c v->iM s.heap g.heap->U8 g.heap c v:=fun{c v g} ⟨o,g1,g2⟩ od=>⟨o,od _ _ g1,g2⟩;refine Oe (bt:=fun i j=>HT.lexLt (if i=0 then a else b) (if j=0 then a else b)) (I.ok.hd Z) (fun i j x y g Q' E' od Y W r=>?_) fun v h' tk f od=>?_
  ·have get:∀{i:Nat}{x:Value},#[Value.ref E,Value.ref B][i]?=some x->(i=0/\x=.ref E) ∨ (i=1/\x=.ref B):=fun{i x} h=>by
    match i with
    | 0=>simp at h;exact .inl ⟨rfl,h.symm⟩
    | 1=>simp at h;exact .inr ⟨rfl,h.symm⟩
    | i+2=>simp at h
   have d:X.A.in1.units<J8:=by show X.A.units+1<J8;lia
   rcases get Y with⟨rfl,rfl⟩ | ⟨rfl,rfl⟩ <;> rcases get W with⟨rfl,rfl⟩ | ⟨rfl,rfl⟩
   ·exact HT.lt_tupInts (keep m od) (keep m od) p p d r
   ·exact HT.lt_tupInts (keep m od) (keep l od) p n d r
   ·exact HT.lt_tupInts (keep l od) (keep m od) n p d r
   ·exact HT.lt_tupInts (keep l od) (keep l od) n n d r
  ·by_cases c:HT.lexLt b a=true
   ·have w:Zr (fun i j=>HT.lexLt (if i=0 then a else b) (if j=0 then a else b)) 1=1:=by simp [Zr,c]
    rw [w]at f
    simp at f
    subst f
    exact⟨.ref B,H,I.kept od,rfl,k F H _ (aM.refl F H) (by rw [if_pos c];exact R2)⟩
   ·have w:Zr (fun i j=>HT.lexLt (if i=0 then a else b) (if j=0 then a else b)) 1=0:=by simp [Zr,c]
    rw [w]at f
    simp at f
    subst f
    exact⟨.ref E,H,I.kept od,rfl,k F H _ (aM.refl F H) (by rw [if_neg c];exact M)⟩
 ·cases e
def dSum:List D->Option D
 | [.list ds]=>(cZ ds).bind fun a=>if(decide (a.length<=1000) && a.all fun i=>decide (0<=i) && decide (i<=1000000))=true then some (.int a.sum)else none
 | _=>none
theorem Hr{c:List Int}(h:∀ i∈c,0<=i/\i<=1000000):∀ j,0<=preSum (fun i=>c.getD i 0) j/\preSum (fun i=>c.getD i 0) j<=1000000 * j
 | 0=>⟨Int.le_refl _,Int.le_refl _⟩
 | j+1=>by
  obtain⟨a,b⟩:=Hr h j
  have g:0<=c.getD j 0/\c.getD j 0<=1000000:=by
   rw [QP]
   cases e:c[j]? with
   | none=>exact⟨Int.le_refl _,by decide⟩
   | some i=>exact h i (QM e)
  unfold preSum
  exact⟨by lia,by push_cast;lia⟩
theorem Hs:∀(is:List Int) (c:Int),(∀ j,preSum (fun i=>(c::is).getD i 0) (j+1)=c+preSum (fun i=>is.getD i 0) j)
 | is,c,0=>by simp [preSum]
 | is,c,j+1=>by
  show preSum (fun i=>(c::is).getD i 0) (j+1)+(c::is).getD (j+1) 0=c+(preSum (fun i=>is.getD i 0) j+is.getD j 0)
  rw [Hs is c j]
  simp [Int.add_assoc]
theorem Hq:∀ is:List Int,preSum (fun i=>is.getD i 0) is.length=is.sum
 | []=>rfl
 | c::is=>by rw [QE,Hs,Hq is,YW]
theorem MA(hc:X.calm=true):dW X (.builtin "sum") (gS X.K dSum):=fun G s σ H xs us Q I Z U=>by
 obtain⟨F,ds,q,z,R,l,k⟩:=U;unfold dSum at l
 split at l
 ·rename_i dl;obtain⟨d,e1,l⟩:=aN l;by_cases c:(decide (d.length<=1000) && d.all fun i=>decide (0<=i) && decide (i<=1000000))=true
  ·rw [if_pos c]at l;cases l;obtain⟨T,n⟩:=QD.mp c;have T:=of_decide_eq_true T
   have n:∀ i∈d,0<=i/\i<=1000000:=fun i y=>by simpa using QZ.mp n i y
   cases R with
   | cons R1 R2=>
   cases R2
   cases R1 with
   | @lst a vs _ h1 r1=>
   obtain⟨u,rfl,ru⟩:=iK Z;cases ru;have r:=m8 r1 e1;subst r;obtain⟨f,m,p,_⟩:=I.list h1.sq;have M:=mC m;obtain⟨ol,x,_⟩:=id p.isList;have J:a<s.heap.objs.size:=Qs x;have W:=Walks.list (prog:=X.prog) (w:=X.w) (A:=X.A.in1) (by simp [I.ok.hd hc]) s.heap.objs.size a (Qu J) f.toArray
   have E:∀ i v,f.toArray[i]?=some v->∃ t,v=Value.int (d.getD i 0) t:=fun i v h=>by
    have h':f[i]?=some v:=by simpa using h
    have y:=(Qf.mp h').1
    have O:i<d.length:=by rw [<- M.length];exact y
    have g:(d.map V.int)[i]?=some (V.int d[i]):=by rw [QF,Qh O];rfl
    obtain⟨u,N,t,rt⟩:=m.get g;rw [h']at N;cases N
    exact⟨t,by rw [QP,Qh O];exact rt⟩
   have sz:f.toArray.size=d.length:=by rw [QA,M.length]
   refine call_sum_walk (Jl p.isList ⟨_,_,_,_,_,_,fun i=>d.getD i 0,rfl,W,⟨⟨_,Qr _ rfl,rfl,rfl⟩,p.isList.push _⟩,fun b B=>?_,E,fun j S=>?_,fun h' Y t' kp=>?_⟩)
   ·rw [Yp];rcases Qj.mp B with rfl | B
    ·exact YC _
    ·rw [Qd.mp B];exact YG J
   ·rw [sz]at S;have p1:=Hr n (j+1);have g:0<=d.getD j 0/\d.getD j 0<=1000000:=n _ (by rw [QP,Qh S];exact YB _);unfold InLong;dsimp only at p1 ⊢
    have e:((j+1:Nat):Int)<=1000:=by lia
    exact⟨⟨by lia,by lia⟩,by lia,by lia⟩
   ·rw [sz,Hq]
    refine⟨.int d.sum,H,?_,⟨t',rfl⟩,k F H _ (aM.refl F H) (.int _)⟩
    exact I.kept (t':=Y) (h':=h') fun b o e=>kp b o (by simp;exact Qu (Qs e)) (Qc _ e)
  ·rw [if_neg c]at l;cases l
 ·cases l
end
end LM
namespace DC
open PySem.Spec L2 DL ST SL EL TB TX
inductive lK(X:Cx):List (Option Expr)->List Expr->List (Str × D)->Prop
 | nil:lK X [] [] []
 | cons {x:Str}{j:Nat}{kp:Pos}{v:Expr}{g:aA->Option D}{d:D}{ks:List (Option Expr)}{vs:List Expr}{tb:List (Str × D)}:DE X v g->(∀ ρ,g ρ=some d)->lK X ks vs tb->lK X (some (.Constant (.str x) j kp)::ks) (v::vs) ((x,d)::tb)
abbrev p9:Str × V->Str × Value->Prop:=fun e kv=>e.1=kv.1/\RelV e.2 kv.2
def j4(P:J2)(w:J4)(a:JY)(es:List (Str × V)):HO:=.ext fun h=>(a == Zg)=false/\∃ kvs:List (Str × Value),h.DictOf (strKind P w) a kvs/\Paired p9 es kvs
theorem G0{P:J2}{w:J4}{H:Hp}{h:Heap}{a:JY}{es:List (Str × V)}{b:List (Str × Value)}(c:(a == Zg)=false)(d:h.DictOf (strKind P w) a b)(r:Paired p9 es b):eY P w H h a (j4 P w a es):=
 ⟨⟨c,b,d,r⟩,let⟨o,_,_,e,_⟩:=d;⟨o,e⟩,fun i g ⟨c,b,⟨o,es,f,e,q⟩,r⟩ k=>⟨c,b,⟨o,es,f,k _ e,q⟩,r⟩⟩
theorem FA:∀{kvs acc:List (Str × Value)},((acc++kvs).map (·.1)).Nodup->merged acc kvs=acc++kvs
 | [],acc,_=>by simp [merged]
 | (k,v)::r,acc,n=>by
  have c:(acc.any fun a=>a.1=k)=false:=by
   rw [List.any_eq_false];intro p b z;rw [Yb,Jm]at n;exact n.2.2 _ (QN.mpr ⟨p,b,rfl⟩) _ (QN.mpr ⟨(k,v),Qe,rfl⟩) (of_decide_eq_true z)
  show merged (stored acc k v) r=_
  unfold stored;rw [if_neg (by rw [c];exact Qx),FA (by rw [Q6];exact n),Q6];rfl
section
variable {X:Cx}{e:Expr}{ga:aA->Option D}{p pos:Pos}
theorem Np{B:Pos}{H₀:Hp}{ρ:aA}{pins:List (JY × Obj)}{σ:L2.St}:∀{ks:List (Option Expr)}{vs:List Expr}{tb:List (Str × D)},lK X ks vs tb->∀{F:JY->Prop}{H:Hp}{s:YP}{Q:List (Value × Value)->YP->Prop},Inv X pins σ H s->bL X.K F H H₀ σ ρ->
  (∀ F' H' l kvs es s',aM F F' H H'->Inv X pins σ H' s'->Carries (strKind X.prog X.w) l kvs->Paired p9 es kvs->Paired (fun(t:Str × D) (e:Str × V)=>t.1=e.1/\aV X.K F' H' t.2 e.2) tb es->Q l s')->JZ (J1 X.prog X.w) X.A (evalPairs (pairTrees ks vs X.env B)) Q X.xe s:=by
 intro ks vs tb D
 induction D with
 | nil=>exact fun{F H s Q} I S k=>pairTrees_nil_walk (k F H [] [] [] s (aM.refl F H) I trivial .nil .nil)
 | @cons x j kp v g d ks vs tb hv hg _ ih=>
  intro F H s Q I S k;refine pairTrees_cons_walk (bH (Hg (X:=X) (x:=x) (j:=j) (pos:=kp) pins s σ H (fun y f=>y=.str x/\f=H) I ⟨rfl,rfl⟩) fun M n h=>?_);obtain⟨y,f,G,p,u,z⟩:=h;subst u z;obtain⟨t,rfl⟩:=p;refine bH (hv pins n σ f (fun x b=>∃ a,aM F a f b/\aV X.K a b d x) G ⟨F,H₀,ρ,d,S,hg ρ,fun a b v E2 R2=>⟨a,E2,R2⟩⟩) fun m N h=>?_;obtain⟨i,b,E,o,a,E2,R2⟩:=h;refine ih E (S.ext E2) fun F' H' l kvs es s' E' J c q r=>?_;exact k F' H' _ ((x,m)::kvs) ((x,i)::es) s' (E2.trans E') J ⟨by simp [PySem.strKind,Value.isStrOf],rfl,c⟩ (.cons ⟨rfl,o⟩ q) (.cons ⟨rfl,R2.stay E'.stay⟩ r)
theorem G8{K:PySem.W.Frag}{F:JY->Prop}{H:Hp}:∀{tb:List (Str × D)}{es:List (Str × V)},Paired (fun(t:Str × D) (e:Str × V)=>t.1=e.1/\aV K F H t.2 e.2) tb es->tb.map (·.1)=es.map (·.1)
 | _,_,.nil=>rfl
 | _,_,.cons h t=>by rw [Qp,Qp,h.1,G8 t]
theorem He:∀{es:List (Str × V)}{kvs:List (Str × Value)},Paired p9 es kvs->es.map (·.1)=kvs.map (·.1)
 | _,_,.nil=>rfl
 | _,_,.cons h t=>by rw [Qp,Qp,h.1,He t]
theorem lK.keys{ks:List (Option Expr)}{vs:List Expr}{tb:List (Str × D)}(b:lK X ks vs tb):ks.all (·.isSome)=true/\ks.length=vs.length/\ks.length=tb.length:=by
 induction b with
 | nil=>exact⟨rfl,rfl,rfl⟩
 | cons _ _ _ a=>exact⟨by simpa using a.1,by simpa using a.2.1,by simpa using a.2.2⟩
theorem Pg{ks:List (Option Expr)}{vs:List Expr}{tb:List (Str × D)}{dp:Pos}(Dp:lK X ks vs tb)(Z:(tb.map (·.1)).Nodup)(h0:tb≠[])(hl:tb.length<=15):PE X (.Dict ks vs dp) (fun σ H Q=>∃ F H₀ ρ,bL X.K F H H₀ σ ρ /\
  ∀ F' H' p es,aM F F' H H'->H' p=some (j4 X.prog X.w p es)->Paired (fun(t:Str × D) (e:Str × V)=>t.1=e.1/\aV X.K F' H' t.2 e.2) tb es->Q (.ref p) H'):=fun d s σ H Q I E=>by
 obtain⟨F,H₀,ρ,S,R⟩:=E;obtain⟨W,U,B⟩:=Dp.keys;refine wpAny_Dict_walk (knd:=strKind X.prog X.w) W U (fun z=>by rw [z]at B;exact h0 (List.length_eq_zero_iff.mp B.symm)) (by lia) ?_;have m:H s.heap.objs.size=none:=I.hok.fresh (Ql _);have y:(s.heap.objs.size == Zg)=false:=beq_eq_false_iff_ne.mpr (Zy (Qu (u9 I)));have dd:(s.heap.push { cls:=.type "dict",data:=.dict #[] }).DictOf (strKind X.prog X.w) s.heap.objs.size []:=⟨_,#[],_,Qr _ rfl,⟨rfl,rfl,rfl⟩,rfl,fun x Y=>by simp at Y,.nil,.nil⟩;have I0:Inv X d σ (aZ H s.heap.objs.size (j4 X.prog X.w s.heap.objs.size [])) { s with heap:=s.heap.push { cls:=.type "dict",data:=.dict #[] } }:=I.laid (t':=s.toks) (fun b o q=>Qc _ q) (Ql _) (G0 y dd .nil);have E0:aM F F H (aZ H s.heap.objs.size (j4 X.prog X.w s.heap.objs.size [])):=aM.fresh m;generalize s.heap.objs.size=pp at *;refine Np Dp I0 (S.ext E0) fun F' H' l i es j E' I' c n r=>?_;have k:H' pp=some (j4 X.prog X.w pp []):=E'.same _ _ dY;obtain⟨⟨O,A,d0,M⟩,_⟩:=(show eY X.prog X.w H' j.heap pp (j4 X.prog X.w pp [])from I'.hok pp _ k);cases M
 refine⟨i,c,d0,fun h' g J=>?_⟩
 have N:((([]:List (Str × Value))++i).map (·.1)).Nodup:=by rw [Y5,<- He n,<- G8 r];exact Z
 rw [FA N,Y5]at g;have I4:Inv X d σ (aZ H' pp (j4 X.prog X.w pp es)) { j with heap:=h',toks:=j.toks+l.length }:=I'.write (x:=pp) (e:=pp) (t':=j.toks+l.length) (by rw [k];exact Z4) (.inl rfl) (fun c ob hc z=>(J.2 c hc).trans z) (let⟨o2,_,_,hq,_⟩:=g;⟨o2,hq⟩) (G0 y g n)
 have u:¬ F' pp:=fun f=>by
  rcases E'.new pp f with f | ⟨f,_⟩
  ·exact S.fz pp f m
  ·rw [dY]at f;cases f
 have T:cK X.K F' F' H' (aZ H' pp (j4 X.prog X.w pp es)):=⟨fun _ h=>h,fun a G h=>by
   rcases h with(h | ⟨o,h⟩) | h
   ·exact .inl (.inl (by rw [bI (by intro z;subst z;rw [k]at h;cases h)];exact h))
   ·exact .inl (.inr ⟨o,by rw [bI (by intro z;subst z;rw [k]at h;cases h)];exact h⟩)
   ·exact .inr h,fun a G f h=>by
   have v:a≠pp:=fun z=>u (by rw [<- z];exact f);rcases h with h | ⟨o,h⟩
   ·exact .inl (by rw [bI v];exact h)
   ·exact .inr ⟨o,by rw [bI v];exact h⟩,fun a φ f h=>by rw [bI (fun z=>u (by rw [<- z];exact f))];exact h⟩
 refine⟨.ref pp,_,I4,rfl,R F' _ pp es ((E0.trans E').turn m) dY (Paired.mapP r fun _ _ z=>⟨z.1,z.2.stay T⟩)⟩
def Ll(P:J2)(w:J4):R2:=fun x y H Q=>∃ a k es v,x=.ref a/\y=.str k/\H a=some (j4 P w a es)/\es.lookup k=some v/\Q v H
theorem Ow{k:Str}{v:V}{es:List (Str × V)}{a:List (Str × Value)}(t:Paired p9 es a)(h:es.lookup k=some v):∃ u,valueAt a k=some u/\RelV v u:=by
 induction t with
 | nil=>cases h
 | @cons e b es a r t ih=>
  obtain⟨x,y⟩:=e;obtain⟨j,u⟩:=b;obtain⟨i,g⟩:=r;cases i;rw [QW]at h;unfold valueAt;by_cases z:k=x
  ·rw [z,beq_self_eq_true]at h;cases h
   exact⟨u,by rw [List.find?_cons_of_pos (p:=fun b:Str × Value=>decide (b.1=k)) (decide_eq_true z.symm)];rfl,g⟩
  ·rw [beq_eq_false_iff_ne.mpr z]at h;obtain⟨c,f,d⟩:=ih h
   exact⟨c,by rw [List.find?_cons_of_neg (p:=fun b:Str × Value=>decide (b.1=k)) (fun q=>z (of_decide_eq_true q).symm)];exact f,d⟩
theorem IO:fW X (Ll X.prog X.w):=fun b c e s i H x y v u Q I m l j q=>by
 obtain⟨a,k,K,w,J,G,h,z,p⟩:=j;subst J G;cases m;obtain⟨t,rfl⟩:=l;obtain⟨⟨M,o,dd,n⟩,_⟩:=(show eY X.prog X.w H s.heap a (j4 X.prog X.w a K)from I.hok a _ h);obtain⟨u,E,B⟩:=Ow n z;have f:=dd.mapOf;have g:=f.typeIs;unfold Ua;refine Qa ?_;rw [JK g.not_modules];refine Qa (JF g PySem.F.slot_dict_getitem.lookup ?_)
 have fin:JZ (J1 X.prog X.w) X.A (UN c false (.ref a) (.str k t)) (fun r d=>JZ (J1 X.prog X.w) X.A (U3 b (.ref a) r >>= fun _=>pure r) (EP X e i Q) X.xe d) X.xe s:=by
  rw [q];refine UV ?_;refine wpAny_getItem_of (knd:=PySem.strKind X.prog X.w) (k:=k) (by simp [PySem.strKind,Value.isStrOf]) f E ?_;exact Qa (JM (Qb ⟨w,H,I.tok _,B,p⟩))
 first
  | exact Qb (Qa fin)
  | exact Qa (Qb (Qa fin))
  | exact Qa fin
theorem PR{K:PySem.W.Frag}{F:JY->Prop}{H:Hp}{k:Str}{d:D}{tb:List (Str × D)}{es:List (Str × V)}(t:Paired (fun(t:Str × D) (e:Str × V)=>t.1=e.1/\aV K F H t.2 e.2) tb es)(h:tb.lookup k=some d):∃ v,es.lookup k=some v/\aV K F H d v:=by
 induction t with
 | nil=>cases h
 | @cons a b tb es r t ih=>
  obtain⟨x,y⟩:=a;obtain⟨g,u⟩:=b;obtain⟨f,c⟩:=r;cases f;rw [QW]at h ⊢
  cases z:k == x with
  | true=>rw [z]at h;cases h;exact⟨u,rfl,c⟩
  | false=>rw [z]at h;exact ih h
theorem N2{ks:List (Option Expr)}{vs:List Expr}{tb:List (Str × D)}{t:Pos}(z:lK X ks vs tb)(l:DE X e ga)(i:(tb.map (·.1)).Nodup:=by decide)(n:tb≠[]:=by decide)(j:tb.length<=15:=by decide)(hs:rW e:=by exact fun _ _=>rfl):DE X (.Subscript (.Dict ks vs t) e pos) (lQ tb ga):=
 eQ (wE IO (Pg z i n j) l hs) fun A H Q f=>by
  obtain⟨F,b,c,d,S,q,k⟩:=f;obtain⟨h,s,q⟩:=aN q
  refine⟨F,b,c,S,fun x B a r E1 m g=>⟨x,b,c,h,S.ext E1,s,fun w u y E2 R2=>?_⟩⟩
  split at q
  ·cases R2;obtain⟨v,p,o⟩:=PR g q
   exact⟨a,_,r,v,rfl,rfl,E2.same _ _ m,p,k w u v (E1.trans E2) (o.stay E2.stay)⟩
  ·cases q
def BI(tb:List (Str × D)):It:=⟨fun i _=>i<tb.length,fun i H x a=>a=H/\∃ k d,tb[i]?=some (k,d)/\x=.str k,fun i _=>tb.length<=i⟩
theorem HB{K:PySem.W.Frag}{w:J4}{tb:List (Str × D)}{es:List Zz}(T:hU K w tb es):tb.length=es.length:=by
 induction T with
 | nil=>rfl
 | cons _ _ _ _ a=>simp [a]
theorem SW{K:PySem.W.Frag}{w:J4}{tb:List (Str × D)}{es:List Zz}(T:hU K w tb es):∀{i:Nat}{k:Str}{d:D},tb[i]?=some (k,d)->∃ e t,es[i]?=some e/\e.key=.str k t:=by
 induction T with
 | nil=>intro i k d h;simp at h
 | cons _ _ _ _ a=>
  intro i k d h
  cases i with
  | zero=>simp at h;obtain⟨rfl,rfl⟩:=h;exact⟨_,_,rfl,rfl⟩
  | succ i=>simpa using a (by simpa using h)
theorem Az{pins:List (JY × Obj)}{σ:L2.St}{H:Hp}{s:YP}{a:JY}{es:Array Zz}{ep:Nat}(I:Inv X pins σ H s)(c:X.K.lookup a=some ⟨.type "dict",none,.dict es ep,#[]⟩)(b:(a == Zg)=false):mN s.heap a es ep:=⟨b,_,I.kIn a _ c,⟨rfl,rfl,rfl⟩,rfl⟩
theorem Ti{P:J2}{w:J4}{K:PySem.W.Frag}{Y:Expr}{a it:JY}{tb:List (Str × D)}{es:Array Zz}{U:Nat}(N:K.lookup a=some ⟨.type "dict",none,.dict es U,#[]⟩)(M:(a == Zg)=false)(T:hU K w tb es.toList):jQ P w K Y (BI tb) [it] it (fun i h=>h.IsKeyIter it a i es.size U) where
 mem:=by simp
 obj:=fun i h f b j=>by
  have e:b=it:=by simpa using j
  subst e;obtain⟨o,e,c,d⟩:=f
  exact⟨o,e,fun v z=>by rw [d]at z;cases z⟩
 keep:=fun i h n f k=>let⟨o,e,c⟩:=f;⟨o,k it (by simp) o e,c⟩
 item:=by
  intro X u p x R i g s J H E I m f q;subst u p x;have O:i<tb.length:=q
  have sz:tb.length=es.size:=by rw [HB T];simp
  have rd:=Az I N M;obtain⟨G,F,f2,B,A,y⟩:=m it (by simp);refine FM f rd (by lia) fun n l Z=>?_;have I1:Inv X g J H { s with heap:=n }:=I.turned (t':=s.toks) (fun b o j e=>(Z.2 b j).trans e) G F B A y;obtain⟨o,e,c,d⟩:=id l
  have Q:tb[i]?=some (tb[i].1,tb[i].2):=by simp [O]
  obtain⟨en,t,S,g2⟩:=SW T Q
  have r:es[i]=en:=by
   have:es.toList[i]?=some es[i]:=by simp [show i<es.size by lia]
   rw [this]at S;exact QL S
  refine⟨_,rfl,pL (s:={ s with heap:=n }) e c d (by decide) ⟨.str tb[i].1,H,I1,?_,⟨rfl,_,_,Q,rfl⟩,l,fun b j=>(m b j).1⟩⟩
  rw [r,g2]
  exact⟨t,rfl⟩
 done:=by
  intro X u p x R i g s J H E I m f q;subst u p x;have O:tb.length<=i:=q
  have sz:tb.length=es.size:=by rw [HB T];simp
  have rd:=Az I N M;obtain⟨G,F,f2,B,A,y⟩:=m it (by simp);exact EI (I.ok.hd R) f rd (by lia) fun n eb=>⟨rfl,I.turned (t':=s.toks) (fun b o j e=>eb b o j e) G F B A y⟩
 self:=fun _ _ _ _ _ f h=>wpAny_pyIter_keyiter f h
def x6(tb:List (Str × D)):aA->Option (List D):=fun _=>some (tb.map fun e=>.str e.1)
theorem O1{K:PySem.W.Frag}{F:JY->Prop}{H:Hp}{tb:List (Str × D)}:lL K F H (tb.map fun e=>.str e.1) (BI tb):=fun h m T z i=>by
 refine⟨fun d a=>?_,fun g=>show tb.length<=i by simpa using g⟩
 rw [QF]at a
 cases e:tb[i]? with
 | none=>rw [e]at a;cases a
 | some j=>
  rw [e]at a;cases a
  refine⟨(Qf.mp e).1,fun x l y=>?_⟩
  obtain⟨f,k,d,b,c⟩:=y;subst f c;rw [e]at b;cases b
  exact⟨h,aM.refl _ _,.str _⟩
theorem Dt{n:Expr}{x:Str}{a:JY}{tb:List (Str × D)}(u:Gl X x)(t:X.mg x=some (.ref a))(T:oA X.K X.w a tb)(g:(a == Zg)=false)(y:(x == ("__debug__":Str))=false:=by decide):DI X n (.Name x p) (x6 tb):=by
 intro c s l H R I h;obtain⟨F,j,E,M,S,q,k⟩:=h;cases q;obtain⟨G,J,i,T⟩:=T;refine bH (Hd (v:=.ref a) u t rfl y c s l H (fun x d=>x=.ref a/\d=H) I ⟨rfl,rfl⟩) fun v f m=>?_;obtain⟨x,d,I1,r,A,B⟩:=m;subst A B;cases r;have rd:=Az I1 i g;refine Ga rd ⟨f.heap.objs.size,[f.heap.objs.size],_,_,d,rfl,I1.kept (t':=f.toks) fun b o e=>Qc _ e,Ti i g T,⟨_,Qr _ rfl,rfl,rfl⟩,fun b z=>?_,k F d _ (aM.refl F d) O1⟩
 have e:b=f.heap.objs.size:=by simpa using z
 subst e;exact I1.fpOk (Ql _) (I1.hok.fresh (Ql _))
end
end DC
namespace LM
open PySem.Spec L2 CL DL DC
theorem Oz{X:Cx}{N':List Str}{scope:ZK}{inner:List (Option Nat)}{x0:Str}(C:o9 X N' scope (none::inner))(h:scope.isCoroutine=false/\scope.isGenerator=false/\N'[0]?=some x0/\scope.names.lookup x0=some .local):vZ X N' scope inner x0:=
 ⟨C.kind,h.1,h.2.1,C.nocell,C.free,C.len,fun i j e=>C.out (i+1) j e,h.2.2⟩
end LM
namespace My
open PySem.Spec PySem.SeqAt L2 CL DL SD ZL SL EL DC EX TX TB TX MN LM
def iC:JY:=251
def lZ:Array Value:=kB ⟨160,48,0,0⟩ "way_down.<locals>.<lambda>"
def top(i:Nat):Zj:=PySem.Challenge.pw_lampfloor_k83_whole_quiet.main.body.getD i (.Pass ⟨0,0,0,0⟩)
structure Fo(K:PySem.W.Frag)(mg:Str->Option Value)(n:Str)(st:Zj)(ps:List Str)(a:JY)(d:Zu):Prop where
 F:mK K n n st a d
 m:mg n=some (.ref a)
 b:L2.Binds K d ps []
theorem cH{N P:List Str}{sc:ZK}(h:(sc.kind,sc.isCoroutine,sc.isGenerator,N.take P.length)=(.function,false,false,P))(q:N.Nodup/\(∀ x∈P,sc.names.lookup x=some .local ∨ sc.names.lookup x=some .cell)/\∀ y∈sc.names,y.2≠.free):bX N P sc:=by
 injection h with h1 h
 injection h with h2 h
 injection h with h3 h4
 exact⟨h1,h2,h3,q.1,h4,q.2.1,q.2.2⟩
theorem aF{X:Cx}{e:Expr}{es:List Expr}{ga:aA->Option D}{gr:aA->Option (List D)}(b:DE X e ga)(a:DA X es gr)(h:AM e=true):DA X (e::es) (aB ga gr):=NZ b a h
theorem dG{X:Cx}{es:List Expr}{gr:aA->Option (List D)}{x1 pos}(h:DA X es gr):DE X (.Tuple es x1 pos) (bV gr):=N6 h
theorem bJ{X:Cx}{e:Expr}{es:List Expr}{gr:aA->Option (List D)}{p pos:Pos}{k m n:Nat}{f:JY}{h:Zu}{g:List Str}{i:Zj}{x:Str}{G:List D->Option D}(F:Fo X.K X.mg x i g f h)(q:aQ X.prog X.w X.K X.mg X.base aR k f h g (aW X.K n G))(j:dC m X.A)(l:Gl X x)
  (o:DA X (e::es) gr) (a:∀ ρ ds,gr ρ=some ds->ds.length=n) (c:k<=m:=by decide) (d:(x == ("__debug__":Str))=false:=by decide) (he:J0 (e::es) X.env=(false,Zs e X.env)::J0 es X.env:=by rfl) (hpl:(Zo pos (J0 es X.env)).any (·.1)=false:=by rfl):DE X (.Call (.Name x p) (e::es) [] pos) (aJ G gr):=N0 q (j.mono c) l F.m F.F.kp F.b o a d he hpl
theorem IW:∀(ρ:aA) (ds:List D),aG ρ=some ds->ds.length=0:=fun _ _ h=>NB h
section
variable {a b c d e f:aA->Option D}
theorem fJ:∀(ρ:aA) (ds:List D),aB a aG ρ=some ds->ds.length=1:=vO IW
theorem dE:∀(ρ:aA) (ds:List D),aB a (aB b aG) ρ=some ds->ds.length=2:=vO fJ
theorem dP:∀(ρ:aA) (ds:List D),aB a (aB b (aB c aG)) ρ=some ds->ds.length=3:=vO dE
theorem qM:∀(ρ:aA) (ds:List D),aB a (aB b (aB c (aB d aG))) ρ=some ds->ds.length=4:=vO dP
end
abbrev y9:Zj:=top 6
abbrev uL:Zj:=top 12
abbrev uA:Zj:=top 14
abbrev zC:Zj:=top 16
abbrev yS:Zj:=top 17
abbrev yT:Zj:=top 25
abbrev yM:Zj:=top 28
abbrev y3:Zj:=top 44
abbrev uE:Zj:=top 47
abbrev zD:Zj:=top 53
abbrev yP:Zj:=top 7
abbrev yW:Zj:=top 13
abbrev y8:Zj:=top 19
abbrev uH:Zj:=top 29
abbrev uF:Zj:=top 30
abbrev zB:Zj:=top 35
abbrev yX:Zj:=top 45
abbrev uM:Zj:=top 48
abbrev yV:Zj:=top 50
abbrev yL:Zj:=top 8
abbrev yR:Zj:=top 20
abbrev yZ:Zj:=top 31
abbrev uO:Zj:=top 40
abbrev uP:Zj:=top 41
abbrev uJ:Zj:=top 46
abbrev y4:Zj:=top 52
abbrev yO:Zj:=top 9
abbrev yY:Zj:=top 36
abbrev zA:Zj:=top 10
abbrev uI:Zj:=top 37
abbrev yQ:Zj:=top 11
abbrev uB:Zj:=top 39
abbrev uN:Zj:=top 21
abbrev yU:Zj:=top 34
abbrev uD:Zj:=top 22
abbrev yK:Zj:=top 38
abbrev y7:Zj:=top 42
abbrev uC:Zj:=top 23
abbrev uG:Zj:=top 54
abbrev uK:Zj:=top 32
abbrev yN:Zj:=top 55
def i4:List (Str × D):=[("n",.tuple [.int 0,.int (-1)]),("e",.tuple [.int 1,.int 0]),("s",.tuple [.int 0,.int 1]),("w",.tuple [.int (-1),.int 0])]
def B9:List Str:=["thing"]
theorem LO:bX B9 ["thing"] (bB y9):=cH rfl (by decide +kernel)
def Er:aA->Option aP:=
  (bN (lG (tU "int" (eV 0)) (EG (tU "bool" (eV 0)))))
def oW:List D->Option D:=bU 1 Er
def xQ:List Str:=["floor","cells","x"]
theorem A1:bX xQ ["floor"] (bB uL):=cH rfl (by decide +kernel)
def DN:List Str:=["y","x"]
theorem Ra:DN.Nodup:=by decide +kernel
def A7:aA->Option aP:=
  (aO (jW 1 aG)
  (aO (eM (iW (aB (aE aK (eV 0) (eC (.int 0))) aG)) (bM 2) (oQ 1 (eA (dX (iW (aB (aE aK (eV 0) (eC (.int 1))) aG)) (bM 0) eT (bV (aB (eV 1) (aB (eV 0) aG))) [none,some 2]))))
  (bN (eV 1))))
def rF:List D->Option D:=bU 3 A7
def xF:List Str:=["things"]
theorem Lw:bX xF ["things"] (bB uA):=cH rfl (by decide +kernel)
def Dw:List Str:=["thing"]
theorem P0:Dw.Nodup:=by decide +kernel
def Eu:aA->Option aP:=
  (bN (aJ vD (aB (eA (dX (dH (eV 0)) (bM 0) eT (bV (aB (eV 0) (aB (eC (.bool true)) aG))) [none])) aG)))
def gL:List D->Option D:=bU 1 Eu
def Cc:List Str:=["one","other","far_x","far_y","way_x","way_y","gone_x","gone_y","cells","border_x","border_y"]
theorem jH:bX Cc ["one","other"] (bB zC):=cH rfl (by decide +kernel)
def A9:aA->Option aP:=
  (aO (bQ 2 (aJ qF (aB (aE j7 (aE aK (eV 1) (eC (.int 0))) (aE aK (eV 0) (eC (.int 0)))) aG)))
  (aO (bQ 3 (aJ qF (aB (aE j7 (aE aK (eV 1) (eC (.int 1))) (aE aK (eV 0) (eC (.int 1)))) aG)))
  (aO (bQ 4 (xZ (eB (aE j5 (aE aK (eV 1) (eC (.int 0))) (aE aK (eV 0) (eC (.int 0))))) (eC (.int 1)) (dJ dF (eC (.int 1)))))
  (aO (bQ 5 (xZ (eB (aE j5 (aE aK (eV 1) (eC (.int 1))) (aE aK (eV 0) (eC (.int 1))))) (eC (.int 1)) (dJ dF (eC (.int 1)))))
  (aO (bQ 6 (eC (.int 0)))
  (aO (bQ 7 (eC (.int 0)))
  (aO (jW 8 (aB (eV 0) aG))
  (aO (i5 (gQ (eB (aE hX (eV 6) (eV 2))) (eB (aE hX (eV 7) (eV 3)))) (aO (bQ 9 (aE cF (aE bP (aE cF (eC (.int 2)) (eV 6)) (eC (.int 1))) (eV 3)))
  (aO (bQ 10 (aE cF (aE bP (aE cF (eC (.int 2)) (eV 7)) (eC (.int 1))) (eV 2)))
  (aO (cG (eB (aE jA (eV 9) (eV 10))) (bQ 6 (aE bP (eV 6) (eC (.int 1)))) cR)
  (aO (cG (eB (aE jA (eV 10) (eV 9))) (bQ 7 (aE bP (eV 7) (eC (.int 1)))) cR)
  (jF 8 (bV (aB (aE bP (aE aK (eV 0) (eC (.int 0))) (aE cF (eV 4) (eV 6))) (aB (aE bP (aE aK (eV 0) (eC (.int 1))) (aE cF (eV 5) (eV 7))) aG)))))))) 900)
  (bN (eV 8))))))))))
def rG:List D->Option D:=bU 11 A9
def BW:List Str:=["cells","couples","here","there"]
theorem wP:bX BW ["cells"] (bB yS):=cH rfl (by decide +kernel)
def A8:aA->Option aP:=
  (aO (jW 1 aG)
  (aO (eM (qK (aB (eV 0) (aB (qI (eV 0) (oE (eC (.int 1))) qP) aG))) (jY 2 (fG (bM 2) (fG (bM 3) jX))) (cG (jR (eB (aE dZ (aE aK (eV 2) (eC (.int 0))) (aE aK (eV 3) (eC (.int 0))))) (eB (aE dZ (aE aK (eV 2) (eC (.int 1))) (aE aK (eV 3) (eC (.int 1)))))) (jF 1 (aJ vF (aB (aJ n5 (aB (fY (aB (bV (aB (aE aK (eV 2) (eC (.int 0))) (aB (aE aK (eV 3) (eC (.int 1))) aG))) (aB (bV (aB (aE aK (eV 3) (eC (.int 0))) (aB (aE aK (eV 2) (eC (.int 1))) aG))) aG))) aG)) aG))) cR))
  (bN (eV 1))))
def pB:List D->Option D:=bU 4 A8
def BX:List Str:=["one","other"]
theorem LB:bX BX ["one","other"] (bB yT):=cH rfl (by decide +kernel)
def D0:aA->Option aP:=
  (bN (aE bP (aE tT (aE j7 (aE aK (eV 0) (eC (.int 0))) (aE aK (eV 1) (eC (.int 0)))) (eC (.int 2))) (aE tT (aE j7 (aE aK (eV 0) (eC (.int 1))) (aE aK (eV 1) (eC (.int 1)))) (eC (.int 2)))))
def oX:List D->Option D:=bU 2 D0
def BQ:List Str:=["cell","word"]
theorem Lu:bX BQ ["cell","word"] (bB yM):=cH rfl (by decide +kernel)
def Eh:aA->Option aP:=
  (bN (bV (aB (aE bP (aE aK (eV 0) (eC (.int 0))) (aE aK (lQ i4 (eV 1)) (eC (.int 0)))) (aB (aE bP (aE aK (eV 0) (eC (.int 1))) (aE aK (lQ i4 (eV 1)) (eC (.int 1)))) aG))))
def kE:List D->Option D:=bU 2 Eh
def B5:List Str:=["_law_script","_law_k"]
theorem LL:bX B5 ["_law_script","_law_k"] (bB y3):=cH rfl (by decide +kernel)
def Ea:aA->Option aP:=
  (aO (cG (eB (aE gP (eV 0) (fY aG))) (bN (aE cF (eC (.int 7)) (eV 1))) cR)
  (bN (aE bP (aE aK (eV 0) (aE iP (eV 1) (aJ dO (aB (eV 0) aG)))) (aE cF (eC (.int 6553)) (aE lB (eV 1) (aJ dO (aB (eV 0) aG)))))))
def sF:List D->Option D:=bU 2 Ea
def xJ:List Str:=["_law_floor_here"]
theorem LC:bX xJ ["_law_floor_here"] (bB uE):=cH rfl (by decide +kernel)
def DB:List Str:=["_law_at_here","_law_floor_here"]
theorem P4:DB.Nodup:=by decide +kernel
def Eb:aA->Option aP:=
  (bN (eA (dX (iW (aB (aE cF (aE aK (eV 0) (eC (.int 0))) (aE aK (eV 0) (eC (.int 1)))) aG)) (bM 0) eT (bV (aB (aE lB (eV 0) (aE aK (eV 1) (eC (.int 1)))) (aB (aE iP (eV 0) (aE aK (eV 1) (eC (.int 1)))) aG))) [none,some 0])))
def sG:List D->Option D:=bU 1 Eb
def Cd:List Str:=["_law_cell_here","_law_step"]
theorem LQ:bX Cd ["_law_cell_here","_law_step"] (bB zD):=cH rfl (by decide +kernel)
def D9:aA->Option aP:=
  (bN (bV (aB (aE bP (aE aK (eV 0) (eC (.int 0))) (aE aK (eV 1) (eC (.int 0)))) (aB (aE bP (aE aK (eV 0) (eC (.int 1))) (aE aK (eV 1) (eC (.int 1)))) aG))))
def sE:List D->Option D:=bU 2 D9
def BT:List Str:=["thing"]
theorem Ly:bX BT ["thing"] (bB yP):=cH rfl (by decide +kernel)
def Es:aA->Option aP:=
  (aO (cG (gQ (hY (eB (tU "tuple" (eV 0)))) (eB (aE dZ (aJ dO (aB (eV 0) aG)) (eC (.int 2))))) (bN (eC (.bool false))) cR)
  (bN (lG (aJ oW (aB (aE aK (eV 0) (eC (.int 0))) aG)) (aJ oW (aB (aE aK (eV 0) (eC (.int 1))) aG)))))
def rL:List D->Option D:=bU 1 Es
def B0:List Str:=["floor"]
theorem LG:bX B0 ["floor"] (bB yW):=cH rfl (by decide +kernel)
def Ex:aA->Option aP:=
  (bN (Ap (Ao (tV (aB (aJ rF (aB (eV 0) aG)) aG)) (tV (aB (aE aK (eV 0) (eC (.int 2))) aG)))))
def fR:List D->Option D:=bU 1 Ex
def B8:List Str:=["solids","one","other","cells","cell","first","second"]
theorem sY:bX B8 ["solids","one","other"] (bB y8):=cH rfl (by decide +kernel)
def Bb:aA->Option aP:=
  (aO (bQ 3 (aJ rG (aB (eV 1) (aB (eV 2) aG))))
  (aO (eM (dH (qI (eV 3) qP (oE (dJ dF (eC (.int 1)))))) (bM 4) (cG (eB (aE (dN false) (eV 4) (eV 0))) (bN (eC (.bool false))) cR))
  (aO (eM (dH (aJ pB (aB (eV 3) aG))) (jY 2 (fG (bM 5) (fG (bM 6) jX))) (cG (jR (eB (aE (dN false) (eV 5) (eV 0))) (eB (aE (dN false) (eV 6) (eV 0)))) (bN (eC (.bool false))) cR))
  (bN (eC (.bool true))))))
def nW:List D->Option D:=bU 7 Bb
def xM:List Str:=["cell"]
theorem LH:bX xM ["cell"] (bB uH):=cH rfl (by decide +kernel)
def DH:List Str:=["word","cell"]
theorem P7:DH.Nodup:=by decide +kernel
def Eg:aA->Option aP:=
  (bN (eA (dX (x6 i4) (bM 0) eT (aJ kE (aB (eV 1) (aB (eV 0) aG))) [none,some 0])))
def nV:List D->Option D:=bU 1 Eg
def xK:List Str:=["ground","cell"]
theorem LE:bX xK ["ground","cell"] (bB uF):=cH rfl (by decide +kernel)
def DD:List Str:=["word","cell","ground"]
theorem P5:DD.Nodup:=by decide +kernel
def D1:aA->Option aP:=
  (bN (eA (dX (x6 i4) (bM 0) (eB (aE (dN false) (aJ kE (aB (eV 1) (aB (eV 0) aG))) (eV 2))) (bV (aB (eV 0) (aB (aJ kE (aB (eV 1) (aB (eV 0) aG))) aG))) [none,some 1,some 0])))
def iT:List D->Option D:=bU 2 D1
def Cb:List Str:=["eye","cell","step","x","y"]
theorem wS:bX Cb ["eye","cell"] (bB zB):=cH rfl (by decide +kernel)
def En:aA->Option aP:=
  (aO (bQ 2 (aJ kE (aB (bV (aB (eC (.int 0)) (aB (eC (.int 0)) aG))) (aB (aE aK (eV 0) (eC (.int 1))) aG))))
  (aO (bQ 3 (aE j7 (aE aK (eV 1) (eC (.int 0))) (aE aK (aE aK (eV 0) (eC (.int 0))) (eC (.int 0)))))
  (aO (bQ 4 (aE j7 (aE aK (eV 1) (eC (.int 1))) (aE aK (aE aK (eV 0) (eC (.int 0))) (eC (.int 1)))))
  (bN (aE jA (aJ qF (aB (aE j7 (aE cF (eV 3) (aE aK (eV 2) (eC (.int 1)))) (aE cF (eV 4) (aE aK (eV 2) (eC (.int 0))))) aG)) (aE bP (aE cF (eV 3) (aE aK (eV 2) (eC (.int 0)))) (aE cF (eV 4) (aE aK (eV 2) (eC (.int 1))))))))))
def oV:List D->Option D:=bU 5 En
def B2:List Str:=["_law_script","_law_k","_law_many","_law_cell_here"]
theorem A0:bX B2 ["_law_script","_law_k","_law_many"] (bB yX):=cH rfl (by decide +kernel)
def Ec:aA->Option aP:=
  (aO (bQ 3 (aE iP (aE bP (aE cF (aE iP (aJ sF (aB (eV 0) (aB (eV 1) aG))) (eC (.int 2147483563))) (eC (.int 69069))) (aE cF (eC (.int 104723)) (aE bP (eV 1) (eC (.int 1))))) (eC (.int 2147483563))))
  (aO (bQ 3 (aE iP (aE bP (aE cF (eV 3) (eV 3)) (aE lB (eV 3) (eC (.int 3)))) (eC (.int 2147483399))))
  (bN (aE iP (aE lB (aE iP (aE bP (aE cF (eV 3) (eV 3)) (aE lB (eV 3) (eC (.int 7)))) (eC (.int 2147483647))) (eC (.int 11))) (eV 2)))))
def dB:List D->Option D:=bU 4 Ec
def xR:List Str:=["_law_floor_here"]
theorem LN:bX xR ["_law_floor_here"] (bB uM):=cH rfl (by decide +kernel)
def DP:List Str:=["_law_cell_here","_law_floor_here"]
theorem Rb:DP.Nodup:=by decide +kernel
def Ef:aA->Option aP:=
  (bN (eA (dX (dH (aJ sG (aB (eV 0) aG))) (bM 0) (eB (aE (i9 true) (eV 0) (aE aK (eV 1) (eC (.int 2))))) (eV 0) [none,some 0])))
def nU:List D->Option D:=bU 1 Ef
def BZ:List Str:=["_law_floor_here","_law_cell_here","_law_word","_law_there"]
theorem GX:bX BZ ["_law_floor_here","_law_cell_here","_law_word"] (bB yV):=cH rfl (by decide +kernel)
def A5:aA->Option aP:=
  (aO (bQ 3 (aJ sE (aB (eV 1) (aB (lQ [("n",.tuple [.int 0,.int (-1)]),("e",.tuple [.int 1,.int 0]),("s",.tuple [.int 0,.int 1]),("w",.tuple [.int (-1),.int 0])] (eV 2)) aG))))
  (aO (cG (gQ (eB (aE (i9 false) (eV 3) (aE aK (eV 0) (eC (.int 2))))) (gQ (hY (eB (jZ jA hX (eC (.int 0)) (aE aK (eV 3) (eC (.int 0))) (aE aK (eV 0) (eC (.int 0)))))) (hY (eB (jZ jA hX (eC (.int 0)) (aE aK (eV 3) (eC (.int 1))) (aE aK (eV 0) (eC (.int 1)))))))) (bN (eC .none)) cR)
  (bN (eV 3))))
def kD:List D->Option D:=bU 4 A5
def BP:List Str:=["floor","thing"]
theorem Ls:bX BP ["floor","thing"] (bB yL):=cH rfl (by decide +kernel)
def Eo:aA->Option aP:=
  (aO (cG (hY (eB (aJ rL (aB (eV 1) aG)))) (bN (eC (.bool false))) cR)
  (bN (lG (jZ jA hX (eC (.int 0)) (aE aK (eV 1) (eC (.int 0))) (aE aK (eV 0) (eC (.int 0)))) (jZ jA hX (eC (.int 0)) (aE aK (eV 1) (eC (.int 1))) (aE aK (eV 0) (eC (.int 1)))))))
def rJ:List D->Option D:=bU 2 Eo
def BV:List Str:=["solids","one","other"]
theorem LA:bX BV ["solids","one","other"] (bB yR):=cH rfl (by decide +kernel)
def DZ:aA->Option aP:=
  (bN (lG (aE (dN true) (eV 2) (eV 0)) (aJ nW (aB (eV 0) (aB (eV 1) (aB (eV 2) aG))))))
def rN:List D->Option D:=bU 3 DZ
def B4:List Str:=["ground","start","ways","reached","farther","cell","word","there"]
theorem mJ:bX B4 ["ground","start"] (bB yZ):=cH rfl (by decide +kernel)
def D4:aA->Option aP:=
  (aO (wN 2 (eV 1) (eC (.str "")))
  (aO (bQ 3 (fY (aB (eV 1) aG)))
  (aO (i5 (eB (aE dZ (eV 3) (fY aG))) (aO (jW 4 aG)
  (aO (eM (dH (eV 3)) (bM 5) (eM (dH (aJ iT (aB (eV 0) (aB (eV 5) aG)))) (jY 2 (fG (bM 6) (fG (bM 7) jX))) (cG (eB (aE (dN true) (eV 7) (eV 2))) (aO (lY 2 (eV 7) (aE lA (kJ 2 (eV 5)) (eV 6)))
  (jF 4 (eV 7))) cR)))
  (jV 4 (bQ 3 (eV 4))))) 900)
  (bN (eV 2)))))
def rS:List D->Option D:=bU 8 D4
def xT:List Str:=["times","goal","loads","waiting","cell","load","there","longer"]
theorem nM:bX xT ["times","goal"] (bB uO):=cH rfl (by decide +kernel)
def DR:List Str:=["spot","waiting"]
theorem Re:DR.Nodup:=by decide +kernel
def Et:aA->Option aP:=
  (aO (GS 2)
  (aO (wN 3 (eV 1) (bV (aB (aE fN (eV 0) (eV 1)) (aB (eC (.int 0)) aG))))
  (aO (i5 (eB (aE j5 (aJ pF (aB (eV 3) aG)) (eC (.int 0)))) (aO (nL 4 (aE aK (aJ rY (aB (eA (dX (mU (eV 3)) (bM 0) eT (bV (aB (aE fN (eV 1) (eV 0)) (aB (eV 0) aG))) [none,some 3])) aG)) (eC (.int 1))))
  (aO (t9 5 3 (eV 4))
  (aO (mI 2 (eV 4) (eV 5))
  (eM (dH (aJ nV (aB (eV 4) aG))) (bM 6) (cG (jR (eB (aE (dN false) (eV 6) (eV 0))) (eB (aE (dN true) (eV 6) (eV 2)))) (aO (bQ 7 (bV (aB (aE bP (aE aK (eV 5) (eC (.int 0))) (aE fN (eV 0) (eV 6))) (aB (aE bP (aE aK (eV 5) (eC (.int 1))) (eC (.int 1))) aG))))
  (mI 3 (eV 6) (aJ n4 (aB (eV 7) (aB (mS (eV 3) (eV 6) (eV 7)) aG))))) cR))))) 900)
  (bN (eV 2)))))
def rM:List D->Option D:=bU 8 Et
def xU:List Str:=["loads","one","other","way","here","step"]
theorem p6:bX xU ["loads","one","other"] (bB uP):=cH rfl (by decide +kernel)
def DU:List Str:=["ahead","loads"]
theorem zQ4:DU.Nodup:=by decide +kernel
def D3:aA->Option aP:=
  (aO (bQ 3 (eC (.str "")))
  (aO (bQ 4 (eV 1))
  (aO (i5 (eB (aE dZ (eV 4) (eV 2))) (aO (bQ 5 (vP [some 0] (aJ iT (aB (eV 0) (aB (eV 4) aG))) (aE fN (eV 1) (aE aK (eV 0) (eC (.int 1))))))
  (aO (bQ 3 (aE lA (eV 3) (aE aK (eV 5) (eC (.int 0)))))
  (bQ 4 (aE aK (eV 5) (eC (.int 1)))))) 900)
  (bN (eV 3)))))
def rR:List D->Option D:=bU 6 D3
def xO:List Str:=["_law_script","_law_at_here","_law_most","_law_wide","_law_high","_law_rate","_law_shuts","_law_x"]
theorem p4:bX xO ["_law_script","_law_at_here","_law_most"] (bB uJ):=cH rfl (by decide +kernel)
def DK:List Str:=["_law_y","_law_x","_law_script","_law_rate","_law_at_here"]
theorem P8:DK.Nodup:=by decide +kernel
def A6:aA->Option aP:=
  (aO (bQ 3 (aE bP (eC (.int 1)) (aJ dB (aB (eV 0) (aB (eV 1) (aB (eV 2) aG))))))
  (aO (bQ 4 (aE bP (eC (.int 1)) (aJ dB (aB (eV 0) (aB (aE bP (eV 1) (eC (.int 1))) (aB (eV 2) aG))))))
  (aO (bQ 5 (aE aK (fY (aB (eC (.int 2)) (aB (eC (.int 3)) (aB (eC (.int 3)) (aB (eC (.int 5)) (aB (eC (.int 9)) aG)))))) (aJ dB (aB (eV 0) (aB (aE bP (eV 1) (eC (.int 2))) (aB (eC (.int 5)) aG))))))
  (aO (jW 6 aG)
  (aO (eM (iW (aB (eV 3) aG)) (bM 7) (oQ 6 (eA (dX (iW (aB (eV 4) aG)) (bM 0) (eB (aE gP (aJ dB (aB (eV 2) (aB (aE bP (aE bP (aE bP (eV 4) (eC (.int 3))) (aE cF (eC (.int 8)) (eV 1))) (eV 0)) (aB (eV 3) aG)))) (eC (.int 0)))) (bV (aB (eV 1) (aB (eV 0) aG))) [none,some 7,some 0,some 5,some 1]))))
  (bN (bV (aB (eV 3) (aB (eV 4) (aB (aJ vF (aB (eV 6) aG)) aG))))))))))
def pA:List D->Option D:=bU 8 A6
def B6:List Str:=["_law_script","_law_at_here","_law_floor_here","_law_cells_here","_law_found","_law_k","_law_cell_here","_law_way"]
theorem p5:bX B6 ["_law_script","_law_at_here","_law_floor_here"] (bB y4):=cH rfl (by decide +kernel)
def Ed:aA->Option aP:=
  (aO (bQ 3 (aJ nU (aB (eV 2) aG)))
  (aO (jW 4 aG)
  (aO (cG (eB (aE dZ (eV 3) (fY aG))) (eM (iW (aB (aJ dB (aB (eV 0) (aB (eV 1) (aB (eC (.int 4)) aG)))) aG)) (bM 5) (aO (bQ 6 (aE aK (eV 3) (aJ dB (aB (eV 0) (aB (aE bP (aE bP (eV 1) (eC (.int 1))) (aE cF (eC (.int 3)) (eV 5))) (aB (aJ dO (aB (eV 3) aG)) aG))))))
  (aO (bQ 7 (aE j6 (eC (.str "nesw")) (aJ dB (aB (eV 0) (aB (aE bP (aE bP (eV 1) (eC (.int 2))) (aE cF (eC (.int 3)) (eV 5))) (aB (eC (.int 4)) aG))))))
  (jF 4 (bV (aB (eV 6) (aB (eV 7) (aB (aE bP (eC (.int 1)) (aJ dB (aB (eV 0) (aB (aE bP (aE bP (eV 1) (eC (.int 3))) (aE cF (eC (.int 3)) (eV 5))) (aB (eC (.int 5)) aG))))) aG)))))))) cR)
  (bN (eV 4)))))
def rE:List D->Option D:=bU 8 Ed
def BS:List Str:=["floor","cell"]
theorem Lx:bX BS ["floor","cell"] (bB yO):=cH rfl (by decide +kernel)
def EC:aA->Option aP:=
  (cG (hY (eB (aJ rJ (aB (eV 0) (aB (eV 1) aG))))) (fun _=>none) cR)
def nY:List D->Option D:=bU 2 EC
def B3:List Str:=["solids","eye","cell"]
theorem LK:bX B3 ["solids","eye","cell"] (bB yY):=cH rfl (by decide +kernel)
def Ei:aA->Option aP:=
  (aO (cG (gQ (hY (eB (aJ oV (aB (eV 1) (aB (eV 2) aG))))) (eB (aE j5 (aJ oX (aB (aE aK (eV 1) (eC (.int 0))) (aB (eV 2) aG))) (aE cF (aE aK (eV 1) (eC (.int 2))) (aE aK (eV 1) (eC (.int 2))))))) (bN (eC (.bool false))) cR)
  (bN (aJ rN (aB (eV 0) (aB (aE aK (eV 1) (eC (.int 0))) (aB (eV 2) aG))))))
def rH:List D->Option D:=bU 3 Ei
def Ca:List Str:=["floor","cell"]
theorem LP:bX Ca ["floor","cell"] (bB zA):=cH rfl (by decide +kernel)
def Ep:aA->Option aP:=
  (aO (iJ (aJ nY (aB (eV 0) (aB (eV 1) aG))))
  (bN (aE (i9 false) (eV 1) (aE aK (eV 0) (eC (.int 2))))))
def rK:List D->Option D:=bU 2 Ep
def xN:List Str:=["solids","eyes","cell"]
theorem LJ:bX xN ["solids","eyes","cell"] (bB uI):=cH rfl (by decide +kernel)
def DJ:List Str:=["number","eye","solids","cell"]
theorem FF:DJ.Nodup:=by decide +kernel
def Ev:aA->Option aP:=
  (bN (eA (dX (rA (aB (eV 1) aG)) (jY 2 (fG (bM 0) (fG (bM 1) jX))) (eB (aJ rH (aB (eV 2) (aB (eV 1) (aB (eV 3) aG))))) (eV 0) [none,none,some 0,some 2])))
def l5:List D->Option D:=bU 3 Ev
def BU:List Str:=["floor","cell"]
theorem Lz:bX BU ["floor","cell"] (bB yQ):=cH rfl (by decide +kernel)
def EB:aA->Option aP:=
  (cG (eB (aJ rK (aB (eV 0) (aB (eV 1) aG)))) (fun _=>none) cR)
def iD:List D->Option D:=bU 2 EB
def xG:List Str:=["floor","eyes","solids"]
theorem GU:bX xG ["floor","eyes"] (bB uB):=cH rfl (by decide +kernel)
def Dx:List Str:=["cell","solids","eyes"]
theorem P1:Dx.Nodup:=by decide +kernel
def D2:aA->Option aP:=
  (aO (bQ 2 (aJ gL (aB (aE aK (eV 0) (eC (.int 2))) aG)))
  (bN (aJ vD (aB (eA (dX (dH (aJ fR (aB (eV 0) aG))) (bM 0) eT (bV (aB (eV 0) (aB (aJ dO (aB (aJ l5 (aB (eV 1) (aB (eV 2) (aB (eV 0) aG)))) aG)) aG))) [none,some 2,some 1])) aG))))
def rQ:List D->Option D:=bU 3 D2
def xS:List Str:=["floor","cell","solids"]
theorem GZ:bX xS ["floor","cell"] (bB uN):=cH rfl (by decide +kernel)
def DQ:List Str:=["other","solids","cell"]
theorem Rc:DQ.Nodup:=by decide +kernel
def Ba:aA->Option aP:=
  (aO (iJ (aJ iD (aB (eV 0) (aB (eV 1) aG))))
  (aO (bQ 2 (aJ gL (aB (aE aK (eV 0) (eC (.int 2))) aG)))
  (bN (eA (dX (dH (aJ fR (aB (eV 0) aG))) (bM 0) (eB (aJ nW (aB (eV 1) (aB (eV 2) (aB (eV 0) aG))))) (eV 0) [none,some 2,some 1])))))
def pD:List D->Option D:=bU 3 Ba
def BY:List Str:=["floor","eyes","eye"]
theorem GV:bX BY ["floor","eyes"] (bB yU):=cH rfl (by decide +kernel)
def EA:aA->Option aP:=
  (eM (dH (eV 1)) (bM 2) (iJ (aJ iD (aB (eV 0) (aB (aE aK (eV 2) (eC (.int 0))) aG)))))
def nX:List D->Option D:=bU 3 EA
def xI:List Str:=["floor","cells","times","cell","other"]
theorem wQ:bX xI ["floor","cells"] (bB uD):=cH rfl (by decide +kernel)
def Dz:List Str:=["cell"]
theorem P3:Dz.Nodup:=by decide +kernel
def Bg:aA->Option aP:=
  (aO (wM 2 (aB (eA (dX (dH (aJ fR (aB (eV 0) aG))) (bM 0) eT (bV (aB (eV 0) (aB (eC (.int 0)) aG))) [none])) aG))
  (aO (eM (dH (eV 1)) (bM 3) (eM (dH (aJ pD (aB (eV 0) (aB (eV 3) aG)))) (bM 4) (lY 2 (eV 4) (aE bP (kJ 2 (eV 4)) (eC (.int 1))))))
  (bN (eV 2))))
def rP:List D->Option D:=bU 5 Bg
def BO:List Str:=["floor","eyes","cell"]
theorem Lr:bX BO ["floor","eyes","cell"] (bB yK):=cH rfl (by decide +kernel)
def El:aA->Option aP:=
  (aO (iJ (aJ nX (aB (eV 0) (aB (eV 1) aG))))
  (aO (iJ (aJ nY (aB (eV 0) (aB (eV 2) aG))))
  (bN (aJ l5 (aB (aJ gL (aB (aE aK (eV 0) (eC (.int 2))) aG)) (aB (eV 1) (aB (eV 2) aG)))))))
def pC:List D->Option D:=bU 3 El
def B7:List Str:=["floor","eyes","one","other","loads"]
theorem GY:bX B7 ["floor","eyes","one","other"] (bB y7):=cH rfl (by decide +kernel)
def Ez:aA->Option aP:=
  (aO (iJ (aJ iD (aB (eV 0) (aB (eV 2) aG))))
  (aO (iJ (aJ iD (aB (eV 0) (aB (eV 3) aG))))
  (aO (iJ (aJ nX (aB (eV 0) (aB (eV 1) aG))))
  (aO (bQ 4 (aJ rM (aB (aJ rQ (aB (eV 0) (aB (eV 1) aG))) (aB (eV 3) aG))))
  (aO (cG (eB (aE (dN true) (eV 2) (eV 4))) (fun _=>none) cR)
  (bN (bV (aB (aE aK (aE fN (eV 4) (eV 2)) (eC (.int 0))) (aB (aJ rR (aB (eV 4) (aB (eV 2) (aB (eV 3) aG)))) aG)))))))))
def jI:List D->Option D:=bU 5 Ez
def xH:List Str:=["floor","cells","times"]
theorem GW:bX xH ["floor","cells"] (bB uC):=cH rfl (by decide +kernel)
def Dy:List Str:=["cell","times"]
theorem P2:Dy.Nodup:=by decide +kernel
def Bf:aA->Option aP:=
  (aO (bQ 2 (aJ rP (aB (eV 0) (aB (eV 1) aG))))
  (bN (eA (dX (mU (eV 2)) (bM 0) (eB (aE j5 (aE fN (eV 1) (eV 0)) (eC (.int 0)))) (eV 0) [none,some 2]))))
def rO:List D->Option D:=bU 3 Bf
def xL:List Str:=["_law_floor_here","_law_eyes_here","_law_cells_here"]
theorem LF:bX xL ["_law_floor_here","_law_eyes_here","_law_cells_here"] (bB uG):=cH rfl (by decide +kernel)
def DF:List Str:=["_law_cell_here","_law_floor_here","_law_eyes_here"]
theorem P6:DF.Nodup:=by decide +kernel
def Ee:aA->Option aP:=
  (bN (aJ dSum (aB (eA (dX (dH (eV 2)) (bM 0) eT (aJ dO (aB (aJ pC (aB (eV 1) (aB (eV 2) (aB (eV 0) aG)))) aG)) [none,some 0,some 1])) aG)))
def l4:List D->Option D:=bU 3 Ee
def xP:List Str:=["floor","watchers","one","other","watched","hidden","ways"]
theorem wR:bX xP ["floor","watchers","one","other"] (bB uK):=cH rfl (by decide +kernel)
def DM:List Str:=["cell","watched"]
theorem P9:DM.Nodup:=by decide +kernel
def Em:aA->Option aP:=
  (aO (iJ (aJ iD (aB (eV 0) (aB (eV 2) aG))))
  (aO (iJ (aJ iD (aB (eV 0) (aB (eV 3) aG))))
  (aO (bQ 4 (aJ gL (aB (aJ rO (aB (eV 0) (aB (eV 1) aG))) aG)))
  (aO (bQ 5 (aJ gL (aB (eA (dX (dH (aJ fR (aB (eV 0) aG))) (bM 0) (eB (aE (dN true) (eV 0) (eV 1))) (eV 0) [none,some 4])) aG)))
  (aO (cG (eB (aE (dN true) (eV 2) (eV 5))) (fun _=>none) cR)
  (aO (bQ 6 (aJ rS (aB (eV 5) (aB (eV 2) aG))))
  (aO (cG (eB (aE (dN true) (eV 3) (eV 6))) (fun _=>none) cR)
  (bN (aE fN (eV 6) (eV 3))))))))))
def pE:List D->Option D:=bU 7 Em
def BR:List Str:=["_law_script","_law_floor_here","_law_cells_here","_law_eyes_here","_law_drawn_here","_law_k","_law_there","_law_often_here","_law_way","_law_trodden","_law_word","_law_back","_law_more"]
theorem i1:bX BR ["_law_script"] (bB yN):=cH rfl (by decide +kernel)
def x5:aA->Option aP:=
  (aO (bQ 1 (aJ pA (aB (eV 0) (aB (eC (.int 0)) (aB (eC (.int 4)) aG)))))
  (aO (bQ 2 (aJ nU (aB (eV 1) aG)))
  (aO (cG (eB (aE gP (eV 2) (fY aG))) (bN (eC (.bool true))) cR)
  (aO (bQ 3 (aJ rE (aB (eV 0) (aB (eC (.int 60)) (aB (eV 1) aG)))))
  (aO (jW 4 (aB (aE aK (eV 2) (aJ dB (aB (eV 0) (aB (eC (.int 72)) (aB (aJ dO (aB (eV 2) aG)) aG))))) aG))
  (aO (eM (iW (aB (aJ Ag (aB (eC (.int 1)) (aB (aJ Ah (aB (eC (.int 12)) (aB (aJ dO (aB (eV 0) aG)) aG))) aG))) aG)) (bM 5) (aO (nL 6 (aJ kD (aB (eV 1) (aB (aE aK (eV 4) (dJ dF (eC (.int 1)))) (aB (aE j6 (eC (.str "nesw")) (aJ dB (aB (eV 0) (aB (aE bP (eC (.int 80)) (eV 5)) (aB (eC (.int 4)) aG))))) aG)))))
  (cG (eB (aE rZ (eV 6) (eC .none))) (jF 4 (eV 6)) cR)))
  (jV 4 (aO (qR (aJ jI (aB (eV 1) (aB (eV 3) (aB (aE aK (eV 4) (eC (.int 0))) (aB (aE aK (eV 4) (dJ dF (eC (.int 1)))) aG))))) (jY 2 (fG (bM 7) (fG (bM 8) jX))))
  (jV 4 (aO (jW 9 (aB (aE aK (eV 4) (eC (.int 0))) aG))
  (aO (eM (qJ (eV 8)) (bM 10) (aO (nK 9 (aJ kD (aB (eV 1) (aB (aE aK (eV 9) (dJ dF (eC (.int 1)))) (aB (eV 10) aG)))))
  (cG (eB (aE qH (aE aK (eV 9) (dJ dF (eC (.int 1)))) (eC .none))) (bN (eC (.bool false))) cR)))
  (aO (cG (gQ (eB (aE dZ (aE aK (eV 9) (dJ dF (eC (.int 1)))) (aE aK (eV 4) (dJ dF (eC (.int 1)))))) (eB (aE dZ (aJ l4 (aB (eV 1) (aB (eV 3) (aB (eV 9) aG)))) (eV 7)))) (bN (eC (.bool false))) cR)
  (aO (cG (eB (aE qG (bV (aB (eV 7) (aB (aJ lC (aB (eV 8) aG)) aG))) (bV (aB (aJ l4 (aB (eV 1) (aB (eV 3) (aB (eV 4) aG)))) (aB (aE j7 (aJ dO (aB (eV 4) aG)) (eC (.int 1))) aG))))) (bN (eC (.bool false))) cR)
  (jV 4 (aO (bQ 11 (aJ jI (aB (eV 1) (aB (eV 3) (aB (aE aK (eV 4) (dJ dF (eC (.int 1)))) (aB (aE aK (eV 4) (eC (.int 0))) aG))))))
  (aO (cG (eB (aE dZ (bV (aB (aE aK (eV 11) (eC (.int 0))) (aB (aJ lC (aB (aE aK (eV 11) (eC (.int 1))) aG)) aG))) (bV (aB (eV 7) (aB (aJ lC (aB (eV 8) aG)) aG))))) (bN (eC (.bool false))) cR)
  (aO (bQ 12 (aE bP (eV 3) (fY (aB (bV (aB (aE aK (eV 2) (aJ dB (aB (eV 0) (aB (eC (.int 73)) (aB (aJ dO (aB (eV 2) aG)) aG))))) (aB (aE j6 (eC (.str "nesw")) (aJ dB (aB (eV 0) (aB (eC (.int 74)) (aB (eC (.int 4)) aG))))) (aB (eC (.int 3)) aG)))) aG))))
  (aO (cG (eB (aE hX (aE aK (aJ jI (aB (eV 1) (aB (eV 12) (aB (aE aK (eV 4) (eC (.int 0))) (aB (aE aK (eV 4) (dJ dF (eC (.int 1)))) aG))))) (eC (.int 0))) (eV 7))) (bN (eC (.bool false))) cR)
  (bN (aE gP (aJ jI (aB (eV 1) (aB (fY aG) (aB (aE aK (eV 4) (eC (.int 0))) (aB (aE aK (eV 4) (dJ dF (eC (.int 1)))) aG))))) (bV (aB (eC (.int 0)) (aB (aJ pE (aB (eV 1) (aB (fY aG) (aB (aE aK (eV 4) (eC (.int 0))) (aB (aE aK (eV 4) (dJ dF (eC (.int 1)))) aG))))) aG)))))))))))))))))))))))
def mL:List D->Option D:=bU 13 x5
structure xX(K:PySem.W.Frag)(mg:Str->Option Value)(a:Nat->JY)(d:Nat->Zu)(w:J4)(ta:Nat->JY)(tc:JY):Prop where
 F_qv:Fo K mg "is_whole" y9 ["thing"] (a 0) (d 0)
 F_qn:Fo K mg "all_cells" uL ["floor"] (a 1) (d 1)
 F_p3:Fo K mg "marked" uA ["things"] (a 2) (d 2)
 F_qy:Fo K mg "crossed" zC ["one","other"] (a 3) (d 3)
 F_q4:Fo K mg "couples_beside" yS ["cells"] (a 4) (d 4)
 F_q6:Fo K mg "square_apart" yT ["one","other"] (a 5) (d 5)
 F_p2:Fo K mg "beside" yM ["cell","word"] (a 6) (d 6)
 F_qm:Fo K mg "_law_cell" y3 ["_law_script","_law_k"] (a 7) (d 7)
 F_qb:Fo K mg "_law_cells" uE ["_law_floor_here"] (a 8) (d 8)
 F_qz:Fo K mg "_law_at" zD ["_law_cell_here","_law_step"] (a 9) (d 9)
 F_q1:Fo K mg "is_whole_couple" yP ["thing"] (a 10) (d 10)
 F_qe:Fo K mg "open_cells" yW ["floor"] (a 11) (d 11)
 F_qt:Fo K mg "lets_see" y8 ["solids","one","other"] (a 12) (d 12)
 F_qf:Fo K mg "all_beside" uH ["cell"] (a 13) (d 13)
 F_qc:Fo K mg "steps_over" uF ["ground","cell"] (a 14) (d 14)
 F_qx:Fo K mg "is_ahead" zB ["eye","cell"] (a 15) (d 15)
 F_qj:Fo K mg "_law_drawn" yX ["_law_script","_law_k","_law_many"] (a 16) (d 16)
 F_qo:Fo K mg "_law_open" uM ["_law_floor_here"] (a 17) (d 17)
 F_q9:Fo K mg "_law_beside" yV ["_law_floor_here","_law_cell_here","_law_word"] (a 18) (d 18)
 F_p1:Fo K mg "is_cell" yL ["floor","thing"] (a 19) (d 19)
 F_q3:Fo K mg "see_each_other" yR ["solids","one","other"] (a 20) (d 20)
 F_ql:Fo K mg "ways_over" yZ ["ground","start"] (a 21) (d 21)
 F_qs:Fo K mg "loads_to" uO ["times","goal"] (a 22) (d 22)
 F_qu:Fo K mg "way_down" uP ["loads","one","other"] (a 23) (d 23)
 F_qh:Fo K mg "_law_floor" uJ ["_law_script","_law_at_here","_law_most"] (a 24) (d 24)
 F_qp:Fo K mg "_law_eyes" y4 ["_law_script","_law_at_here","_law_floor_here"] (a 25) (d 25)
 F_q0:Fo K mg "refuse_off_floor" yO ["floor","cell"] (a 26) (d 26)
 F_qk:Fo K mg "does_spot" yY ["solids","eye","cell"] (a 27) (d 27)
 F_qw:Fo K mg "is_solid" zA ["floor","cell"] (a 28) (d 28)
 F_qg:Fo K mg "numbers_on" uI ["solids","eyes","cell"] (a 29) (d 29)
 F_q2:Fo K mg "refuse_not_open" yQ ["floor","cell"] (a 30) (d 30)
 F_q5:Fo K mg "times_spotted" uB ["floor","eyes"] (a 31) (d 31)
 F_qr:Fo K mg "field_of" uN ["floor","cell"] (a 32) (d 32)
 F_q7:Fo K mg "refuse_eyes" yU ["floor","eyes"] (a 33) (d 33)
 F_qa:Fo K mg "times_seen" uD ["floor","cells"] (a 34) (d 34)
 F_p0:Fo K mg "eyes_on" yK ["floor","eyes","cell"] (a 35) (d 35)
 F_qq:Fo K mg "quiet_way" y7 ["floor","eyes","one","other"] (a 36) (d 36)
 F_q8:Fo K mg "seen_by_any" uC ["floor","cells"] (a 37) (d 37)
 F_qd:Fo K mg "_law_often" uG ["_law_floor_here","_law_eyes_here","_law_cells_here"] (a 38) (d 38)
 F_qi:Fo K mg "hidden_way" uK ["floor","watchers","one","other"] (a 39) (d 39)
 F_p4:Fo K mg "law" yN ["_law_script"] (a 40) (d 40)
 z_isinstance:mg "isinstance"=none
 z_int:mg "int"=none
 z_bool:mg "bool"=none
 z_range:mg "range"=none
 z_dict:mg "dict"=none
 z_abs:mg "abs"=none
 z_zip:mg "zip"=none
 z_sorted:mg "sorted"=none
 z_tuple:mg "tuple"=none
 z_len:mg "len"=none
 z_set:mg "set"=none
 z_min:mg "min"=none
 z_enumerate:mg "enumerate"=none
 z_sum:mg "sum"=none
 z_max:mg "max"=none
 tm_STEPS:mg "STEPS"=some (.ref (ta 0))
 tt_STEPS:oA K w (ta 0) i4
 tl_STEPS:(ta 0 == Zg)=false
 cde:(d 23).code=.ref tc
 cdh:PySem.W.codeHdIn K tc iC=true
section
variable {P:J2}{w:J4}{K:PySem.W.Frag}{mg:Str->Option Value}{base:Heap}{a:Nat->JY}{d:Nat->Zu}{ta:Nat->JY}{tc:JY}(T:xX K mg a d w ta tc)
include T
theorem KQ:aQ P w K mg base aR 1 (a 0) (d 0) ["thing"] (aW K 1 oW):=by
 refine cO (g:=Er) (G:=oW) (N:=B9) (k:=0) rfl rfl rfl T.F_qv.F LO fun c A b s H E e=>?_
 exact(bC (bT (vG (Ai (T:="int") (.inr (.inr (.inl rfl))) rfl T.z_isinstance rfl T.z_int boot_int (by decide) (aD 0)) (vK (N4 (Ai (T:="bool") (.inr (.inr (.inr (.inl rfl)))) rfl T.z_isinstance rfl T.z_bool boot_bool (by decide) (aD 0)))))))
theorem KH:aQ P w K mg base aR 1 (a 1) (d 1) ["floor"] (aW K 1 rF):=by
 refine cO (g:=A7) (G:=rF) (N:=xQ) (k:=0) rfl rfl rfl T.F_qn.F A1 fun c A b s H E e=>?_
 exact(aY (l7 (i:=1) A1.nd aL)
  (aY (iE Q5 rfl (n7 rfl T.z_range (aF (aS aU (aD 0) aI) aL rfl)) (cV (i:=2) A1.nd) (bC (CZ (i:=1) (gW rfl (gM (N':=DN) (inner:=[none,some 2]) (bB uL) xQ rfl rfl (by decide +kernel)) (gN 0) (n7 rfl T.z_range (aF (aS aU (aD 0) aI) aL rfl)) (fun _ _ _ _ _=>(cV (i:=0) Ra)) (fun _ _ _ _ _=>l8) (fun _ _ _ _ _=>(dG (aF (aD 1) (aF (aD 0) aL rfl) rfl)))))))
  (bC (bT (aD 1)))))
theorem Kf:aQ P w K mg base aR 1 (a 2) (d 2) ["things"] (aW K 1 gL):=by
 refine cO (g:=Eu) (G:=gL) (N:=xF) (k:=0) rfl rfl rfl T.F_p3.F Lw fun e A b s H E c=>?_
 exact(bC (bT (vH (C9 rfl (l0 c)) rfl T.z_dict DC.boot_dict (aF (gW rfl (gM (N':=Dw) (inner:=[none]) (bB uA) xF rfl rfl (by decide +kernel)) (gN 0) (hF (aD 0)) (fun _ _ _ _ _=>(cV (i:=0) P0)) (fun _ _ _ _ _=>l8) (fun _ _ _ _ _=>(dG (aF (aD 0) (aF iV aL rfl) rfl)))) aL rfl))))
theorem KT:aQ P w K mg base aR 1 (a 3) (d 3) ["one","other"] (aW K 2 rG):=by
 refine cO (g:=A9) (G:=rG) (N:=Cc) (k:=0) rfl rfl rfl T.F_qy.F jH fun c A b s H E e=>?_
 exact(aY (cD (i:=2) jH.nd (eN Ad rfl T.z_abs boot_abs (aF (bE mF (aS aU (aD 1) aI) (aS aU (aD 0) aI)) aL rfl)))
  (aY (cD (i:=3) jH.nd (eN Ad rfl T.z_abs boot_abs (aF (bE mF (aS aU (aD 1) aI) (aS aU (aD 0) aI)) aL rfl)))
  (aY (cD (i:=4) jH.nd (Dn (cN sR (aS aU (aD 1) aI) (aS aU (aD 0) aI) (dR _)) aI (gX hO aI)))
  (aY (cD (i:=5) jH.nd (Dn (cN sR (aS aU (aD 1) aI) (aS aU (aD 0) aI) (dR _)) aI (gX hO aI)))
  (aY (cD (i:=6) jH.nd aI)
  (aY (cD (i:=7) jH.nd aI)
  (aY (l7 (i:=8) jH.nd (aF (aD 0) aL rfl))
  (aY (vM 900 Q5 (lP (pH (cN nF (aD 6) (aD 2) (dR _)) (qW (cN nF (aD 7) (aD 3) (dR _))))) (aY (cD (i:=9) jH.nd (bE eO (bE cT (bE eO aI (aD 6)) aI) (aD 3)))
  (aY (cD (i:=10) jH.nd (bE eO (bE cT (bE eO aI (aD 7)) aI) (aD 2)))
  (aY (eF (cN nD (aD 9) (aD 10) (dR _)) (bC (cD (i:=6) jH.nd (bE cT (aD 6) aI))) eG)
  (aY (eF (cN nD (aD 10) (aD 9) (dR _)) (bC (cD (i:=7) jH.nd (bE cT (aD 7) aI))) eG)
  (bC (sC (i:=8) (dG (aF (bE cT (aS aU (aD 0) aI) (bE eO (aD 4) (aD 6))) (aF (bE cT (aS aU (aD 0) aI) (bE eO (aD 5) (aD 7))) aL rfl) rfl)))))))))
  (bC (bT (aD 8)))))))))))
theorem Kl:aQ P w K mg base aR 1 (a 4) (d 4) ["cells"] (aW K 1 pB):=by
 refine cO (g:=A8) (G:=pB) (N:=BW) (k:=0) rfl rfl rfl T.F_q4.F wP fun e A b s H E c=>?_
 exact(aY (l7 (i:=1) wP.nd aL)
  (aY (iE Q5 rfl (Oa rfl T.z_zip (aF (aD 0) (aF (Dq (aD 0) (CU aI) CT) aL rfl) rfl)) (sA rfl (kH (cV (i:=2) wP.nd) (kH (cV (i:=3) wP.nd) sB))) (bC (eF (lP (Am (cN (k3 (gK c)) (aS aU (aD 2) aI) (aS aU (aD 3) aI) (dR _)) (An (cN (k3 (gK c)) (aS aU (aD 2) aI) (aS aU (aD 3) aI) (dR _))))) (bC (sC (i:=1) (vH Da rfl T.z_tuple boot_tuple (aF (eN (Mz (l0 c)) rfl T.z_sorted boot_sorted (aF (@kG _ _ _ _ (aF (dG (aF (aS aU (aD 2) aI) (aF (aS aU (aD 3) aI) aL rfl) rfl)) (aF (dG (aF (aS aU (aD 3) aI) (aF (aS aU (aD 2) aI) aL rfl) rfl)) aL rfl) rfl)) aL rfl)) aL rfl)))) eG)))
  (bC (bT (aD 1)))))
theorem Kn:aQ P w K mg base aR 1 (a 5) (d 5) ["one","other"] (aW K 2 oX):=by
 refine cO (g:=D0) (G:=oX) (N:=BX) (k:=0) rfl rfl rfl T.F_q6.F LB fun c A b s H E e=>?_
 exact(bC (bT (bE cT (bE Fp (bE mF (aS aU (aD 0) aI) (aS aU (aD 1) aI)) aI) (bE Fp (bE mF (aS aU (aD 0) aI) (aS aU (aD 1) aI)) aI))))
theorem Ke:aQ P w K mg base aR 1 (a 6) (d 6) ["cell","word"] (aW K 2 kE):=by
 refine cO (g:=Eh) (G:=kE) (N:=BQ) (k:=0) rfl rfl rfl T.F_p2.F Lu fun c A b s H E e=>?_
 exact(bC (bT (dG (aF (bE cT (aS aU (aD 0) aI) (aS aU (Dr rfl T.tm_STEPS T.tt_STEPS (aD 1)) aI)) (aF (bE cT (aS aU (aD 0) aI) (aS aU (Dr rfl T.tm_STEPS T.tt_STEPS (aD 1)) aI)) aL rfl) rfl))))
theorem KF:aQ P w K mg base aR 1 (a 7) (d 7) ["_law_script","_law_k"] (aW K 2 sF):=by
 refine cO (g:=Ea) (G:=sF) (N:=B5) (k:=0) rfl rfl rfl T.F_qm.F LL fun e A b s H E c=>?_
 exact(aY (eF (cN (u7 (gK c)) (aD 0) (@kG _ _ _ _ aL) (dR _)) (bC (bT (bE eO aI (aD 1)))) eG)
  (bC (bT (bE cT (aS aU (aD 0) (bE nG (aD 1) (eN kF rfl T.z_len PySem.boot_len (aF (aD 0) aL rfl)))) (bE eO aI (bE sQ (aD 1) (eN kF rfl T.z_len PySem.boot_len (aF (aD 0) aL rfl))))))))
theorem Ks:aQ P w K mg base aR 1 (a 8) (d 8) ["_law_floor_here"] (aW K 1 sG):=by
 refine cO (g:=Eb) (G:=sG) (N:=xJ) (k:=0) rfl rfl rfl T.F_qb.F LC fun c A b s H E e=>?_
 exact(bC (bT (gW rfl (gM (N':=DB) (inner:=[none,some 0]) (bB uE) xJ rfl rfl (by decide +kernel)) (gN 0) (n7 rfl T.z_range (aF (bE eO (aS aU (aD 0) aI) (aS aU (aD 0) aI)) aL rfl)) (fun _ _ _ _ _=>(cV (i:=0) P4)) (fun _ _ _ _ _=>l8) (fun _ _ _ _ _=>(dG (aF (bE sQ (aD 0) (aS aU (aD 1) aI)) (aF (bE nG (aD 0) (aS aU (aD 1) aI)) aL rfl) rfl))))))
theorem KU:aQ P w K mg base aR 1 (a 9) (d 9) ["_law_cell_here","_law_step"] (aW K 2 sE):=by
 refine cO (g:=D9) (G:=sE) (N:=Cd) (k:=0) rfl rfl rfl T.F_qz.F LQ fun c A b s H E e=>?_
 exact(bC (bT (dG (aF (bE cT (aS aU (aD 0) aI) (aS aU (aD 1) aI)) (aF (bE cT (aS aU (aD 0) aI) (aS aU (aD 1) aI)) aL rfl) rfl))))
theorem Ki(b:aQ P w K mg base aR 1 (a 0) (d 0) ["thing"] (aW K 1 oW)):aQ P w K mg base aR 2 (a 10) (d 10) ["thing"] (aW K 1 rL):=by
 refine cO (g:=Es) (G:=rL) (N:=BT) (k:=1) rfl rfl rfl T.F_q1.F Ly fun f A c s H E e=>?_
 exact(aY (eF (lP (pH (pG (n9 (Ai (T:="tuple") (.inr (.inl rfl)) rfl T.z_isinstance rfl T.z_tuple boot_tuple (by decide) (aD 0)))) (qW (cN (k3 (gK e)) (eN kF rfl T.z_len PySem.boot_len (aF (aD 0) aL rfl)) aI (dR _))))) (bC (bT iV)) eG)
  (bC (bT (vG (bJ T.F_qv b e rfl (aF (aS aU (aD 0) aI) aL rfl) fJ) (vK (bJ T.F_qv b e rfl (aF (aS aU (aD 0) aI) aL rfl) fJ))))))
theorem Kv(c:aQ P w K mg base aR 1 (a 1) (d 1) ["floor"] (aW K 1 rF)):aQ P w K mg base aR 2 (a 11) (d 11) ["floor"] (aW K 1 fR):=by
 refine cO (g:=Ex) (G:=fR) (N:=B0) (k:=1) rfl rfl rfl T.F_qe.F LG fun f A e s H E b=>?_
 exact(bC (bT (N5 rfl (l0 b) rfl T.z_sorted boot_sorted (NA rfl (l0 b) (ED rfl (gK b) rfl T.z_set boot_set (aF (bJ T.F_qn c b rfl (aF (aD 0) aL rfl) fJ) aL rfl)) (ED rfl (gK b) rfl T.z_set boot_set (aF (aS aU (aD 0) aI) aL rfl))))))
theorem KO(c:aQ P w K mg base aR 1 (a 3) (d 3) ["one","other"] (aW K 2 rG))(e:aQ P w K mg base aR 1 (a 4) (d 4) ["cells"] (aW K 1 pB)):aQ P w K mg base aR 2 (a 12) (d 12) ["solids","one","other"] (aW K 3 nW):=by
 refine cO (g:=Bb) (G:=nW) (N:=B8) (k:=1) rfl rfl rfl T.F_qt.F sY fun h A f s H E b=>?_
 exact(aY (cD (i:=3) sY.nd (bJ T.F_qy c b rfl (aF (aD 1) (aF (aD 2) aL rfl) rfl) dE))
  (aY (iE Q5 rfl (hF (Dq (aD 3) CT (CU (gX hO aI)))) (cV (i:=4) sY.nd) (bC (eF (cN (sS (cY b)) (aD 4) (aD 0) (by with_unfolding_all rfl)) (bC (bT iV)) eG)))
  (aY (iE Q5 rfl (hF (bJ T.F_q4 e b rfl (aF (aD 3) aL rfl) fJ)) (sA rfl (kH (cV (i:=5) sY.nd) (kH (cV (i:=6) sY.nd) sB))) (bC (eF (lP (Am (cN (sS (cY b)) (aD 5) (aD 0) (by with_unfolding_all rfl)) (An (cN (sS (cY b)) (aD 6) (aD 0) (by with_unfolding_all rfl))))) (bC (bT iV)) eG)))
  (bC (bT iV)))))
theorem Kw(b:aQ P w K mg base aR 1 (a 6) (d 6) ["cell","word"] (aW K 2 kE)):aQ P w K mg base aR 2 (a 13) (d 13) ["cell"] (aW K 1 nV):=by
 refine cO (g:=Eg) (G:=nV) (N:=xM) (k:=1) rfl rfl rfl T.F_qf.F LH fun f A c s H E e=>?_
 exact(bC (bT (gW rfl (gM (N':=DH) (inner:=[none,some 0]) (bB uH) xM rfl rfl (by decide +kernel)) (gN 0) (Dt rfl T.tm_STEPS T.tt_STEPS T.tl_STEPS) (fun _ _ _ _ _=>(cV (i:=0) P7)) (fun _ _ _ _ _=>l8) (fun _ _ _ _ _=>(bJ T.F_p2 b e rfl (aF (aD 1) (aF (aD 0) aL rfl) rfl) dE)))))
theorem Kt(b:aQ P w K mg base aR 1 (a 6) (d 6) ["cell","word"] (aW K 2 kE)):aQ P w K mg base aR 2 (a 14) (d 14) ["ground","cell"] (aW K 2 iT):=by
 refine cO (g:=D1) (G:=iT) (N:=xK) (k:=1) rfl rfl rfl T.F_qc.F LE fun f A c s H E e=>?_
 exact(bC (bT (gW rfl (gM (N':=DD) (inner:=[none,some 1,some 0]) (bB uF) xK rfl rfl (by decide +kernel)) (gN 0) (Dt rfl T.tm_STEPS T.tt_STEPS T.tl_STEPS) (fun _ _ _ _ _=>(cV (i:=0) P5)) (fun _ _ _ _ _=>(m6 (cN (sS (cY e)) (bJ T.F_p2 b e rfl (aF (aD 1) (aF (aD 0) aL rfl) rfl) dE) (aD 2) (by with_unfolding_all rfl)))) (fun _ _ _ _ _=>(dG (aF (aD 0) (aF (bJ T.F_p2 b e rfl (aF (aD 1) (aF (aD 0) aL rfl) rfl) dE) aL rfl) rfl))))))
theorem KS(b:aQ P w K mg base aR 1 (a 6) (d 6) ["cell","word"] (aW K 2 kE)):aQ P w K mg base aR 2 (a 15) (d 15) ["eye","cell"] (aW K 2 oV):=by
 refine cO (g:=En) (G:=oV) (N:=Cb) (k:=1) rfl rfl rfl T.F_qx.F wS fun f A c s H E e=>?_
 exact(aY (cD (i:=2) wS.nd (bJ T.F_p2 b e rfl (aF (dG (aF aI (aF aI aL rfl) rfl)) (aF (aS aU (aD 0) aI) aL rfl) rfl) dE))
  (aY (cD (i:=3) wS.nd (bE mF (aS aU (aD 1) aI) (aS aU (aS aU (aD 0) aI) aI)))
  (aY (cD (i:=4) wS.nd (bE mF (aS aU (aD 1) aI) (aS aU (aS aU (aD 0) aI) aI)))
  (bC (bT (vI nD (eN Ad rfl T.z_abs boot_abs (aF (bE mF (bE eO (aD 3) (aS aU (aD 2) aI)) (bE eO (aD 4) (aS aU (aD 2) aI))) aL rfl)) (bE cT (bE eO (aD 3) (aS aU (aD 2) aI)) (bE eO (aD 4) (aS aU (aD 2) aI))) (dR _)))))))
theorem KA(b:aQ P w K mg base aR 1 (a 7) (d 7) ["_law_script","_law_k"] (aW K 2 sF)):aQ P w K mg base aR 2 (a 16) (d 16) ["_law_script","_law_k","_law_many"] (aW K 3 dB):=by
 refine cO (g:=Ec) (G:=dB) (N:=B2) (k:=1) rfl rfl rfl T.F_qj.F A0 fun f A c s H E e=>?_
 exact(aY (cD (i:=3) A0.nd (bE nG (bE cT (bE eO (bE nG (bJ T.F_qm b e rfl (aF (aD 0) (aF (aD 1) aL rfl) rfl) dE) aI) aI) (bE eO aI (bE cT (aD 1) aI))) aI))
  (aY (cD (i:=3) A0.nd (bE nG (bE cT (bE eO (aD 3) (aD 3)) (bE sQ (aD 3) aI)) aI))
  (bC (bT (bE nG (bE sQ (bE nG (bE cT (bE eO (aD 3) (aD 3)) (bE sQ (aD 3) aI)) aI) aI) (aD 2))))))
theorem KI(b:aQ P w K mg base aR 1 (a 8) (d 8) ["_law_floor_here"] (aW K 1 sG)):aQ P w K mg base aR 2 (a 17) (d 17) ["_law_floor_here"] (aW K 1 nU):=by
 refine cO (g:=Ef) (G:=nU) (N:=xR) (k:=1) rfl rfl rfl T.F_qo.F LN fun f A c s H E e=>?_
 exact(bC (bT (gW rfl (gM (N':=DP) (inner:=[none,some 0]) (bB uM) xR rfl rfl (by decide +kernel)) (gN 0) (hF (bJ T.F_qb b e rfl (aF (aD 0) aL rfl) fJ)) (fun _ _ _ _ _=>(cV (i:=0) Rb)) (fun _ _ _ _ _=>(m6 (cN (AI (cY e)) (aD 0) (aS aU (aD 1) aI) (by with_unfolding_all rfl)))) (fun _ _ _ _ _=>(aD 0)))))
theorem Kq(b:aQ P w K mg base aR 1 (a 9) (d 9) ["_law_cell_here","_law_step"] (aW K 2 sE)):aQ P w K mg base aR 2 (a 18) (d 18) ["_law_floor_here","_law_cell_here","_law_word"] (aW K 3 kD):=by
 refine cO (g:=A5) (G:=kD) (N:=BZ) (k:=1) rfl rfl rfl T.F_q9.F GX fun f A c s H E e=>?_
 exact(aY (cD (i:=3) GX.nd (bJ T.F_qz b e rfl (aF (aD 1) (aF (N2 (tb:=[("n",.tuple [.int 0,.int (-1)]),("e",.tuple [.int 1,.int 0]),("s",.tuple [.int 0,.int 1]),("w",.tuple [.int (-1),.int 0])]) (.cons (dG (aF aI (aF (gX hO aI) aL rfl) rfl)) (fun _=>rfl) (.cons (dG (aF aI (aF aI aL rfl) rfl)) (fun _=>rfl) (.cons (dG (aF aI (aF aI aL rfl) rfl)) (fun _=>rfl) (.cons (dG (aF (gX hO aI) (aF aI aL rfl) rfl)) (fun _=>rfl) .nil)))) (aD 2)) aL rfl) rfl) dE))
  (aY (eF (lP (pH (cN (wB (cY e)) (aD 3) (aS aU (aD 0) aI) (by with_unfolding_all rfl)) (pH (pG (EF nD nF aI (aS aU (aD 3) aI) (aS aU (aD 0) aI))) (qW (pG (EF nD nF aI (aS aU (aD 3) aI) (aS aU (aD 0) aI))))))) (bC (bT Aj)) eG)
  (bC (bT (aD 3)))))
theorem Kd(b:aQ P w K mg base aR 2 (a 10) (d 10) ["thing"] (aW K 1 rL)):aQ P w K mg base aR 3 (a 19) (d 19) ["floor","thing"] (aW K 2 rJ):=by
 refine cO (g:=Eo) (G:=rJ) (N:=BP) (k:=2) rfl rfl rfl T.F_p1.F Ls fun f A c s H E e=>?_
 exact(aY (eF (pG (n9 (bJ T.F_q1 b e rfl (aF (aD 1) aL rfl) fJ))) (bC (bT iV)) eG)
  (bC (bT (vG (Dm nD nF aI (aS aU (aD 1) aI) (aS aU (aD 0) aI)) (vK (Dm nD nF aI (aS aU (aD 1) aI) (aS aU (aD 0) aI)))))))
theorem Kk(b:aQ P w K mg base aR 2 (a 12) (d 12) ["solids","one","other"] (aW K 3 nW)):aQ P w K mg base aR 3 (a 20) (d 20) ["solids","one","other"] (aW K 3 rN):=by
 refine cO (g:=DZ) (G:=rN) (N:=BV) (k:=2) rfl rfl rfl T.F_q3.F LA fun f A c s H E e=>?_
 exact(bC (bT (vG (vI (nH (cY e)) (aD 2) (aD 0) (by with_unfolding_all rfl)) (vK (bJ T.F_qt b e rfl (aF (aD 0) (aF (aD 1) (aF (aD 2) aL rfl) rfl) rfl) dP)))))
theorem KC(c:aQ P w K mg base aR 2 (a 14) (d 14) ["ground","cell"] (aW K 2 iT)):aQ P w K mg base aR 3 (a 21) (d 21) ["ground","start"] (aW K 2 rS):=by
 refine cO (g:=D4) (G:=rS) (N:=B4) (k:=2) rfl rfl rfl T.F_ql.F mJ fun f A e s H E b=>?_
 exact(aY (C0 (i:=2) mJ.nd (cY b) (aD 1) r8)
  (aY (cD (i:=3) mJ.nd (@kG _ _ _ _ (aF (aD 1) aL rfl)))
  (aY (vM 900 Q5 (cN (k3 (gK b)) (aD 3) (@kG _ _ _ _ aL) (dR _)) (aY (l7 (i:=4) mJ.nd aL)
  (aY (iE Q5 rfl (hF (aD 3)) (cV (i:=5) mJ.nd) (bC (iE Q5 rfl (hF (bJ T.F_qc c b rfl (aF (aD 0) (aF (aD 5) aL rfl) rfl) dE)) (sA rfl (kH (cV (i:=6) mJ.nd) (kH (cV (i:=7) mJ.nd) sB))) (bC (eF (cN (nH (cY b)) (aD 7) (aD 2) (by with_unfolding_all rfl)) (aY (CW (i:=2) (cY b) (aD 7) (bE Fn (Do (i:=2) (cY b) (aD 5)) (aD 6)))
  (bC (sC (i:=4) (aD 7)))) eG)))))
  (vN 4 (bC (cD (i:=3) mJ.nd (aD 4)))))))
  (bC (bT (aD 2))))))
theorem KN(c:aQ P w K mg base aR 2 (a 13) (d 13) ["cell"] (aW K 1 nV)):aQ P w K mg base aR 3 (a 22) (d 22) ["times","goal"] (aW K 2 rM):=by
 refine cO (g:=Et) (G:=rM) (N:=xT) (k:=2) rfl rfl rfl T.F_qs.F nM fun f A e s H E b=>?_
 exact(aY (Nz (i:=2) nM.nd)
  (aY (C0 (i:=3) nM.nd (cY b) (aD 1) (dG (aF (aS (mW (cY b)) (aD 0) (aD 1)) (aF aI aL rfl) rfl)))
  (aY (vM 900 Q5 (cN sR (eN Mt rfl T.z_len PySem.boot_len (aF (aD 3) aL rfl)) aI (dR _)) (aY (C1 (i:=4) nM.nd (aS aU (eN (Mw rfl (l0 b)) rfl T.z_min boot_min (aF (gW rfl (gM (N':=DR) (inner:=[none,some 3]) (bB uO) xT rfl rfl (by decide +kernel)) (gN 0) (Ds (aD 3)) (fun _ _ _ _ _=>(cV (i:=0) Re)) (fun _ _ _ _ _=>l8) (fun _ _ _ _ _=>(dG (aF (aS (mW (cY b)) (aD 1) (aD 0)) (aF (aD 0) aL rfl) rfl)))) aL rfl)) aI))
  (aY (Nx (i:=3) (j:=5) nM.nd (cY b) (aD 4))
  (aY (CY (i:=2) (cY b) (aD 4) (aD 5))
  (bC (iE Q5 rfl (hF (bJ T.F_qf c b rfl (aF (aD 4) aL rfl) fJ)) (cV (i:=6) nM.nd) (bC (eF (lP (Am (cN (sS (cY b)) (aD 6) (aD 0) (by with_unfolding_all rfl)) (An (cN (nH (cY b)) (aD 6) (aD 2) (by with_unfolding_all rfl))))) (aY (cD (i:=7) nM.nd (dG (aF (bE cT (aS aU (aD 5) aI) (aS (mW (cY b)) (aD 0) (aD 6))) (aF (bE cT (aS aU (aD 5) aI) aI) aL rfl) rfl)))
  (bC (CY (i:=3) (cY b) (aD 6) (eN (Mx rfl (l0 b)) rfl T.z_min boot_min (aF (aD 7) (aF (N1 (cY b) (aD 3) (aD 6) (aD 7)) aL rfl) rfl))))) eG))))))))
  (bC (bT (aD 2))))))
theorem KP(c:aQ P w K mg base aR 2 (a 14) (d 14) ["ground","cell"] (aW K 2 iT))(j:K.In base)(l:Bm mg base):aQ P w K mg base aR 3 (a 23) (d 23) ["loads","one","other"] (kT K 3 rR iC lZ):=by
 refine zS (g:=D3) (G:=rR) (N:=xU) (k:=2) rfl rfl rfl T.F_qu.F p6 fun m A e s H E f h b=>?_
 exact(aY (cD (i:=3) p6.nd r8)
  (aY (cD (i:=4) p6.nd (aD 1))
  (aY (vM 900 Q5 (cN (k3 (gK b)) (aD 4) (aD 2) (dR _)) (aY (cD (i:=5) p6.nd (N3 (x0:="ahead") rfl (b.mono (by decide)) (Oz (gM (N':=DU) (inner:=none::[some 0]) (bB uP) xU rfl rfl (by decide +kernel)) (by decide +kernel)) h (PySem.W.codeHd_of_K j T.cdh) l (f.trans T.cde) rfl rfl (fun _ _ _ _ _=>rfl) rfl T.z_min (bJ T.F_qc c b rfl (aF (aD 0) (aF (aD 4) aL rfl) rfl) dE) (fun _ _ _ _ _ b=>(aS (mW (cY b)) (aD 1) (aS aU (aD 0) aI)))))
  (aY (cD (i:=3) p6.nd (bE Fn (aD 3) (aS aU (aD 5) aI)))
  (bC (cD (i:=4) p6.nd (aS aU (aD 5) aI))))))
  (bC (bT (aD 3))))))
theorem Ky(b:aQ P w K mg base aR 2 (a 16) (d 16) ["_law_script","_law_k","_law_many"] (aW K 3 dB)):aQ P w K mg base aR 3 (a 24) (d 24) ["_law_script","_law_at_here","_law_most"] (aW K 3 pA):=by
 refine cO (g:=A6) (G:=pA) (N:=xO) (k:=2) rfl rfl rfl T.F_qh.F p4 fun f A e s H E c=>?_
 exact(aY (cD (i:=3) p4.nd (bE cT aI (bJ T.F_qj b c rfl (aF (aD 0) (aF (aD 1) (aF (aD 2) aL rfl) rfl) rfl) dP)))
  (aY (cD (i:=4) p4.nd (bE cT aI (bJ T.F_qj b c rfl (aF (aD 0) (aF (bE cT (aD 1) aI) (aF (aD 2) aL rfl) rfl) rfl) dP)))
  (aY (cD (i:=5) p4.nd (aS aU (@kG _ _ _ _ (aF aI (aF aI (aF aI (aF aI (aF aI aL rfl) rfl) rfl) rfl) rfl)) (bJ T.F_qj b c rfl (aF (aD 0) (aF (bE cT (aD 1) aI) (aF aI aL rfl) rfl) rfl) dP)))
  (aY (l7 (i:=6) p4.nd aL)
  (aY (iE Q5 rfl (n7 rfl T.z_range (aF (aD 3) aL rfl)) (cV (i:=7) p4.nd) (bC (CZ (i:=6) (gW rfl (gM (N':=DK) (inner:=[none,some 7,some 0,some 5,some 1]) (bB uJ) xO rfl rfl (by decide +kernel)) (gN 0) (n7 rfl T.z_range (aF (aD 4) aL rfl)) (fun _ _ _ _ _=>(cV (i:=0) P8)) (fun _ _ _ _ _=>(m6 (cN (u7 (gK c)) (bJ T.F_qj b c rfl (aF (aD 2) (aF (bE cT (bE cT (bE cT (aD 4) aI) (bE eO aI (aD 1))) (aD 0)) (aF (aD 3) aL rfl) rfl) rfl) dP) aI (dR _)))) (fun _ _ _ _ _=>(dG (aF (aD 1) (aF (aD 0) aL rfl) rfl)))))))
  (bC (bT (dG (aF (aD 3) (aF (aD 4) (aF (vH Da rfl T.z_tuple boot_tuple (aF (aD 6) aL rfl)) aL rfl) rfl) rfl)))))))))
theorem KJ(e:aQ P w K mg base aR 2 (a 17) (d 17) ["_law_floor_here"] (aW K 1 nU))(b:aQ P w K mg base aR 2 (a 16) (d 16) ["_law_script","_law_k","_law_many"] (aW K 3 dB)):aQ P w K mg base aR 3 (a 25) (d 25) ["_law_script","_law_at_here","_law_floor_here"] (aW K 3 rE):=by
 refine cO (g:=Ed) (G:=rE) (N:=B6) (k:=2) rfl rfl rfl T.F_qp.F p5 fun h A f s H E c=>?_
 exact(aY (cD (i:=3) p5.nd (bJ T.F_qo e c rfl (aF (aD 2) aL rfl) fJ))
  (aY (l7 (i:=4) p5.nd aL)
  (aY (eF (cN (k3 (gK c)) (aD 3) (@kG _ _ _ _ aL) (dR _)) (bC (iE Q5 rfl (n7 rfl T.z_range (aF (bJ T.F_qj b c rfl (aF (aD 0) (aF (aD 1) (aF aI aL rfl) rfl) rfl) dP) aL rfl)) (cV (i:=5) p5.nd) (aY (cD (i:=6) p5.nd (aS aU (aD 3) (bJ T.F_qj b c rfl (aF (aD 0) (aF (bE cT (bE cT (aD 1) aI) (bE eO aI (aD 5))) (aF (eN kF rfl T.z_len PySem.boot_len (aF (aD 3) aL rfl)) aL rfl) rfl) rfl) dP)))
  (aY (cD (i:=7) p5.nd (aS yB r8 (bJ T.F_qj b c rfl (aF (aD 0) (aF (bE cT (bE cT (aD 1) aI) (bE eO aI (aD 5))) (aF aI aL rfl) rfl) rfl) dP)))
  (bC (sC (i:=4) (dG (aF (aD 6) (aF (aD 7) (aF (bE cT aI (bJ T.F_qj b c rfl (aF (aD 0) (aF (bE cT (bE cT (aD 1) aI) (bE eO aI (aD 5))) (aF aI aL rfl) rfl) rfl) dP)) aL rfl) rfl) rfl)))))))) eG)
  (bC (bT (aD 4))))))
theorem Kh(b:aQ P w K mg base aR 3 (a 19) (d 19) ["floor","thing"] (aW K 2 rJ)):aQ P w K mg base aR 4 (a 26) (d 26) ["floor","cell"] (aW K 2 nY):=by
 refine cO (g:=EC) (G:=nY) (N:=BS) (k:=3) rfl rfl rfl T.F_q0.F Lx fun f A c s H E e=>?_
 exact(bC (eF (pG (n9 (bJ T.F_p1 b e rfl (aF (aD 0) (aF (aD 1) aL rfl) rfl) dE))) (bC sD) eG))
theorem KB(e:aQ P w K mg base aR 3 (a 20) (d 20) ["solids","one","other"] (aW K 3 rN))(b:aQ P w K mg base aR 2 (a 15) (d 15) ["eye","cell"] (aW K 2 oV))(c:aQ P w K mg base aR 1 (a 5) (d 5) ["one","other"] (aW K 2 oX)):aQ P w K mg base aR 4 (a 27) (d 27) ["solids","eye","cell"] (aW K 3 rH):=by
 refine cO (g:=Ei) (G:=rH) (N:=B3) (k:=3) rfl rfl rfl T.F_qk.F LK fun i A f s H E h=>?_
 exact(aY (eF (lP (pH (pG (n9 (bJ T.F_qx b h rfl (aF (aD 1) (aF (aD 2) aL rfl) rfl) dE))) (qW (cN sR (bJ T.F_q6 c h rfl (aF (aS aU (aD 1) aI) (aF (aD 2) aL rfl) rfl) dE) (bE eO (aS aU (aD 1) aI) (aS aU (aD 1) aI)) (dR _))))) (bC (bT iV)) eG)
  (bC (bT (bJ T.F_q3 e h rfl (aF (aD 0) (aF (aS aU (aD 1) aI) (aF (aD 2) aL rfl) rfl) rfl) dP))))
theorem KR(b:aQ P w K mg base aR 4 (a 26) (d 26) ["floor","cell"] (aW K 2 nY)):aQ P w K mg base aR 5 (a 28) (d 28) ["floor","cell"] (aW K 2 rK):=by
 refine cO (g:=Ep) (G:=rK) (N:=Ca) (k:=4) rfl rfl rfl T.F_qw.F LP fun f A c s H E e=>?_
 exact(aY (kI (bJ T.F_q0 b e rfl (aF (aD 0) (aF (aD 1) aL rfl) rfl) dE))
  (bC (bT (vI (wB (cY e)) (aD 1) (aS aU (aD 0) aI) (by with_unfolding_all rfl)))))
theorem Kx(b:aQ P w K mg base aR 4 (a 27) (d 27) ["solids","eye","cell"] (aW K 3 rH)):aQ P w K mg base aR 5 (a 29) (d 29) ["solids","eyes","cell"] (aW K 3 l5):=by
 refine cO (g:=Ev) (G:=l5) (N:=xN) (k:=4) rfl rfl rfl T.F_qg.F LJ fun f A c s H E e=>?_
 exact(bC (bT (gW rfl (gM (N':=DJ) (inner:=[none,none,some 0,some 2]) (bB uI) xN rfl rfl (by decide +kernel)) (Ov (Gh (gN 0) (Gh (gN 1) Ou))) (N8 rfl T.z_enumerate (aF (aD 1) aL rfl)) (fun _ _ _ _ _=>(sA rfl (kH (cV (i:=0) FF) (kH (cV (i:=1) FF) sB)))) (fun _ _ _ _ _=>(m6 (n9 (bJ T.F_qk b e rfl (aF (aD 2) (aF (aD 1) (aF (aD 3) aL rfl) rfl) rfl) dP)))) (fun _ _ _ _ _=>(aD 0)))))
theorem Kj(b:aQ P w K mg base aR 5 (a 28) (d 28) ["floor","cell"] (aW K 2 rK)):aQ P w K mg base aR 6 (a 30) (d 30) ["floor","cell"] (aW K 2 iD):=by
 refine cO (g:=EB) (G:=iD) (N:=BU) (k:=5) rfl rfl rfl T.F_q2.F Lz fun f A c s H E e=>?_
 exact(bC (eF (n9 (bJ T.F_qw b e rfl (aF (aD 0) (aF (aD 1) aL rfl) rfl) dE)) (bC sD) eG))
theorem Km(e:aQ P w K mg base aR 1 (a 2) (d 2) ["things"] (aW K 1 gL))(c:aQ P w K mg base aR 2 (a 11) (d 11) ["floor"] (aW K 1 fR))(b:aQ P w K mg base aR 5 (a 29) (d 29) ["solids","eyes","cell"] (aW K 3 l5)):aQ P w K mg base aR 6 (a 31) (d 31) ["floor","eyes"] (aW K 2 rQ):=by
 refine cO (g:=D2) (G:=rQ) (N:=xG) (k:=5) rfl rfl rfl T.F_q5.F GU fun j A h s H E f=>?_
 exact(aY (cD (i:=2) GU.nd (bJ T.F_p3 e f rfl (aF (aS aU (aD 0) aI) aL rfl) fJ))
  (bC (bT (vH (C9 rfl (l0 f)) rfl T.z_dict DC.boot_dict (aF (gW rfl (gM (N':=Dx) (inner:=[none,some 2,some 1]) (bB uB) xG rfl rfl (by decide +kernel)) (gN 0) (hF (bJ T.F_qe c f rfl (aF (aD 0) aL rfl) fJ)) (fun _ _ _ _ _=>(cV (i:=0) P1)) (fun _ _ _ _ _=>l8) (fun _ _ _ _ _=>(dG (aF (aD 0) (aF (eN kF rfl T.z_len PySem.boot_len (aF (bJ T.F_qg b f rfl (aF (aD 1) (aF (aD 2) (aF (aD 0) aL rfl) rfl) rfl) dP) aL rfl)) aL rfl) rfl)))) aL rfl)))))
theorem KM(e:aQ P w K mg base aR 6 (a 30) (d 30) ["floor","cell"] (aW K 2 iD))(f:aQ P w K mg base aR 1 (a 2) (d 2) ["things"] (aW K 1 gL))(c:aQ P w K mg base aR 2 (a 11) (d 11) ["floor"] (aW K 1 fR))(b:aQ P w K mg base aR 2 (a 12) (d 12) ["solids","one","other"] (aW K 3 nW)):aQ P w K mg base aR 7 (a 32) (d 32) ["floor","cell"] (aW K 2 pD):=by
 refine cO (g:=Ba) (G:=pD) (N:=xS) (k:=6) rfl rfl rfl T.F_qr.F GZ fun l A j s H E h=>?_
 exact(aY (kI (bJ T.F_q2 e h rfl (aF (aD 0) (aF (aD 1) aL rfl) rfl) dE))
  (aY (cD (i:=2) GZ.nd (bJ T.F_p3 f h rfl (aF (aS aU (aD 0) aI) aL rfl) fJ))
  (bC (bT (gW rfl (gM (N':=DQ) (inner:=[none,some 2,some 1]) (bB uN) xS rfl rfl (by decide +kernel)) (gN 0) (hF (bJ T.F_qe c h rfl (aF (aD 0) aL rfl) fJ)) (fun _ _ _ _ _=>(cV (i:=0) Rc)) (fun _ _ _ _ _=>(m6 (n9 (bJ T.F_qt b h rfl (aF (aD 1) (aF (aD 2) (aF (aD 0) aL rfl) rfl) rfl) dP)))) (fun _ _ _ _ _=>(aD 0)))))))
theorem Ko(b:aQ P w K mg base aR 6 (a 30) (d 30) ["floor","cell"] (aW K 2 iD)):aQ P w K mg base aR 7 (a 33) (d 33) ["floor","eyes"] (aW K 2 nX):=by
 refine cO (g:=EA) (G:=nX) (N:=BY) (k:=6) rfl rfl rfl T.F_q7.F GV fun f A c s H E e=>?_
 exact(bC (iE Q5 rfl (hF (aD 1)) (cV (i:=2) GV.nd) (bC (kI (bJ T.F_q2 b e rfl (aF (aD 0) (aF (aS aU (aD 2) aI) aL rfl) rfl) dE)))))
theorem Kr(c:aQ P w K mg base aR 7 (a 32) (d 32) ["floor","cell"] (aW K 2 pD))(e:aQ P w K mg base aR 2 (a 11) (d 11) ["floor"] (aW K 1 fR)):aQ P w K mg base aR 8 (a 34) (d 34) ["floor","cells"] (aW K 2 rP):=by
 refine cO (g:=Bg) (G:=rP) (N:=xI) (k:=7) rfl rfl rfl T.F_qa.F wQ fun h A f s H E b=>?_
 exact(aY (Ny (i:=2) wQ.nd rfl (l0 b) rfl T.z_dict DC.boot_dict (aF (gW rfl (gM (N':=Dz) (inner:=[none]) (bB uD) xI rfl rfl (by decide +kernel)) (gN 0) (hF (bJ T.F_qe e b rfl (aF (aD 0) aL rfl) fJ)) (fun _ _ _ _ _=>(cV (i:=0) P3)) (fun _ _ _ _ _=>l8) (fun _ _ _ _ _=>(dG (aF (aD 0) (aF aI aL rfl) rfl)))) aL rfl))
  (aY (iE Q5 rfl (hF (aD 1)) (cV (i:=3) wQ.nd) (bC (iE Q5 rfl (hF (bJ T.F_qr c b rfl (aF (aD 0) (aF (aD 3) aL rfl) rfl) dE)) (cV (i:=4) wQ.nd) (bC (CW (i:=2) (cY b) (aD 4) (bE cT (Do (i:=2) (cY b) (aD 4)) aI))))))
  (bC (bT (aD 2)))))
theorem Kc(c:aQ P w K mg base aR 7 (a 33) (d 33) ["floor","eyes"] (aW K 2 nX))(e:aQ P w K mg base aR 4 (a 26) (d 26) ["floor","cell"] (aW K 2 nY))(b:aQ P w K mg base aR 5 (a 29) (d 29) ["solids","eyes","cell"] (aW K 3 l5))(f:aQ P w K mg base aR 1 (a 2) (d 2) ["things"] (aW K 1 gL)):aQ P w K mg base aR 8 (a 35) (d 35) ["floor","eyes","cell"] (aW K 3 pC):=by
 refine cO (g:=El) (G:=pC) (N:=BO) (k:=7) rfl rfl rfl T.F_p0.F Lr fun j A i s H E h=>?_
 exact(aY (kI (bJ T.F_q7 c h rfl (aF (aD 0) (aF (aD 1) aL rfl) rfl) dE))
  (aY (kI (bJ T.F_q0 e h rfl (aF (aD 0) (aF (aD 2) aL rfl) rfl) dE))
  (bC (bT (bJ T.F_qg b h rfl (aF (bJ T.F_p3 f h rfl (aF (aS aU (aD 0) aI) aL rfl) fJ) (aF (aD 1) (aF (aD 2) aL rfl) rfl) rfl) dP)))))
theorem KL(e:aQ P w K mg base aR 6 (a 30) (d 30) ["floor","cell"] (aW K 2 iD))(j:aQ P w K mg base aR 7 (a 33) (d 33) ["floor","eyes"] (aW K 2 nX))(h:aQ P w K mg base aR 3 (a 22) (d 22) ["times","goal"] (aW K 2 rM))(l:aQ P w K mg base aR 6 (a 31) (d 31) ["floor","eyes"] (aW K 2 rQ))(f:aQ P w K mg base aR 3 (a 23) (d 23) ["loads","one","other"] (kT K 3 rR iC lZ))(r:K.In base)(t:Bm mg base):aQ P w K mg base aR 8 (a 36) (d 36) ["floor","eyes","one","other"] (kT K 4 jI iC lZ):=by
 refine zS (g:=Ez) (G:=jI) (N:=B7) (k:=7) rfl rfl rfl T.F_qq.F GY fun q A n s H E o p c=>?_
 exact(aY (kI (bJ T.F_q2 e c rfl (aF (aD 0) (aF (aD 2) aL rfl) rfl) dE))
  (aY (kI (bJ T.F_q2 e c rfl (aF (aD 0) (aF (aD 3) aL rfl) rfl) dE))
  (aY (kI (bJ T.F_q7 j c rfl (aF (aD 0) (aF (aD 1) aL rfl) rfl) dE))
  (aY (cD (i:=4) GY.nd (bJ T.F_qs h c rfl (aF (bJ T.F_q5 l c rfl (aF (aD 0) (aF (aD 1) aL rfl) rfl) dE) (aF (aD 3) aL rfl) rfl) dE))
  (aY (eF (cN (nH (cY c)) (aD 2) (aD 4) (by with_unfolding_all rfl)) (bC sD) eG)
  (bC (bT (dG (aF (aS aU (aS (mW (cY c)) (aD 4) (aD 2)) aI) (aF (r0 f p (c.mono (by decide)) rfl T.F_qu.m T.F_qu.F.kp T.F_qu.b (aF (aD 4) (aF (aD 2) (aF (aD 3) aL rfl) rfl) rfl) dP) aL rfl) rfl)))))))))
theorem Kp(b:aQ P w K mg base aR 8 (a 34) (d 34) ["floor","cells"] (aW K 2 rP)):aQ P w K mg base aR 9 (a 37) (d 37) ["floor","cells"] (aW K 2 rO):=by
 refine cO (g:=Bf) (G:=rO) (N:=xH) (k:=8) rfl rfl rfl T.F_q8.F GW fun f A c s H E e=>?_
 exact(aY (cD (i:=2) GW.nd (bJ T.F_qa b e rfl (aF (aD 0) (aF (aD 1) aL rfl) rfl) dE))
  (bC (bT (gW rfl (gM (N':=Dy) (inner:=[none,some 2]) (bB uC) xH rfl rfl (by decide +kernel)) (gN 0) (Ds (aD 2)) (fun _ _ _ _ _=>(cV (i:=0) P2)) (fun _ _ _ _ _=>(m6 (cN sR (aS (mW (cY e)) (aD 1) (aD 0)) aI (dR _)))) (fun _ _ _ _ _=>(aD 0))))))
theorem Ku(b:aQ P w K mg base aR 8 (a 35) (d 35) ["floor","eyes","cell"] (aW K 3 pC)):aQ P w K mg base aR 9 (a 38) (d 38) ["_law_floor_here","_law_eyes_here","_law_cells_here"] (aW K 3 l4):=by
 refine cO (g:=Ee) (G:=l4) (N:=xL) (k:=8) rfl rfl rfl T.F_qd.F LF fun f A c s H E e=>?_
 exact(bC (bT (eN (MA rfl) rfl T.z_sum PyProof.Rows.boot_sum (aF (gW rfl (gM (N':=DF) (inner:=[none,some 0,some 1]) (bB uG) xL rfl rfl (by decide +kernel)) (gN 0) (hF (aD 2)) (fun _ _ _ _ _=>(cV (i:=0) P6)) (fun _ _ _ _ _=>l8) (fun _ _ _ _ _=>(eN kF rfl T.z_len PySem.boot_len (aF (bJ T.F_p0 b e rfl (aF (aD 1) (aF (aD 2) (aF (aD 0) aL rfl) rfl) rfl) dP) aL rfl)))) aL rfl))))
theorem Kz(c:aQ P w K mg base aR 6 (a 30) (d 30) ["floor","cell"] (aW K 2 iD))(e:aQ P w K mg base aR 1 (a 2) (d 2) ["things"] (aW K 1 gL))(f:aQ P w K mg base aR 3 (a 21) (d 21) ["ground","start"] (aW K 2 rS))(j:aQ P w K mg base aR 9 (a 37) (d 37) ["floor","cells"] (aW K 2 rO))(h:aQ P w K mg base aR 2 (a 11) (d 11) ["floor"] (aW K 1 fR)):aQ P w K mg base aR 10 (a 39) (d 39) ["floor","watchers","one","other"] (aW K 4 pE):=by
 refine cO (g:=Em) (G:=pE) (N:=xP) (k:=9) rfl rfl rfl T.F_qi.F wR fun m A l s H E b=>?_
 exact(aY (kI (bJ T.F_q2 c b rfl (aF (aD 0) (aF (aD 2) aL rfl) rfl) dE))
  (aY (kI (bJ T.F_q2 c b rfl (aF (aD 0) (aF (aD 3) aL rfl) rfl) dE))
  (aY (cD (i:=4) wR.nd (bJ T.F_p3 e b rfl (aF (bJ T.F_q8 j b rfl (aF (aD 0) (aF (aD 1) aL rfl) rfl) dE) aL rfl) fJ))
  (aY (cD (i:=5) wR.nd (bJ T.F_p3 e b rfl (aF (gW rfl (gM (N':=DM) (inner:=[none,some 4]) (bB uK) xP rfl rfl (by decide +kernel)) (gN 0) (hF (bJ T.F_qe h b rfl (aF (aD 0) aL rfl) fJ)) (fun _ _ _ _ _=>(cV (i:=0) P9)) (fun _ _ _ _ _=>(m6 (cN (nH (cY b)) (aD 0) (aD 1) (by with_unfolding_all rfl)))) (fun _ _ _ _ _=>(aD 0))) aL rfl) fJ))
  (aY (eF (cN (nH (cY b)) (aD 2) (aD 5) (by with_unfolding_all rfl)) (bC sD) eG)
  (aY (cD (i:=6) wR.nd (bJ T.F_ql f b rfl (aF (aD 5) (aF (aD 2) aL rfl) rfl) dE))
  (aY (eF (cN (nH (cY b)) (aD 3) (aD 6) (by with_unfolding_all rfl)) (bC sD) eG)
  (bC (bT (aS (mW (cY b)) (aD 6) (aD 3)))))))))))
theorem Kg(p:aQ P w K mg base aR 3 (a 24) (d 24) ["_law_script","_law_at_here","_law_most"] (aW K 3 pA))(n:aQ P w K mg base aR 2 (a 17) (d 17) ["_law_floor_here"] (aW K 1 nU))(l:aQ P w K mg base aR 3 (a 25) (d 25) ["_law_script","_law_at_here","_law_floor_here"] (aW K 3 rE))(e:aQ P w K mg base aR 8 (a 36) (d 36) ["floor","eyes","one","other"] (kT K 4 jI iC lZ))(j:aQ P w K mg base aR 2 (a 18) (d 18) ["_law_floor_here","_law_cell_here","_law_word"] (aW K 3 kD))(f:aQ P w K mg base aR 2 (a 16) (d 16) ["_law_script","_law_k","_law_many"] (aW K 3 dB))(h:aQ P w K mg base aR 9 (a 38) (d 38) ["_law_floor_here","_law_eyes_here","_law_cells_here"] (aW K 3 l4))(o:aQ P w K mg base aR 10 (a 39) (d 39) ["floor","watchers","one","other"] (aW K 4 pE))(v:K.In base)(x:Bm mg base):aQ P w K mg base aR 11 (a 40) (d 40) ["_law_script"] (kT K 1 mL iC lZ):=by
 refine zS (g:=x5) (G:=mL) (N:=BR) (k:=10) rfl rfl rfl T.F_p4.F i1 fun u A r s H E t q c=>?_
 exact(aY (cD (i:=1) i1.nd (bJ T.F_qh p c rfl (aF (aD 0) (aF aI (aF aI aL rfl) rfl) rfl) dP))
  (aY (cD (i:=2) i1.nd (bJ T.F_qo n c rfl (aF (aD 1) aL rfl) fJ))
  (aY (eF (cN (u7 (gK c)) (aD 2) (@kG _ _ _ _ aL) (dR _)) (bC (bT iV)) eG)
  (aY (cD (i:=3) i1.nd (bJ T.F_qp l c rfl (aF (aD 0) (aF aI (aF (aD 1) aL rfl) rfl) rfl) dP))
  (aY (l7 (i:=4) i1.nd (aF (aS aU (aD 2) (bJ T.F_qj f c rfl (aF (aD 0) (aF aI (aF (eN kF rfl T.z_len PySem.boot_len (aF (aD 2) aL rfl)) aL rfl) rfl) rfl) dP)) aL rfl))
  (aY (iE Q5 rfl (n7 rfl T.z_range (aF (eN (Mu rfl) rfl T.z_max boot_max (aF aI (aF (eN (Mv rfl) rfl T.z_min boot_min (aF aI (aF (eN kF rfl T.z_len PySem.boot_len (aF (aD 0) aL rfl)) aL rfl) rfl)) aL rfl) rfl)) aL rfl)) (cV (i:=5) i1.nd) (aY (C1 (i:=6) i1.nd (bJ T.F_q9 j c rfl (aF (aD 1) (aF (aS aU (aD 4) (gX hO aI)) (aF (aS yB r8 (bJ T.F_qj f c rfl (aF (aD 0) (aF (bE cT aI (aD 5)) (aF aI aL rfl) rfl) rfl) dP)) aL rfl) rfl) rfl) dP))
  (bC (eF (cN PL (aD 6) Aj (dR _)) (bC (sC (i:=4) (aD 6))) eG))))
  (vN 4 (aY (Nw (r0 e q (c.mono (by decide)) rfl T.F_qq.m T.F_qq.F.kp T.F_qq.b (aF (aD 1) (aF (aD 3) (aF (aS aU (aD 4) aI) (aF (aS aU (aD 4) (gX hO aI)) aL rfl) rfl) rfl) rfl) qM) (sA rfl (kH (cV (i:=7) i1.nd) (kH (cV (i:=8) i1.nd) sB))))
  (vN 4 (aY (l7 (i:=9) i1.nd (aF (aS aU (aD 4) aI) aL rfl))
  (aY (iE Q5 rfl (N9 (aD 8)) (cV (i:=10) i1.nd) (aY (Nv (i:=9) (bJ T.F_q9 j c rfl (aF (aD 1) (aF (aS aU (aD 9) (gX hO aI)) (aF (aD 10) aL rfl) rfl) rfl) dP))
  (bC (eF (cN PK (aS aU (aD 9) (gX hO aI)) Aj (dR _)) (bC (bT iV)) eG))))
  (aY (eF (lP (pH (cN (k3 (gK c)) (aS aU (aD 9) (gX hO aI)) (aS aU (aD 4) (gX hO aI)) (dR _)) (qW (cN (k3 (gK c)) (bJ T.F_qd h c rfl (aF (aD 1) (aF (aD 3) (aF (aD 9) aL rfl) rfl) rfl) dP) (aD 7) (dR _))))) (bC (bT iV)) eG)
  (aY (eF (cN (PJ (gK c)) (dG (aF (aD 7) (aF (eN Ae rfl T.z_len PySem.boot_len (aF (aD 8) aL rfl)) aL rfl) rfl)) (dG (aF (bJ T.F_qd h c rfl (aF (aD 1) (aF (aD 3) (aF (aD 4) aL rfl) rfl) rfl) dP) (aF (bE mF (eN kF rfl T.z_len PySem.boot_len (aF (aD 4) aL rfl)) aI) aL rfl) rfl)) (dR _)) (bC (bT iV)) eG)
  (vN 4 (aY (cD (i:=11) i1.nd (r0 e q (c.mono (by decide)) rfl T.F_qq.m T.F_qq.F.kp T.F_qq.b (aF (aD 1) (aF (aD 3) (aF (aS aU (aD 4) (gX hO aI)) (aF (aS aU (aD 4) aI) aL rfl) rfl) rfl) rfl) qM))
  (aY (eF (cN (k3 (gK c)) (dG (aF (aS aU (aD 11) aI) (aF (eN Ae rfl T.z_len PySem.boot_len (aF (aS aU (aD 11) aI) aL rfl)) aL rfl) rfl)) (dG (aF (aD 7) (aF (eN Ae rfl T.z_len PySem.boot_len (aF (aD 8) aL rfl)) aL rfl) rfl)) (dR _)) (bC (bT iV)) eG)
  (aY (cD (i:=12) i1.nd (bE cT (aD 3) (@kG _ _ _ _ (aF (dG (aF (aS aU (aD 2) (bJ T.F_qj f c rfl (aF (aD 0) (aF aI (aF (eN kF rfl T.z_len PySem.boot_len (aF (aD 2) aL rfl)) aL rfl) rfl) rfl) dP)) (aF (aS yB r8 (bJ T.F_qj f c rfl (aF (aD 0) (aF aI (aF aI aL rfl) rfl) rfl) dP)) (aF aI aL rfl) rfl) rfl)) aL rfl))))
  (aY (eF (cN nF (aS aU (r0 e q (c.mono (by decide)) rfl T.F_qq.m T.F_qq.F.kp T.F_qq.b (aF (aD 1) (aF (aD 12) (aF (aS aU (aD 4) aI) (aF (aS aU (aD 4) (gX hO aI)) aL rfl) rfl) rfl) rfl) qM) aI) (aD 7) (dR _)) (bC (bT iV)) eG)
  (bC (bT (vI (u7 (gK c)) (r0 e q (c.mono (by decide)) rfl T.F_qq.m T.F_qq.F.kp T.F_qq.b (aF (aD 1) (aF (@kG _ _ _ _ aL) (aF (aS aU (aD 4) aI) (aF (aS aU (aD 4) (gX hO aI)) aL rfl) rfl) rfl) rfl) qM) (dG (aF aI (aF (bJ T.F_qi o c rfl (aF (aD 1) (aF (@kG _ _ _ _ aL) (aF (aS aU (aD 4) aI) (aF (aS aU (aD 4) (gX hO aI)) aL rfl) rfl) rfl) rfl) qM) aL rfl) rfl)) (dR _))))))))))))))))))))))
end
end My
namespace My
open PySem.SeqAt L2 DL SD SL EL DC
abbrev C:=Int × Int
def aC(c:C):D:=.tuple [.int c.1,.int c.2]
theorem Im(i j:Int):bP (.int i) (.int j)=some (.int (i+j)):=id rfl
theorem IZ(i j:Int):dZ (.int i) (.int j)=some (.bool (!(i == j))):=id rfl
theorem nA(l:List D):dO [.list l]=some (.int l.length):=id rfl
theorem iZ{i j:Int}(h:mE i j=true):cF (.int i) (.int j)=some (.int (i * j)):=by
 show(if mE i j=true then _ else _)=_
 rw [if_pos h]
theorem zP{i j:Int}(h:pT i j=true):lB (.int i) (.int j)=some (.int (i / j)):=by
 show(if pT i j=true then _ else _)=_
 rw [if_pos h]
theorem nC{i j:Int}(h:0<j):iP (.int i) (.int j)=some (.int (i % j)):=by
 show(if decide (0<j)=true then _ else _)=_
 rw [if_pos (decide_eq_true h)]
theorem lU{i j:Int}(b:-18446744073709551616<i)(a:i<18446744073709551616):mE i j=true:=by
 unfold mE;rw [decide_eq_true b,decide_eq_true a];rfl
theorem qQ{i j:Int}(b:-18446744073709551616<j)(a:j<18446744073709551616):mE i j=true:=by
 unfold mE;rw [decide_eq_true b,decide_eq_true a];simp
theorem yG{i j:Int}(b:0<j)(a:j<1073741824):pT i j=true:=by
 unfold pT;rw [decide_eq_true b,decide_eq_true a];rfl
section
variable {α β:Type}
theorem vB{s:D->aA->Option aA}{t:aA->Option Bool}{ge:aA->Option D}(item:α->D)(p:α->Bool)(f:α->D)(I:aA->Prop):∀{xs:List α}{ρ:aA},I ρ->
  (∀ a∈xs,∀ ρ,I ρ->∃ ρ',s (item a) ρ=some ρ'/\I ρ'/\t ρ'=some (p a)/\(p a=true->ge ρ'=some (f a)))->o8 s t ge (xs.map item) ρ=some ((xs.filter p).map f)
 | [],_,_,_=>rfl
 | x::xs,ρ,h0,h=>by
  obtain⟨ρ',i,c,g,e⟩:=h x Qe ρ h0;have b:=vB item p f I c fun y d=>h y (Qg _ d);rw [Qp];unfold o8;rw [i,Qi,g,Qi]
  cases q:p x with
  | true=>rw [if_pos rfl,e q,Qi,b,List.filter_cons_of_pos q];rfl
  | false=>rw [if_neg Qx,b,List.filter_cons_of_neg (by rw [q];exact Qx)]
theorem Gk{gi:aA->Option (List D)}{s:D->aA->Option aA}{t:aA->Option Bool}{ge:aA->Option D}{inner:List (Option Nat)}{ρ:aA}{xs:List α}(item:α->D)(p:α->Bool)(f:α->D)(I:aA->Prop)(c:gi ρ=some (xs.map item))(b:xs.length<=1000)(d:I (iX inner ρ))
  (h:∀ a∈xs,∀ ρ,I ρ->∃ ρ',s (item a) ρ=some ρ'/\I ρ'/\t ρ'=some (p a)/\(p a=true->ge ρ'=some (f a))):eA (dX gi s t ge inner) ρ=some (.list ((xs.filter p).map f)):=by
 have q:=vB item p f I d h;unfold eA dX;rw [c,Qi,q,Qi,if_pos (by rw [Qo];exact Qz (Ye _ _) b)];rfl
theorem iG{gi:aA->Option (List D)}{s:D->aA->Option aA}{t:aA->Option Bool}{ge:aA->Option D}{inner:List (Option Nat)}{ρ:aA}{xs:List α}{out:List D}(item:α->D)(p:α->Bool)(f:α->D)(I:aA->Prop)(d:gi ρ=some (xs.map item))(c:xs.length<=1000)(e:I (iX inner ρ))
  (h:∀ a∈xs,∀ ρ,I ρ->∃ ρ',s (item a) ρ=some ρ'/\I ρ'/\t ρ'=some (p a)/\(p a=true->ge ρ'=some (f a))) (b:(xs.filter p).map f=out):eA (dX gi s t ge inner) ρ=some (.list out):=by
 rw [<- b];exact Gk item p f I d c e h
theorem lH(l:List α):l.filter (fun _=>true)=l:=by induction l with
 | nil=>rfl
 | cons a l b=>simp [b]
theorem pK{s:D->aA->Option aA}{g:aA->Option aP}(item:α->D)(env:β->aA)(step:β->α->β)(P:Nat->β->Prop)(n:Nat):∀(xs:List α) (i:Nat) (b:β),i+xs.length<=n->P i b->
  (∀ a∈xs,∀ i b,i<n->P i b->(∃ ρ1,s (item a) (env b)=some ρ1/\g ρ1=some (.nx (env (step b a))))/\P (i+1) (step b a))->fZ s g (xs.map item) (env b)=some (.nx (env (xs.foldl step b)))
 | [],_,b,_,_,_=>rfl
 | x::xs,i,b,hi,hp,h=>by
  rw [QE]at hi;obtain⟨⟨ρ1,f,e⟩,c⟩:=h x Qe i b (by lia) hp;rw [Qp];unfold fZ;rw [f,Qi,e,Qi];exact pK item env step P n xs (i+1) _ (by lia) c fun a d=>h a (Qg _ d)
theorem A3{s:D->aA->Option aA}{g:aA->Option aP}(item:α->D)(I:aA->Prop)(p:α->Bool)(d:D):∀(xs:List α) (ρ:aA),I ρ->
  (∀ a∈xs,∀ ρ,I ρ->∃ ρ1,s (item a) ρ=some ρ1/\if p a=true then g ρ1=some (.rt d)else ∃ ρ2,g ρ1=some (.nx ρ2)/\I ρ2)->
  if xs.any p=true then fZ s g (xs.map item) ρ=some (.rt d)else ∃ ρ',fZ s g (xs.map item) ρ=some (.nx ρ')/\I ρ'
 | [],ρ,h0,_=>by rw [if_neg (by simp)];exact⟨ρ,rfl,h0⟩
 | x::xs,ρ,h0,h=>by
  obtain⟨ρ1,f,b⟩:=h x Qe ρ h0;rw [Qp,JI];unfold fZ;rw [f,Qi]
  cases q:p x with
  | true=>
   rw [q,if_pos rfl]at b;rw [Bool.true_or,if_pos rfl,b];rfl
  | false=>
   rw [q,if_neg Qx]at b;obtain⟨ρ2,b,c⟩:=b;rw [Bool.false_or,b,Qi];exact A3 item I p d xs ρ2 c fun a e=>h a (Qg _ e)
theorem Fd{s:D->aA->Option aA}{g:aA->Option aP}(item:α->D)(I:aA->Prop):∀(xs:List α) (ρ:aA),I ρ->
  (∀ a∈xs,∀ ρ,I ρ->∃ ρ1 ρ2,s (item a) ρ=some ρ1/\g ρ1=some (.nx ρ2)/\I ρ2)->∃ ρ',fZ s g (xs.map item) ρ=some (.nx ρ')/\I ρ'
 | [],ρ,h0,_=>⟨ρ,rfl,h0⟩
 | x::xs,ρ,h0,h=>by
  obtain⟨ρ1,ρ2,e,d,b⟩:=h x Qe ρ h0;rw [Qp];unfold fZ;rw [e,Qi,d,Qi];exact Fd item I xs ρ2 b fun a c=>h a (Qg _ c)
end
theorem GL(h:Nat)(a:h<1000):oP [.int h]=some ((J5 h).map fun(k:Nat)=>.int (k:Int)):=by
 show(if -4611686018427387904<=(h:Int)/\(h:Int)<4611686018427387904 then some ((J5 (h:Int).toNat).map fun(k:Nat)=>J3 (0+(k:Int)))else none)=_
 rw [if_pos ⟨by lia,by lia⟩,YZ];congr 2
 funext k
 rw [Int.zero_add]
section
variable {g g1 g2:aA->Option aP}{t u:aA->Option Bool}{ga gb gc:aA->Option D}{gr:aA->Option (List D)}{ρ:aA}{d:D}
theorem Iq:eC d ρ=some d:=id rfl
theorem Ir(f:D->D->Option D):aE f ga gb ρ=(ga ρ).bind fun x=>(gb ρ).bind fun y=>f x y:=id rfl
theorem ME:fY gr ρ=(gr ρ).bind fun xs=>if xs.length<=1000 then some (.list xs)else none:=id rfl
theorem C3:gQ t u ρ=(t ρ).bind fun b=>if b=true then some true else u ρ:=id rfl
end
section
variable {α β:Type}(a:α)(l m:List α)(n:Nat)(f:α->β)
theorem Id(k:α->Option β):(some a).bind k=k a:=id rfl
end
def sH{c:Type}(a:c->Bool)(step:c->c):Nat->c->Option c
 | 0,_=>none
 | n+1,b=>if a b=true then sH a step n (step b)else some b
theorem HS{d:Type}{t:aA->Option Bool}{g:aA->Option aP}(env:d->aA)(a:d->Bool)(step:d->d)(P:Nat->d->Prop)(e:∀ n b,P n b->t ((env b).map frz)=some (a b))
  (f:∀ n b,P (n+1) b->a b=true->g (env b)=some (.nx (env (step b)))/\P n (step b)):∀ n b b',P n b->sH a step n b=some b'->i5 t g n (env b)=some (.nx (env b'))
 | 0,_,_,_,h=>by cases h
 | n+1,b,b',p,h=>by
  unfold sH at h;unfold i5;rw [e _ b p,Qi];by_cases c:a b=true
  ·rw [if_pos c]at h ⊢;obtain⟨j,i⟩:=f n b p c;rw [j,Qi];exact HS env a step P e f n _ b' i h
  ·rw [if_neg c]at h ⊢;cases h;rfl
theorem aX{b a:aA->Option aP}{ρ ρ':aA}{r:Option aP}(h:b ρ=some (.nx ρ'))(c:a ρ'=r):aO b a ρ=r:=by
 unfold aO;rw [h];exact c
theorem pZ{a b:aA->Option aP}{ρ:aA}{d:D}(h:a ρ=some (.rt d)):aO a b ρ=some (.rt d):=by
 unfold aO;rw [h];rfl
theorem cL{n:Nat}{g:aA->Option aP}{ds:List D}{d:D}(h:g (eU n ds)=some (.rt d)):bU n g ds=some d:=by
 unfold bU;rw [h]
theorem jG{gi:aA->Option (List D)}{s:D->aA->Option aA}{g:aA->Option aP}{ρ:aA}{xs:List D}{r:Option aP}(b:gi ρ=some xs)(a:fZ s g xs ρ=r):eM gi s g ρ=r:=by
 unfold eM;rw [b];exact a
theorem AX{i:Nat}{g:aA->Option aP}{ρ:aA}{r:Option aP}(h:g (A4 i ρ)=r):jV i g ρ=r:=h
theorem iI{t:aA->Option Bool}{c a:aA->Option aP}{ρ:aA}{b:Bool}{r:Option aP}(h:t (ρ.map frz)=some b)(e:b=true->c ρ=r)(d:b=false->a ρ=r):cG t c a ρ=r:=by
 unfold cG;rw [h]
 cases b with
 | true=>exact e rfl
 | false=>exact d rfl
theorem cE{ga:aA->Option D}{ρ:aA}{d:D}(h:ga (ρ.map frz)=some d):bN ga ρ=some (.rt d):=by
 unfold bN;rw [h];rfl
theorem cQ{i:Nat}{ga:aA->Option D}{ρ:aA}{d:D}(h:ga ρ=some d):bQ i ga ρ=some (.nx (ρ.set i (.dat d))):=by
 unfold bQ;rw [h];rfl
theorem aT{G:List D->Option D}{gr:aA->Option (List D)}{ρ:aA}{ds:List D}{r:Option D}(h:gr ρ=some ds)(a:G ds=r):aJ G gr ρ=r:=by
 unfold aJ;rw [h];exact a
theorem wL{gr:aA->Option (List D)}{s:D->aA->Option aA}{g:aA->Option aP}{ρ:aA}{n:Nat}{r:Option aP}(d:gr ρ=some [.int (n:Nat)])(b:n<1000)(c:fZ s g ((J5 n).map fun(k:Nat)=>.int (k:Int)) ρ=r):eM (iW gr) s g ρ=r:=by
 show((gr ρ).bind oP).bind (fun a=>fZ s g a ρ)=r
 rw [d,Qi,GL n b,Qi];exact c
theorem Bn{gr:aA->Option (List D)}{ρ:aA}{n:Nat}(b:gr ρ=some [.int (n:Nat)])(a:n<1000):iW gr ρ=some ((J5 n).map fun(k:Nat)=>.int (k:Int)):=by
 show(gr ρ).bind oP=_
 rw [b,Qi,GL n a]
theorem oo{f:D->D->Option D}{ga gb:aA->Option D}{ρ:aA}{x y:D}{r:Option D}(c:ga ρ=some x)(b:gb ρ=some y)(a:f x y=r):aE f ga gb ρ=r:=by
 unfold aE;rw [c,Qi,b];exact a
theorem oB{ga:aA->Option D}{ρ:aA}{b:Bool}(h:ga ρ=some (.bool b)):eB ga ρ=some b:=by
 unfold eB;rw [h];rfl
theorem sX{i:Nat}{ga:aA->Option D}{ρ:aA}{ds:List D}{d:D}(c:ρ[i]?=some (.own ds))(b:ga ρ=some d)(a:ds.length<1000):jF i ga ρ=some (.nx (ρ.set i (.own (ds++[d])))):=by
 unfold jF;rw [c]
 show(ga ρ).bind _=_
 rw [b,Qi,if_pos a]
theorem kL{ga:aA->Option D}{ρ:aA}{d:D}(h:ga ρ=some d):iJ ga ρ=some (.nx ρ):=by
 unfold iJ;rw [h];rfl
theorem bA{ga:aA->Option D}{gr:aA->Option (List D)}{ρ:aA}{d:D}{ds:List D}(h:ga ρ=some d)(a:gr ρ=some ds):aB ga gr ρ=some (d::ds):=by
 unfold aB;rw [h,Qi,a];rfl
theorem dS{t:aA->Option Bool}{a:aA->Option aP}{ρ:aA}(h:t (ρ.map frz)=some false):cG t a cR ρ=some (.nx ρ):=by
 unfold cG;rw [h];rfl
theorem oN{t:aA->Option Bool}{ρ:aA}{b:Bool}(h:t ρ=some b):hY t ρ=some (!b):=by
 unfold hY;rw [h];rfl
theorem qO{t u:aA->Option Bool}{ρ:aA}{r:Option Bool}(h:t ρ=some true)(a:u ρ=r):jR t u ρ=r:=by
 unfold jR;rw [h];exact a
theorem yF{t u:aA->Option Bool}{ρ:aA}(h:t ρ=some false):jR t u ρ=some false:=by
 unfold jR;rw [h];rfl
theorem zU{n:Nat}{g:aA->Option aP}{ds:List D}{ρ:aA}(h:g (eU n ds)=some (.nx ρ)):bU n g ds=some .none:=by
 unfold bU;rw [h]
theorem Cy{ga gb:aA->Option D}{ρ:aA}{r:Option D}(h:ga ρ=some (.bool true))(a:gb ρ=r):lG ga gb ρ=r:=by
 unfold lG;rw [h];exact a
theorem iS{ga gb:aA->Option D}{ρ:aA}{x y:D}(b:ga ρ=some x)(a:gb ρ=some y):bV (aB ga (aB gb aG)) ρ=some (.tuple [x,y]):=by
 unfold bV;rw [bA b (bA a rfl)];rfl
theorem CA{ga gb a:aA->Option D}{ρ:aA}{x y z:D}(d:ga ρ=some x)(c:gb ρ=some y)(b:a ρ=some z):bV (aB ga (aB gb (aB a aG))) ρ=some (.tuple [x,y,z]):=by
 unfold bV;rw [bA d (bA c (bA b rfl))];rfl
theorem Cz{t u:aA->Option Bool}{ρ:aA}{r:Option Bool}(h:t ρ=some false)(a:u ρ=r):gQ t u ρ=r:=by
 unfold gQ;rw [h];exact a
theorem Ru{ga:aA->Option D}{s:D->aA->Option aA}{ρ ρ':aA}{d:D}(h:ga ρ=some d)(a:s d ρ=some ρ'):qR ga s ρ=some (.nx ρ'):=by
 unfold qR;rw [h,Qi,a];rfl
theorem Kb{ga gb:aA->Option D}{ρ:aA}(h:ga ρ=some (.bool false)):lG ga gb ρ=some (.bool false):=by
 unfold lG;rw [h];rfl
theorem iF{ga:aA->Option D}{ρ:aA}{d:D}{l:List D}(b:ga ρ=some d)(a:m5 d=some l):dH ga ρ=some l:=by
 show(ga ρ).bind m5=_
 rw [b,Qi,a]
end My
namespace My
open PySem.SeqAt L2 DL SD SL EL DC
abbrev fB:=List Int
def mV(p:fB):List fB->List fB
 | []=>[p]
 | q::r=>if HT.lexLt q p=true then q::mV p r else p::q::r
def i3:List fB->List fB
 | []=>[]
 | p::r=>mV p (i3 r)
def fK(k:fB):KD:=(k,fL k)
theorem FU(p:fB):∀ l:List fB,kA (fK p) (l.map fK)=(mV p l).map fK
 | []=>rfl
 | q::r=>by
  show(if HT.lexLt q p=true then fK q::kA (fK p) (r.map fK)else fK p::fK q::r.map fK)=(if HT.lexLt q p=true then q::mV p r else p::q::r).map fK
  split
  ·rw [FU p r];rfl
  ·rfl
theorem As:∀ l:List fB,gD (l.map fK)=(i3 l).map fK
 | []=>rfl
 | p::r=>by
  show kA (fK p) (gD (r.map fK))=(mV p (i3 r)).map fK
  rw [As r,FU]
theorem FV(p:fB):∀ l:List fB,(mV p l).Perm (p::l)
 | []=>.refl _
 | q::r=>by
  unfold mV;split
  ·exact((FV p r).cons q).trans (.swap _ _ _)
  ·exact .refl _
theorem Au:∀ l:List fB,(i3 l).Perm l
 | []=>.refl _
 | p::r=>(FV p (i3 r)).trans ((Au r).cons p)
theorem TD(l:List fB):(i3 l).Pairwise fun a b=>HT.lexLt b a=false:=by
 have:=sZ (l.map fK)
 rw [As,Ya]at this;exact this
theorem Dl:∀ l:List fB,l.Nodup->dd l=l
 | [],_=>rfl
 | k::r,h=>by
  obtain⟨b,a⟩:=Ys.mp h;unfold dd;rw [if_neg b,Dl r a]
theorem Gv:∀{k m:fB},k.length=m.length->fU (k.map J3) (m.map J3)=true
 | [],[],_=>rfl
 | x::k,y::m,h=>by
  show(iY (.int x) (.int y) && fU (k.map J3) (m.map J3))=true
  rw [Gv (by simpa using h)];rfl
 | [],_::_,h=>by cases h
 | _::_,[],h=>by cases h
theorem E5:∀ k:fB,fT (k.map J3)=some k
 | []=>rfl
 | x::k=>by
  have:=E5 k
  show(some [x]).bind (fun a=>(fT (k.map J3)).bind fun b=>some (a++b))=_
  rw [this];rfl
theorem GP{d0:fB}(b:d0≠[]):∀{l:List fB},(∀ k∈l,k.length=d0.length)->eZ (d0.map J3) (l.map fL)=some (l.map fK)
 | [],_=>rfl
 | k::l,h=>by
  have a:=h k Qe
  have c:kC (d0.map J3) (fL k)=some k:=by
   cases k with
   | nil=>exact absurd (Jz a.symm) b
   | cons x k=>
    show(if fU (d0.map J3) ((x::k).map J3)=true then fT ((x::k).map J3)else none)=_
    rw [if_pos (Gv a.symm),E5]
  show(kC (d0.map J3) (fL k)).bind _=_
  rw [c,Qi,GP b fun k a=>h k (Qg _ a)];rfl
theorem s0{l:List fB}(h:∀ k∈l,k.length=2)(d:l.length<=63):n5 [.list (l.map fL)]=some (.list ((i3 l).map fL)):=by
 cases l with
 | nil=>rfl
 | cons a b=>
  have c:a.length=2:=h a Qe;have f:=GP (d0:=a) (fun q=>by rw [q]at c;cases c) (l:=a::b) fun k e=>(h k e).trans c.symm
  show(if(b.map fL).length<63 then(eZ (a.map J3) ((a::b).map fL)).bind fun l=>some (Uq ((gD l).map (·.2)))else none)=_
  rw [if_pos (by rw [Qo];simp only [QE]at d;lia),f]
  show some (Uq ((gD ((a::b).map fK)).map (·.2)))=_
  rw [As,Yk];rfl
def row(c:C):fB:=[c.1,c.2]
def mX(a b:C):Bool:=HT.lexLt (row a) (row b)
theorem pQ(a b:C):mX a b=true ↔ a.1<b.1 ∨ (a.1=b.1/\a.2<b.2):=by
 unfold mX row;rw [HT.lexLt_cons];by_cases h:a.1=b.1
 ·rw [if_pos h,HT.lexLt_cons];by_cases c:a.2=b.2
  ·rw [if_pos c];simp [HT.lexLt];lia
  ·rw [if_neg c];simp;lia
 ·rw [if_neg h];simp;lia
def Up(l:List C):Prop:=l.Pairwise fun a b=>mX a b=true
theorem AA:∀{l m:List C},Up l->Up m->(∀ c,c∈l ↔ c∈m)->l=m
 | [],[],_,_,_=>rfl
 | [],b::m,_,_,h=>nomatch (h b).mpr Qe
 | a::l,[],_,_,h=>nomatch (h a).mp Qe
 | a::l,b::m,h1,h2,h=>by
  obtain⟨g,j⟩:=Ym.mp h1;obtain⟨f,i⟩:=Ym.mp h2
  have d:∀ c:C,mX c c=true->False:=fun c q=>by rw [pQ]at q;lia
  have e:a=b:=by
   rcases Qj.mp ((h a).mp Qe)with q | q
   ·exact q
   ·rcases Qj.mp ((h b).mpr Qe)with r | r
    ·exact r.symm
    ·have x:=f a q;have y:=g b r;rw [pQ]at x y;lia
  subst e;congr 1;refine AA j i fun c=>⟨fun q=>?_,fun q=>?_⟩
  ·rcases Qj.mp ((h c).mp (Qg _ q))with r | r
   ·subst r;exact(d _ (g _ q)).elim
   ·exact r
  ·rcases Qj.mp ((h c).mpr (Qg _ q))with r | r
   ·subst r;exact(d _ (f _ q)).elim
   ·exact r
theorem nN{l:List C}(h:Up l):l.Nodup:=h.imp fun{a b} q e=>by subst e;rw [pQ]at q;lia
theorem TC{l:List C}(k:l.Nodup):∃ m:List C,i3 (l.map row)=m.map row/\Up m/\∀ c,c∈m ↔ c∈l:=by
 obtain⟨m,o⟩:∃ m:List C,m=(i3 (l.map row)).map fun r=>(r.getD 0 0,r.getD 1 0):=⟨_,rfl⟩;have f:∀ r,r∈i3 (l.map row) ↔ r∈l.map row:=fun r=>(Au _).mem_iff
 have e:i3 (l.map row)=m.map row:=by
  rw [o,Yk]
  conv=>lhs;rw [<- List.map_id (i3 (l.map row))]
  refine Y7 fun r j=>?_;obtain⟨c,_,rfl⟩:=QN.mp ((f r).mp j);rfl
 have inj:∀ a b:C,row a=row b->a=b:=fun a b q=>by
  unfold row at q
  injection q with q1 q2
  injection q2 with q2 _
  exact Jj q1 q2
 have i:∀ c,c∈m ↔ c∈l:=fun c=>by
  constructor
  ·intro h
   have:row c∈l.map row:=(f _).mp (by rw [e];exact JT h)
   obtain⟨d,g,q⟩:=QN.mp this;rw [<- inj _ _ q];exact g
  ·intro h
   have:row c∈m.map row:=by rw [<- e];exact(f _).mpr (JT h)
   obtain⟨d,g,q⟩:=QN.mp this;rw [<- inj _ _ q];exact g
 refine⟨m,e,?_,i⟩
 have s:=TD (l.map row)
 have n:(i3 (l.map row)).Nodup:=(Au _).nodup_iff.mpr (by
  rw [UH,Ya]
  exact k.imp fun{a b} q r=>q (inj _ _ r))
 rw [e]at s n;rw [Ya]at s;rw [UH,Ya]at n
 refine(s.and n).imp fun{a b} h=>?_
 cases q:mX a b with
 | true=>rfl
 | false=>exact absurd (sL _ _ q h.1) h.2
theorem AW(l:List C):(l.map row).map fL=l.map aC:=by rw [Yk];rfl
theorem TM{l m:List C}(a:l.Nodup)(d:l.length<=63)(b:Up m)(h:∀ c,c∈m ↔ c∈l):n5 [.list (l.map aC)]=some (.list (m.map aC)):=by
 rw [<- AW l,s0 (fun k e=>by obtain⟨c,_,rfl⟩:=QN.mp e;rfl) (by rw [Qo];exact d)];obtain⟨j,i,g,f⟩:=TC a;rw [i,AW,AA g b fun c=>(f c).trans (h c).symm]
def cells(w h:Nat):List C:=(J5 w).flatMap fun(x:Nat)=>(J5 h).map fun(y:Nat)=>((x:Int),(y:Int))
def eI(w h:Nat)(c:C):Bool:=decide (0<=c.1) && decide (c.1<w) && decide (0<=c.2) && decide (c.2<h)
theorem pM{w h:Nat}{c:C}:eI w h c=true ↔ 0<=c.1/\c.1<w/\0<=c.2/\c.2<h:=by
 unfold eI;simp only [QO,decide_eq_true_eq];constructor
 ·intro q;exact⟨q.1.1.1,q.1.1.2,q.1.2,q.2⟩
 ·intro q;exact⟨⟨⟨q.1,q.2.1⟩,q.2.2.1⟩,q.2.2.2⟩
theorem kY{w h:Nat}{c:C}:c∈cells w h ↔ eI w h c=true:=by
 unfold cells;rw [List.mem_flatMap,pM];constructor
 ·rintro⟨x,g,i⟩
  obtain⟨y,f,rfl⟩:=QN.mp i
  exact⟨Jd _,Jp.mpr (QS.mp g),Jd _,Jp.mpr (QS.mp f)⟩
 ·rintro⟨b,e,a,d⟩
  exact⟨c.1.toNat,QS.mpr ((UY b).mpr e),QN.mpr ⟨c.2.toNat,QS.mpr ((UY a).mpr d),Jj (JU b) (JU a)⟩⟩
theorem Ts(h:Nat)(x:Nat):Up ((J5 h).map fun(y:Nat)=>((x:Int),(y:Int))):=by
 unfold Up;rw [Ya];refine List.pairwise_lt_range.imp fun{a b} q=>?_;rw [pQ];dsimp only;lia
theorem tF(w h:Nat):Up (cells w h):=by
 unfold Up cells;rw [List.pairwise_flatMap]
 refine⟨fun x _=>Ts h x,List.pairwise_lt_range.imp fun{a b} q c hc d hd=>?_⟩
 obtain⟨y,_,rfl⟩:=QN.mp hc;obtain⟨z,_,rfl⟩:=QN.mp hd;rw [pQ];dsimp only;lia
theorem v7{l:List C}(h:Up l)(p:C->Bool):Up (l.filter p):=List.Pairwise.filter p h
theorem GF(h:Nat):∀ l:List Nat,(l.map fun _=>h).sum=l.length * h
 | []=>by simp
 | _::l=>by rw [Qp,YW,GF h l,QE,Nat.succ_mul,Nat.add_comm]
theorem o6(w h:Nat):(cells w h).length=w * h:=by
 unfold cells;rw [List.length_flatMap];simp only [Qo,QX];rw [GF,QX]
end My
namespace My
open PySem.SeqAt L2 DL SD SL EL DC
def v8(b a:Int):Nat->Int->Int->Option (List C)
 | 0,_,_=>none
 | n+1,gx,gy=>if gx<b ∨ gy<a then
   (v8 b a n (if(2 * gx+1) * a<=(2 * gy+1) * b then gx+1 else gx) (if(2 * gy+1) * b<=(2 * gx+1) * a then gy+1 else gy)).bind fun r=>
    some ((if(2 * gx+1) * a<=(2 * gy+1) * b then gx+1 else gx,if(2 * gy+1) * b<=(2 * gx+1) * a then gy+1 else gy)::r)
  else some []
def fO(i:Int):Int:=if i<0 then -i else i
def eX(a:Int):Int:=if 0<a then 1 else -1
def yJ(a b:Int):Option (List C):=(v8 (fO a) (fO b) 900 0 0).bind fun c=>some ((0,0)::c.map fun g=>(eX a * g.1,eX b * g.2))
def fQ(a b:Int):List C:=(yJ a b).getD []
def sub(d:C)(g:C):C:=(g.1-d.1,g.2-d.2)
def add(d:C)(g:C):C:=(d.1+g.1,d.2+g.2)
def mT:List C->List C->Bool
 | [],[]=>true
 | a::l,b::m=>a.1 == b.1 && a.2 == b.2 && mT l m
 | _,_=>false
theorem qX:∀{l m:List C},mT l m=true->l=m
 | [],[],_=>rfl
 | a::l,b::m,h=>by
  unfold mT at h;simp only [QO,beq_iff_eq]at h;rw [qX h.2,Jj h.1.1 h.1.2]
 | [],_::_,h=>by cases h
 | _::_,[],h=>by cases h
def Cr(a b:Int):Bool:=match yJ a b with
 | some ((0,0)::st)=>decide (st.length<=8) && mT (fQ (-a) (-b)) ((((0,0)::st).reverse).map (sub (a,b))) && mT (fQ (-a) b) (((0,0)::st).map fun g=>(-g.1,g.2)) && mT (fQ b a) (((0,0)::st).map fun g=>(g.2,g.1))
   && mT ((((0,0)::st).dropLast++[(a,b)])) ((0,0)::st) && ((0,0)::st).all (fun g=>decide (0<=eX a * g.1) && decide (eX a * g.1<=fO a) && decide (0<=eX b * g.2) && decide (eX b * g.2<=fO b))
 | _=>false
def t8:List Int:=[-4,-3,-2,-1,0,1,2,3,4]
theorem NN:(t8.all fun a=>t8.all fun b=>Cr a b)=true:=by decide +kernel
theorem Fz{a:Int}(h:-4<=a)(h':a<=4):a∈t8:=by
 have k:∀ n:Fin 9,((n.val:Int)-4)∈t8:=by decide
 have e:(((a+4).toNat:Nat):Int)-4=a:=by lia
 have:=k ⟨(a+4).toNat,by lia⟩
 rw [e]at this;exact this
structure Dv(a b:Int):Prop where
 some:yJ a b=some (fQ a b)
 len:(fQ a b).length<=9
 first:∃ st,fQ a b=(0,0)::st
 back:fQ (-a) (-b)=(fQ a b).reverse.map (sub (a,b))
 mir:fQ (-a) b=(fQ a b).map fun g=>(-g.1,g.2)
 flip:fQ b a=(fQ a b).map fun g=>(g.2,g.1)
 last:(fQ a b).dropLast++[(a,b)]=fQ a b
 box:∀ g∈fQ a b,0<=eX a * g.1/\eX a * g.1<=fO a/\0<=eX b * g.2/\eX b * g.2<=fO b
theorem OK{a b:Int}(j:-4<=a)(f:a<=4)(i:-4<=b)(d:b<=4):Dv a b:=by
 have c:=QZ.mp (QZ.mp NN a (Fz j f)) b (Fz i d);unfold Cr at c
 split at c
 ·rename_i st e
  have r:fQ a b=(0,0)::st:=by unfold fQ;rw [e];rfl
  simp only [QO,decide_eq_true_eq]at c;obtain⟨⟨⟨⟨⟨p,o⟩,n⟩,m⟩,l⟩,k⟩:=c
  refine⟨by rw [e,r],by rw [r,QE];lia,⟨st,r⟩,by rw [r];exact qX o,by rw [r];exact qX n,by rw [r];exact qX m,by rw [r];exact qX l,fun g h=>?_⟩
  rw [r]at h
  have:=QZ.mp k g h
  simp only [QO,decide_eq_true_eq]at this
  exact⟨this.1.1.1,this.1.1.2,this.1.2,this.2⟩
 ·cases c
def iQ(g h:C):Bool := !(g.1 == h.1) && !(g.2 == h.2)
def sV(S:C->Bool):List C->Bool
 | g::h::r=>(!iQ g h || !(S (g.1,h.2) && S (h.1,g.2))) && sV S (h::r)
 | _=>true
theorem So(S:C->Bool)(g h:C)(r:List C):sV S (g::h::r)=((!iQ g h || !(S (g.1,h.2) && S (h.1,g.2))) && sV S (h::r)):=rfl
def line(a b:C):List C:=(fQ (b.1-a.1) (b.2-a.2)).map (add a)
def clear(S:C->Bool)(a b:C):Bool:=(line a b).dropLast.all (fun c => !S c) && sV S (line a b)
def gB(S:C->Bool)(a b:C):Bool := !S b && clear S a b
structure qB(a b:C):Prop where
 x0:-4<=b.1-a.1
 x1:b.1-a.1<=4
 y0:-4<=b.2-a.2
 y1:b.2-a.2<=4
theorem qB.ok{a b:C}(n:qB a b):Dv (b.1-a.1) (b.2-a.2):=OK n.x0 n.x1 n.y0 n.y1
end My
namespace My
def bS:List Nat:=[110,101,115,119]
def n8(x:Nat):C:=if x=110 then(0,-1)else if x=101 then(1,0)else if x=115 then(0,1)else(-1,0)
def mY(x:Nat):Nat:=if x=110 then 115 else if x=101 then 119 else if x=115 then 110 else 101
def aH(a:C)(x:Nat):C:=(a.1+(n8 x).1,a.2+(n8 x).2)
theorem nR{x:Nat}(h:x∈bS):x=110 ∨ x=101 ∨ x=115 ∨ x=119:=by
 unfold bS at h
 simpa using h
theorem sT{x:Nat}(h:x∈bS)(a:C):mY x∈bS/\aH (aH a x) (mY x)=a:=by
 obtain⟨p,q⟩:=a;rcases nR h with rfl | rfl | rfl | rfl
 ·exact⟨by decide,Jj (show p+0+0=p by lia) (show q + -1+1=q by lia)⟩
 ·exact⟨by decide,Jj (show p+1 + -1=p by lia) (show q+0+0=q by lia)⟩
 ·exact⟨by decide,Jj (show p+0+0=p by lia) (show q+1 + -1=q by lia)⟩
 ·exact⟨by decide,Jj (show p + -1+1=p by lia) (show q+0+0=q by lia)⟩
def vis:C->List Nat->List C
 | s,[]=>[s]
 | s,x::u=>s::vis (aH s x) u
def fin:C->List Nat->C
 | s,[]=>s
 | s,x::u=>fin (aH s x) u
theorem qZ:∀(s:C) (u:List Nat) (x:Nat),fin s (u++[x])=aH (fin s u) x
 | _,[],_=>rfl
 | s,y::u,x=>qZ (aH s y) u x
theorem nP:∀(s:C) (u:List Nat) (x:Nat),vis s (u++[x])=vis s u++[aH (fin s u) x]
 | _,[],_=>rfl
 | s,y::u,x=>congrArg (s::·) (nP (aH s y) u x)
theorem p8:∀(s:C) (u:List Nat),(vis s u).length=u.length+1
 | _,[]=>rfl
 | s,y::u=>by show(vis (aH s y) u).length+1=_;rw [p8];rfl
theorem Bx:∀(s:C) (u:List Nat),∃ l,vis s u=l++[fin s u]
 | s,[]=>⟨[],rfl⟩
 | s,y::u=>by
  obtain⟨l,e⟩:=Bx (aH s y) u
  exact⟨s::l,congrArg (s::·) e⟩
theorem zQ(s:C)(u:List Nat):fin s u∈vis s u:=by
 obtain⟨l,e⟩:=Bx s u;rw [e];exact Qk _ (Qd.mpr rfl)
theorem Gz(s:C)(u:List Nat):s∈vis s u:=by
 cases u <;> exact Qe
structure Pt(G:List C)(s:C)(u:List Nat)(c:C):Prop where
 w:∀ x∈u,x∈bS
 e:fin s u=c
 i:∀ x∈vis s u,x∈G
theorem Pt.nil{G:List C}{s:C}(h:s∈G):Pt G s [] s:=⟨fun _ h=>(nomatch h),rfl,fun x a=>by rw [Qd.mp a];exact h⟩
theorem Pt.snoc{G:List C}{s a:C}{u:List Nat}{x:Nat}(p:Pt G s u a)(c:x∈bS)(h:aH a x∈G):Pt G s (u++[x]) (aH a x):=by
 refine⟨fun y b=>?_,by rw [qZ,p.e],fun y b=>?_⟩
 ·rcases Qv.mp b with b | b
  ·exact p.w y b
  ·rw [Qd.mp b];exact c
 ·rw [nP,p.e]at b;rcases Qv.mp b with b | b
  ·exact p.i y b
  ·rw [Qd.mp b];exact h
theorem Pt.unsnoc{G:List C}{s c:C}{u:List Nat}{x:Nat}(p:Pt G s (u++[x]) c):Pt G s u (fin s u)/\c=aH (fin s u) x/\x∈bS/\c∈G:=by
 refine⟨⟨fun y a=>p.w y (QK _ a),rfl,fun y a=>p.i y (by rw [nP];exact QK _ a)⟩,by rw [<- p.e,qZ],p.w x (Qk _ (Qd.mpr rfl)),?_⟩
 rw [<- p.e];exact p.i _ (zQ _ _)
theorem Pt.start{G:List C}{s c:C}{u:List Nat}(p:Pt G s u c):s∈G:=p.i s (Gz s u)
theorem Pt.stop{G:List C}{s c:C}{u:List Nat}(p:Pt G s u c):c∈G:=by rw [<- p.e];exact p.i _ (zQ s u)
def back(u:List Nat):List Nat:=(u.map mY).reverse
theorem MK(u:List Nat):(back u).length=u.length:=by unfold back;simp
theorem Bw:∀(s:C) (u:List Nat),(∀ x∈u,x∈bS)->fin (fin s u) (back u)=s/\vis (fin s u) (back u)=(vis s u).reverse
 | s,[],_=>⟨rfl,rfl⟩
 | s,x::u,h=>by
  obtain⟨a,c⟩:=Bw (aH s x) u fun y b=>h y (Qg _ b)
  have e:back (x::u)=back u++[mY x]:=by unfold back;simp
  have o:=(sT (h x Qe) s).2;constructor
  ·show fin (fin (aH s x) u) (back (x::u))=s
   rw [e,qZ,a,o]
  ·show vis (fin (aH s x) u) (back (x::u))=(s::vis (aH s x) u).reverse
   rw [e,nP,a,c,o,List.reverse_cons]
theorem Pt.back{G:List C}{s c:C}{u:List Nat}(p:Pt G s u c):Pt G c (back u) s:=by
 obtain⟨d,b⟩:=Bw s u p.w;rw [p.e]at d b
 refine⟨fun x a=>?_,d,fun x a=>p.i x ?_⟩
 ·unfold My.back at a;rw [List.mem_reverse]at a;obtain⟨y,f,rfl⟩:=QN.mp a
  exact(sT (p.w y f) (0,0)).1
 ·rw [b,List.mem_reverse]at a;exact a
theorem Bp(u:List Nat):u=[] ∨ ∃ v x,u=v++[x]:=by
 rcases List.eq_nil_or_concat u with h | ⟨v,x,h⟩
 ·exact .inl h
 ·exact .inr ⟨v,x,by simpa using h⟩
structure Lv(G:List C)(s:C)(k:Nat)(K:List C)(g:C->List Nat)(R:List C):Prop where
 st:s∈G
 b:∀ c∈K,Pt G s (g c) c
 c:∀ c∈K,∀ u,Pt G s u c->(g c).length<=u.length
 d:∀ c,(∃ u,Pt G s u c/\u.length<=k)->c∈K
 e:∀ c∈R,c∈K/\(g c).length=k
 f:∀ c∈K,(g c).length<=k
 r:∀ c∈K,(g c).length=k->c∈R
structure Md(G:List C)(k:Nat)(K:List C)(g:C->List Nat)(P:C->Nat->Prop)(K':List C)(g':C->List Nat)(Fa:List C)(s:C):Prop where
 up:∀ c∈K,c∈K'/\g' c=g c
 nw:∀ c∈K',c∉K->Pt G s (g' c) c/\(g' c).length=k+1
 fa:∀ c,c∈Fa ↔ c∈K'/\c∉K
 cl:∀ a x,P a x->aH a x∈G->aH a x∈K'
theorem Lv.zero{G:List C}{s:C}(h:s∈G)(g:C->List Nat)(b:g s=[]):Lv G s 0 [s] g [s]:=by
 refine⟨h,fun c a=>?_,fun c a u _=>?_,fun c ⟨u,p,d⟩=>?_,fun c a=>?_,fun c a=>?_,fun c a _=>a⟩
 ·rw [Qd.mp a,b];exact Pt.nil h
 ·rw [Qd.mp a,b];exact QU _
 ·have:u=[]:=List.length_eq_zero_iff.mp (by lia)
  subst this;rw [<- p.e];exact Qd.mpr rfl
 ·exact⟨a,by rw [Qd.mp a,b];rfl⟩
 ·rw [Qd.mp a,b];exact Ql _
theorem Md.start{G:List C}{s:C}{k:Nat}{K R:List C}{g:C->List Nat}:Md G k K g (fun _ _=>False) K g [] s:=
 ⟨fun c h=>⟨h,rfl⟩,fun c h n=>absurd h n,fun c=>by simp,fun _ _ h=>h.elim⟩
theorem Md.old{G:List C}{s a:C}{x k:Nat}{K c e:List C}{g g':C->List Nat}{P:C->Nat->Prop}(m:Md G k K g P c g' e s)(h:aH a x∈G->aH a x∈c):Md G k K g (fun b y=>P b y ∨ (b=a/\y=x)) c g' e s:=
 ⟨m.up,m.nw,m.fa,fun b y p d=>by
  rcases p with p | ⟨rfl,rfl⟩
  ·exact m.cl b y p d
  ·exact h d⟩
def gT(g:C->List Nat)(c:C)(v:List Nat):C->List Nat:=fun x=>if x=c then v else g x
theorem Md.add{G:List C}{s a:C}{x k:Nat}{K j q R:List C}{g g':C->List Nat}{P:C->Nat->Prop}(l:Lv G s k K g R)(m:Md G k K g P j g' q s)(n:a∈R)(u:x∈bS)(w:aH a x∈G)(v:aH a x∉j):
  Md G k K g (fun b y=>P b y ∨ (b=a/\y=x)) (j++[aH a x]) (gT g' (aH a x) (g' a++[x])) (q++[aH a x]) s:=by
 have f:aH a x∉K:=fun z=>v (m.up _ z).1;have o:=(l.e a n).1;have B:g' a=g a:=(m.up a o).2;have A:(g a).length=k:=(l.e a n).2
 refine⟨fun c d=>⟨QK _ (m.up c d).1,?_⟩,fun c d r=>?_,fun c=>?_,fun b y p t=>?_⟩
 ·unfold gT;rw [if_neg (fun z=>f (by rw [<- z];exact d))]
  exact(m.up c d).2
 ·unfold gT;by_cases e:c=aH a x
  ·rw [if_pos e,B,e]
   exact⟨(l.b a o).snoc u w,by rw [Qm,A];rfl⟩
  ·rw [if_neg e];rcases Qv.mp d with d | d
   ·exact m.nw c d r
   ·exact absurd (Qd.mp d) e
 ·rw [Qv,Qv,m.fa,Qd];constructor
  ·rintro(⟨h,i⟩ | rfl)
   ·exact⟨.inl h,i⟩
   ·exact⟨.inr rfl,f⟩
  ·rintro⟨h | h,i⟩
   ·exact .inl ⟨h,i⟩
   ·exact .inr h
 ·rcases p with p | ⟨rfl,rfl⟩
  ·exact QK _ (m.cl b y p t)
  ·exact Qk _ (Qd.mpr rfl)
theorem Lv.next{G:List C}{s:C}{k:Nat}{K y Fa R:List C}{g g':C->List Nat}(l:Lv G s k K g R){P:C->Nat->Prop}(m:Md G k K g P y g' Fa s)(F:∀ a∈R,∀ x∈bS,P a x):Lv G s (k+1) y g' Fa:=by
 have old:∀ c,c∈K->(g' c).length<=k:=fun c i=>by rw [(m.up c i).2];exact l.f c i
 refine⟨l.st,fun c i=>?_,fun c i u p=>?_,fun c ⟨u,p,j⟩=>?_,fun c i=>?_,fun c i=>?_,fun c i e=>?_⟩
 ·by_cases h:c∈K
  ·rw [(m.up c h).2];exact l.b c h
  ·exact(m.nw c i h).1
 ·by_cases h:c∈K
  ·rw [(m.up c h).2];exact l.c c h u p
  ·rw [(m.nw c i h).2];by_cases j:u.length<=k
   ·exact absurd (l.d c ⟨u,p,j⟩) h
   ·lia
 ·rcases Bp u with rfl | ⟨v,x,rfl⟩
  ·exact(m.up c (l.d c ⟨[],p,QU _⟩)).1
  ·obtain⟨A,o,t,n⟩:=p.unsnoc;rw [Qm]at j
   have B:v.length<=k:=by simpa using j
   have q:=l.d _ ⟨v,A,B⟩;by_cases E:(g (fin s v)).length=k
   ·rw [o]at n ⊢;exact m.cl _ x (F _ (l.r _ q E) x t) n
   ·have:(g (fin s v)).length<k:=by have:=l.f _ q;lia
    have z:=(l.b _ q).snoc t (by rw [<- o];exact n);rw [o]
    exact(m.up _ (l.d _ ⟨_,z,by rw [Qm];exact this⟩)).1
 ·obtain⟨w,H⟩:=(m.fa c).mp i
  exact⟨w,(m.nw c w H).2⟩
 ·by_cases h:c∈K
  ·have:=old c h;lia
  ·rw [(m.nw c i h).2];exact Ql _
 ·refine(m.fa c).mpr ⟨i,fun h=>?_⟩
  have:=old c h
  lia
theorem Lv.all{G:List C}{s:C}{k:Nat}{K:List C}{g:C->List Nat}(l:Lv G s k K g []):∀(u:List Nat) (c:C),Pt G s u c->c∈K:=by
 intro u;generalize hn:u.length=n
 induction n generalizing u with
 | zero=>
  intro c p;exact l.d c ⟨u,p,by lia⟩
 | succ n j=>
  intro c p;rcases Bp u with rfl | ⟨v,x,rfl⟩
  ·exact l.d c ⟨[],p,QU _⟩
  ·obtain⟨i,e,m,o⟩:=p.unsnoc;have a:=j v (by simpa using hn) _ i;have q:=l.f _ a
   have:(g (fin s v)).length≠k:=fun z=>(nomatch l.r _ a z)
   have h:=(l.b _ a).snoc m (by rw [<- e];exact o);rw [e];exact l.d _ ⟨_,h,by rw [Qm];show _+1<=k;lia⟩
theorem ET{p q:C->Bool}(d:∀ c,q c=true->p c=true)(l:List C):(l.filter q).length<=(l.filter p).length:=by
 induction l with
 | nil=>exact Ql _
 | cons b l a=>
  rw [Jv,Jv]
  cases e:q b with
  | true=>rw [d b e];simpa using a
  | false=>
   cases p b with
   | true=>simp;lia
   | false=>simpa using a
theorem EU{p q:C->Bool}(f:∀ c,q c=true->p c=true){l:List C}(h:∃ x∈l,p x=true/\q x=false):(l.filter q).length<(l.filter p).length:=by
 obtain⟨x,d,i,g⟩:=h
 induction l with
 | nil=>cases d
 | cons a l b=>
  rw [Jv,Jv];rcases Qj.mp d with e | d
  ·subst e;rw [i,g]
   have:=ET f l
   simp;lia
  ·have b:=b d
   cases e:q a with
   | true=>rw [f a e];simpa using b
   | false=>
    cases p a with
    | true=>simp;lia
    | false=>simpa using b
abbrev Lo:=Nat × Nat
def cS(a b:Lo):Prop:=a.1<b.1 ∨ (a.1=b.1/\a.2<=b.2)
theorem pP(a:Lo):cS a a:=.inr ⟨rfl,Ql _⟩
theorem sJ{a b c:Lo}(h:cS a b)(d:cS b c):cS a c:=by unfold cS at *;lia
theorem sI{a b:Lo}(h:cS a b)(c:cS b a):a=b:=Jj (by unfold cS at *;lia) (by unfold cS at *;lia)
section
variable (t:C->Nat)
def ad(a:Lo)(c:C):Lo:=(a.1+t c,a.2+1)
def co(s:C)(u:List Nat):Lo:=(((vis s u).map t).sum,u.length)
variable {t}
theorem v4{a b:Lo}{c:C}:cS (ad t a c) (ad t b c) ↔ cS a b:=by unfold cS ad;dsimp only;lia
theorem IR(a:Lo)(c:C):cS a (ad t a c):=by unfold cS ad;dsimp only;lia
theorem M4{a b:Lo}{c:C}(h:ad t a c=ad t b c):a=b:=sI (v4.mp (by rw [h];exact pP _)) (v4.mp (by rw [h];exact pP _))
theorem o7(s:C)(x:Nat)(u:List Nat):co t s (x::u)=ad t (co t (aH s x) u) s:=by
 unfold co ad
 show((t s::(vis (aH s x) u).map t).sum,u.length+1)=_
 rw [YW,Nat.add_comm]
theorem Dd{s c:C}{u:List Nat}{G:List C}(p:Pt G s u c):co t c (back u)=co t s u:=by
 have h:=(Bw s u p.w).2;rw [p.e]at h;unfold co;rw [h,List.map_reverse,List.sum_reverse,MK]
end
theorem Pt.cons{G:List C}{s c:C}{x:Nat}{u:List Nat}(p:Pt G (aH s x) u c)(b:x∈bS)(hs:s∈G):Pt G s (x::u) c:=
 ⟨fun y a=>by
  rcases Qj.mp a with rfl | a
  ·exact b
  ·exact p.w y a,p.e,fun y a=>by
  rcases Qj.mp a with rfl | a
  ·exact hs
  ·exact p.i y a⟩
theorem Pt.uncons{G:List C}{s c:C}{x:Nat}{u:List Nat}(p:Pt G s (x::u) c):Pt G (aH s x) u c/\x∈bS/\s∈G:=
 ⟨⟨fun y a=>p.w y (Qg _ a),p.e,fun y a=>p.i y (Qg _ a)⟩,p.w x Qe,p.i s Qe⟩
def At(G:List C)(t:C->Nat)(g c:C)(a:Lo):Prop:=∃ u,Pt G c u g/\co t c u=a
structure Op(G:List C)(t:C->Nat)(g c:C)(a:Lo):Prop where
 h:At G t g c a
 m:∀ v,Pt G c v g->cS a (co t c v)
theorem Op.uniq{G:List C}{t:C->Nat}{g c:C}{a b:Lo}(p:Op G t g c a)(q:Op G t g c b):a=b:=by
 obtain⟨u,e,i⟩:=p.h;obtain⟨v,d,f⟩:=q.h;exact sI (by rw [<- f];exact p.m v d) (by rw [<- i];exact q.m u e)
structure Dj(G:List C)(t:C->Nat)(g:C)(P:C->Nat->Prop)(K:List C)(f:C->Lo)(Q:List C)(q:C->Lo):Prop where
 gG:g∈G
 k:∀ c∈K,Op G t g c (f c)
 a:∀ c∈Q,c∉K/\At G t g c (q c)
 s:∀ c∈K,∀ x∈bS,P c x->aH c x∈G->aH c x∉K->aH c x∈Q/\cS (q (aH c x)) (ad t (f c) (aH c x))
 z:g∈K ∨ (g∈Q/\q g=(t g,0))
 nd:K.Nodup/\Q.Nodup
section
variable {G:List C}{t:C->Nat}{g:C}{P:C->Nat->Prop}{K Q:List C}{f q:C->Lo}
theorem At.in{c:C}{a:Lo}(h:At G t g c a):c∈G:=let⟨_,p,_⟩:=h;p.start
theorem Dj.start(h:g∈G)(f q:C->Lo)(e:q g=(t g,0)):Dj G t g (fun _ _=>True) [] f [g] q:=
 ⟨h,fun c a=>(nomatch a),fun c a=>by
  rw [Qd.mp a]
  exact⟨fun z=>(nomatch z),[],Pt.nil h,by rw [e];unfold co;simp [vis]⟩,fun c a=>(nomatch a),.inr ⟨Qd.mpr rfl,e⟩,by simp⟩
theorem Dj.opt(d:Dj G t g (fun _ _=>True) K f Q q){m:C}(l:m∈Q)(n:∀ c∈Q,cS (q m) (q c)):Op G t g m (q m):=by
 refine⟨(d.a m l).2,fun v p=>?_⟩
 have key:∀(v:List Nat) (x:C),Pt G x v g->x∉K->cS (q m) (co t x v):=by
  intro v
  induction v with
  | nil=>
   intro x p i;have e:x=g:=p.e;subst e;obtain⟨y,u⟩:=d.z.resolve_left i
   have:co t x []=q x:=by rw [u];unfold co;simp [vis]
   rw [this];exact n x y
  | cons w v B=>
   intro x p i;obtain⟨j,E,F⟩:=p.uncons;rw [o7];by_cases h:aH x w∈K
   ·obtain⟨A,b⟩:=sT E x;obtain⟨r,o⟩:=d.s _ h (mY w) A trivial (by rw [b];exact F) (by rw [b];exact i);rw [b]at r o;exact sJ (n x r) (sJ o (v4.mpr ((d.k _ h).m v j)))
   ·exact sJ (B _ j h) (IR _ _)
 exact key v m p (d.a m l).1
def dQ(f:C->Lo)(c:C)(a:Lo):C->Lo:=fun x=>if x=c then a else f x
theorem Dj.take(d:Dj G t g (fun _ _=>True) K f Q q){m:C}(o:m∈Q)(y:∀ c∈Q,cS (q m) (q c)):Dj G t g (fun c _=>c≠m) (K++[m]) (dQ f m (q m)) (Q.erase m) q:=by
 have j:=(d.a m o).1
 have r:∀ c∈K,dQ f m (q m) c=f c:=fun c i=>by unfold dQ;rw [if_neg (fun z=>j (by rw [<- z];exact i))]
 refine⟨d.gG,fun c i=>?_,fun c i=>?_,fun c i x w p A l=>?_,?_,?_,d.nd.2.erase _⟩
 ·rcases Qv.mp i with i | i
  ·rw [r c i];exact d.k c i
  ·rw [Qd.mp i];unfold dQ;rw [if_pos rfl];exact d.opt o y
 ·obtain⟨n,h⟩:=d.nd.2.mem_erase_iff.mp i
  refine⟨fun z=>?_,(d.a c h).2⟩
  rcases Qv.mp z with z | z
  ·exact(d.a c h).1 z
  ·exact n (Qd.mp z)
 ·rcases Qv.mp i with i | i
  ·obtain⟨H,F⟩:=d.s c i x w trivial A fun z=>l (QK _ z);rw [r c i]
   exact⟨d.nd.2.mem_erase_iff.mpr ⟨fun z=>l (Qk _ (Qd.mpr z)),H⟩,F⟩
  ·exact absurd (Qd.mp i) p
 ·rcases d.z with z | ⟨v,u⟩
  ·exact .inl (QK _ z)
  ·by_cases e:g=m
   ·exact .inl (Qk _ (Qd.mpr e))
   ·exact .inr ⟨d.nd.2.mem_erase_iff.mpr ⟨e,v⟩,u⟩
 ·rw [Jm]
  exact⟨d.nd.1,by simp,fun a E b B z=>j (by rw [<- Qd.mp B,<- z];exact E)⟩
def jU(a b:Lo):Lo:=if b.1<a.1 ∨ (b.1=a.1/\b.2<a.2)then b else a
theorem FB(a b:Lo):cS (jU a b) a/\cS (jU a b) b/\(jU a b=a ∨ jU a b=b):=by
 unfold jU;split
 ·exact⟨by unfold cS;lia,pP _,.inr rfl⟩
 ·exact⟨pP _,by unfold cS;lia,.inl rfl⟩
theorem Dj.weak{l:C->Nat->Prop}(d:Dj G t g P K f Q q)(h:∀ c∈K,∀ x∈bS,l c x->aH c x∈G->aH c x∉K->P c x):Dj G t g l K f Q q:=
 ⟨d.gG,d.k,d.a,fun c j x b p i e=>d.s c j x b (h c j x b p i e) i e,d.z,d.nd⟩
theorem Dj.relax(d:Dj G t g P K f Q q){m:C}{x:Nat}(O:m∈K)(M:x∈bS)(R:aH m x∈G)(N:aH m x∉K){Q':List C}{b:Lo}(r:∀ c,c∈Q' ↔ c∈Q ∨ c=aH m x)(B:Q'.Nodup)
  (i:b=ad t (f m) (aH m x) ∨ (aH m x∈Q/\b=q (aH m x))) (E:cS b (ad t (f m) (aH m x))) (o:aH m x∈Q->cS b (q (aH m x))):Dj G t g (fun c y=>P c y ∨ (c=m/\y=x)) K f Q' (dQ q (aH m x) b):=by
 refine⟨d.gG,d.k,fun c v=>?_,fun c v y I p n l=>?_,?_,d.nd.1,B⟩
 ·unfold dQ;by_cases e:c=aH m x
  ·subst e
   refine⟨N,?_⟩
   rw [if_pos rfl];rcases i with i | ⟨j,i⟩
   ·obtain⟨u,p,e⟩:=(d.k m O).h;obtain⟨J,H⟩:=sT M m
    refine⟨mY x::u,Pt.cons (by rw [H];exact p) J R,?_⟩
    rw [o7,H,e,i]
   ·rw [i];exact(d.a _ j).2
  ·rw [if_neg e];exact d.a c (((r c).mp v).resolve_right e)
 ·unfold dQ;by_cases e:aH c y=aH m x
  ·rw [if_pos e]
   refine⟨(r _).mpr (.inr e),?_⟩
   rcases p with p | ⟨rfl,rfl⟩
   ·obtain⟨j,w⟩:=d.s c v y I p n l;rw [e]at j w ⊢;exact sJ (o j) w
   ·exact E
  ·rw [if_neg e];rcases p with p | ⟨rfl,rfl⟩
   ·obtain⟨j,w⟩:=d.s c v y I p n l
    exact⟨(r _).mpr (.inl j),w⟩
   ·exact absurd rfl e
 ·rcases d.z with z | ⟨F,A⟩
  ·exact .inl z
  ·by_cases e:g=aH m x
   ·refine .inr ⟨(r g).mpr (.inr e),?_⟩;unfold dQ;rw [if_pos e];rcases i with i | ⟨j,i⟩
    ·have:=o (by rw [<- e];exact F)
     rw [<- e,A,i,<- e]at this;unfold cS ad at this;dsimp only at this;lia
    ·rw [i,<- e,A]
   ·refine .inr ⟨(r g).mpr (.inl F),?_⟩;unfold dQ;rw [if_neg e,A]
theorem Dj.all(d:Dj G t g (fun _ _=>True) K f [] q):∀(v:List Nat) (c:C),Pt G c v g->c∈K
 | [],c,p=>by
  have e:c=g:=p.e;rw [e];exact d.z.resolve_right fun z=>(nomatch z.1)
 | x::v,c,p=>by
  obtain⟨b,k,l⟩:=p.uncons;have j:=Dj.all d v _ b;obtain⟨i,a⟩:=sT k c;by_cases h:c∈K
  ·exact h
  ·have:=(d.s _ j (mY x) i trivial (by rw [a];exact l) (by rw [a];exact h)).1
   cases this
end
def od(x:Nat):Nat:=if x=110 then 0 else if x=101 then 1 else if x=115 then 2 else 3
theorem Rq{x y:Nat}(b:x∈bS)(a:y∈bS)(h:od x=od y):x=y:=by
 rcases nR b with rfl | rfl | rfl | rfl <;> rcases nR a with rfl | rfl | rfl | rfl <;> first | rfl | cases h
theorem HR:bS.Pairwise fun x y=>od x<od y:=by decide
def eK:List Nat->List Nat->Prop
 | x::u,y::v=>od x<od y ∨ (x=y/\eK u v)
 | _,_=>False
theorem Bs:∀ u:List Nat,¬ eK u u
 | [],h=>h
 | x::u,h=>h.elim (YV _) fun z=>Bs u z.2
theorem Bt:∀{u v w:List Nat},eK u v->eK v w->eK u w
 | [],_,_,h,_=>h.elim
 | _::_,[],_,h,_=>h.elim
 | _::_,_::_,[],_,h=>h.elim
 | x::u,y::v,z::w,h,k=>by
  rcases h with h | ⟨rfl,h⟩
  ·rcases k with k | ⟨rfl,_⟩
   ·exact .inl (JP h k)
   ·exact .inl h
  ·rcases k with k | ⟨rfl,k⟩
   ·exact .inl k
   ·exact .inr ⟨rfl,Bt h k⟩
theorem AB:∀{u v:List Nat},(∀ x∈u,x∈bS)->(∀ x∈v,x∈bS)->u.length=v.length->eK u v ∨ u=v ∨ eK v u
 | [],[],_,_,_=>.inr (.inl rfl)
 | [],_::_,_,_,h=>by simp at h
 | _::_,[],_,_,h=>by simp at h
 | x::u,y::v,hu,hv,h=>by
  rcases Nat.lt_trichotomy (od x) (od y)with z | z | z
  ·exact .inl (.inl z)
  ·have e:=Rq (hu x Qe) (hv y Qe) z;subst e;rcases AB (fun a b=>hu a (Qg _ b)) (fun a b=>hv a (Qg _ b)) (by simpa using h)with q | q | q
   ·exact .inl (.inr ⟨rfl,q⟩)
   ·exact .inr (.inl (by rw [q]))
   ·exact .inr (.inr (.inr ⟨rfl,q⟩))
  ·exact .inr (.inr (.inl z))
theorem Br:∀{u v:List Nat} (a b:List Nat),eK u v->eK (u++a) (v++b)
 | [],_,_,_,h=>h.elim
 | _::_,[],_,_,h=>h.elim
 | _::_,_::_,a,b,h=>h.imp id fun z=>⟨z.1,Br a b z.2⟩
theorem Fv:∀(u:List Nat) {x y:Nat},od x<od y->eK (u++[x]) (u++[y])
 | [],_,_,h=>.inl h
 | _::u,_,_,h=>.inr ⟨rfl,Fv u h⟩
def eL(K:List C)(a:C):List Nat:=bS.filter fun x=>K.contains (aH a x)
inductive Gr(K:List C)(f:C->Lo)(g:C):C->List Nat->Prop
 | nil:Gr K f g g []
 | cons {s:C}{x:Nat}{u:List Nat}:s≠g->x∈eL K s->(∀ y∈eL K s,cS (f (aH s x)) (f (aH s y))/\(f (aH s y)=f (aH s x)->od x<=od y))->Gr K f g (aH s x) u->Gr K f g s (x::u)
section
variable {G:List C}{t:C->Nat}{g:C}{K:List C}{f:C->Lo}
theorem mD{a:C}{x:Nat}:x∈eL K a ↔ x∈bS/\aH a x∈K:=by
 unfold eL;rw [Yo,Qy]
theorem Ct(a:∀ c∈K,Op G t g c (f c))(d:∀ v c,Pt G c v g->c∈K){s:C}{x:Nat}(hs:s∈K)(w:s≠g)(q:x∈eL K s)(A:∀ y∈eL K s,cS (f (aH s x)) (f (aH s y))):f s=ad t (f (aH s x)) s:=by
 obtain⟨u,p,e⟩:=(a s hs).h;obtain⟨r,b⟩:=mD.mp q
 cases u with
 | nil=>exact absurd p.e w
 | cons y u=>
  obtain⟨j,o,l⟩:=p.uncons;have i:=d _ _ j;have E:=(a _ i).m u j;rw [o7]at e;have B:=A y (mD.mpr ⟨o,i⟩);obtain⟨v,n,F⟩:=(a _ b).h;have k:=(a s hs).m (x::v) (Pt.cons n r l);rw [o7,F]at k;refine sI k (v4.mpr (sJ B E) |> fun z=>by rw [e]at z;exact z)
theorem Ni(j:∀ c∈K,Op G t g c (f c))(a:∀ v c,Pt G c v g->c∈K){s:C}(hs:s∈K)(i:s≠g):eL K s≠[]:=by
 obtain⟨u,p,e⟩:=(j s hs).h
 cases u with
 | nil=>exact absurd p.e i
 | cons y u=>
  obtain⟨b,d,k⟩:=p.uncons;exact List.ne_nil_of_mem (mD.mpr ⟨d,a _ _ b⟩)
theorem Gr.way(b:∀ c∈K,Op G t g c (f c))(i:∀ v c,Pt G c v g->c∈K){s:C}{u:List Nat}(r:Gr K f g s u):s∈K->Pt G s u g/\co t s u=f s/\∀ v,Pt G s v g->co t s v=f s->¬ eK v u:=by
 induction r with
 | nil=>
  intro a;obtain⟨u,p,e⟩:=(b g a).h;have n:Pt G g [] g:=Pt.nil p.start;have j:=(b g a).m [] n
  have F:cS (co t g []) (f g):=by
   rw [<- e];unfold co cS;dsimp only
   have:t g<=((vis g u).map t).sum:=by
    cases u with
    | nil=>simp [vis]
    | cons x u=>show t g<=(t g::(vis (aH g x) u).map t).sum;rw [YW];lia
   simp [vis]
   lia
  exact⟨n,sI F j,fun v _ _ h=>by cases v <;> exact h⟩
 | @cons s x u hn hx hm r ih=>
  intro a;obtain⟨E,w⟩:=mD.mp hx;have d:=Ct b i a hn hx fun y o=>(hm y o).1;obtain⟨p,e,l⟩:=ih w;have B:s∈G:=let⟨_,p,_⟩:=(b s a).h;p.start
  refine⟨Pt.cons p E B,by rw [o7,e,d],fun v q ev h=>?_⟩
  cases v with
  | nil=>exact h
  | cons y v=>
   obtain⟨k,o,_⟩:=q.uncons;have A:=i _ _ k;have z:y∈eL K s:=mD.mpr ⟨o,A⟩;rw [o7,d]at ev;have ev:=M4 ev;have j:=(b _ A).m v k;rw [ev]at j;have H:f (aH s y)=f (aH s x):=sI j (hm y z).1;rcases h with h | ⟨rfl,h⟩
   ·have:=(hm y z).2 H
    lia
   ·exact l v k ev h
end
structure Lf(G:List C)(s:C)(K:List C)(g:C->List Nat)(R:List C):Prop where
 o:R.Pairwise fun a b=>eK (g a) (g b)
 m:∀ c∈K,∀ v,Pt G s v c->v.length=(g c).length->¬ eK v (g c)
structure Mf(K:List C)(g:C->List Nat)(P Q:C->Nat->Prop)(K':List C)(g':C->List Nat)(Fa:List C):Prop where
 o:Fa.Pairwise fun a b=>eK (g' a) (g' b)
 e:∀ c∈K',c∉K->∃ b y,Q b y/\g' c=g b++[y]
 m:∀ c∈K',c∉K->∀ b y,P b y->aH b y=c->¬ eK (g b++[y]) (g' c)
section
variable {G:List C}{s a:C}{x k:Nat}{K K' Fa R:List C}{g g':C->List Nat}{P Q P' Q':C->Nat->Prop}
theorem Lf.zero(g:C->List Nat)(a:g s=[]):Lf G s [s] g [s]:=
 ⟨by simp,fun c b v _ d h=>by
  rw [Qd.mp b,a]at h
  cases v <;> exact h⟩
theorem Mf.start(P Q:C->Nat->Prop):Mf K g P Q K g []:=⟨.nil,fun c h n=>absurd h n,fun c h n=>absurd h n⟩
theorem Mf.weak(a:Mf K g P Q K' g' Fa)(m:Md G k K g P K' g' Fa s)(h:∀ b y,P' b y->aH b y∈G->P b y)(f:∀ b y,Q b y->Q' b y):Mf K g P' Q' K' g' Fa:=
 ⟨a.o,fun c h n=>let⟨b,y,q,e⟩:=a.e c h n;⟨b,y,f b y q,e⟩,fun c d n b y p e=>a.m c d n b y (h b y p (by rw [e];exact(m.nw c d n).1.stop)) e⟩
theorem Mf.old(f:Mf K g P Q K' g' Fa)(d:∀ b y,Q b y->eK (g b++[y]) (g a++[x])):Mf K g (fun b y=>P b y ∨ (b=a/\y=x)) (fun b y=>Q b y ∨ (b=a/\y=x)) K' g' Fa:=
 ⟨f.o,fun c h n=>let⟨b,y,q,e⟩:=f.e c h n;⟨b,y,.inl q,e⟩,fun c i n b y p e h=>by
  rcases p with p | ⟨rfl,rfl⟩
  ·exact f.m c i n b y p e h
  ·obtain⟨l,j,q,k⟩:=f.e c i n;rw [k]at h
   exact Bs _ (Bt h (d l j q))⟩
theorem Mf.add(l:Lv G s k K g R)(m:Md G k K g P K' g' Fa s)(r:Mf K g P Q K' g' Fa)(E:a∈R)(B:aH a x∈G)(A:aH a x∉K')(j:∀ b y,Q b y->eK (g b++[y]) (g a++[x])):
  Mf K g (fun b y=>P b y ∨ (b=a/\y=x)) (fun b y=>Q b y ∨ (b=a/\y=x)) (K'++[aH a x]) (gT g' (aH a x) (g' a++[x])) (Fa++[aH a x]):=by
 have I:g' a=g a:=(m.up a (l.e a E).1).2;have w:∀ c∈Fa,c≠aH a x:=fun c f z=>A (by rw [<- z];exact((m.fa c).mp f).1)
 have i:∀ c,c≠aH a x->gT g' (aH a x) (g' a++[x]) c=g' c:=fun c f=>by unfold gT;rw [if_neg f]
 have u:gT g' (aH a x) (g' a++[x]) (aH a x)=g a++[x]:=by unfold gT;rw [if_pos rfl,I]
 refine⟨?_,fun c f n=>?_,fun c f n b y p e h=>?_⟩
 ·rw [YX]
  refine⟨?_,by simp,fun c f d v=>?_⟩
  ·exact r.o.imp_of_mem fun{c d} f v z=>by rw [i c (w c f),i d (w d v)];exact z
  ·rw [Qd.mp v,u,i c (w c f)];obtain⟨H,F⟩:=(m.fa c).mp f;obtain⟨b,y,q,e⟩:=r.e c H F;rw [e];exact j b y q
 ·by_cases e:c=aH a x
  ·subst e;exact⟨a,x,.inr ⟨rfl,rfl⟩,u⟩
  ·rw [i c e];obtain⟨b,y,q,J⟩:=r.e c ((Qv.mp f).resolve_right fun z=>e (Qd.mp z)) n
   exact⟨b,y,.inl q,J⟩
 ·by_cases t:c=aH a x
  ·subst t;rw [u]at h;rcases p with p | ⟨rfl,rfl⟩
   ·exact A (by rw [<- e];exact m.cl b y p (by rw [e];exact B))
   ·exact Bs _ h
  ·rw [i c t]at h;rcases p with p | ⟨rfl,rfl⟩
   ·exact r.m c ((Qv.mp f).resolve_right fun z=>t (Qd.mp z)) n b y p e h
   ·exact t e.symm
theorem Lf.next(l:Lv G s k K g R)(E:Lf G s K g R)(m:Md G k K g P K' g' Fa s)(B:Mf K g P Q K' g' Fa)(N:∀ a∈R,∀ x∈bS,P a x):Lf G s K' g' Fa:=by
 refine⟨B.o,fun c H v p f h=>?_⟩
 by_cases i:c∈K
 ·rw [(m.up c i).2]at f h;exact E.m c i v p f h
 ·rw [(m.nw c H i).2]at f;rcases Bp v with rfl | ⟨e,x,rfl⟩
  ·cases f
  ·obtain⟨n,u,F,M⟩:=p.unsnoc;rw [Qm]at f
   have y:e.length=k:=by simpa using f
   have j:=l.d _ ⟨e,n,by lia⟩
   have t:(g (fin s e)).length=k:=by
    have S:=l.c _ j e n;by_cases q:(g (fin s e)).length<k
    ·have I:=(l.b _ j).snoc F (by rw [<- u];exact M);exact absurd (by rw [u];exact l.d _ ⟨_,I,by rw [Qm];exact q⟩) i
    ·lia
   have O:=l.r _ j t;have A:=B.m c H i _ x (N _ O x F) u.symm;have J:=E.m _ j e n (by rw [y,t]);rcases AB n.w (l.b _ j).w (by rw [y,t])with z | z | z
   ·exact J z
   ·rw [z]at h;exact A h
   ·exact A (Bt (Br [x] [x] z) h)
end
end My
namespace My
open PySem.SeqAt L2 DL SD SL EL DC
def dA(ns:List Int):D:=.list (ns.map J3)
theorem uW:∀ ns:List Int,Zd (ns.map J3)=true/\Zn (ns.map J3)=0
 | []=>⟨rfl,rfl⟩
 | _::r=>⟨by simp [Zd,ZG,(uW r).1],by simp [Zn,UA,(uW r).2]⟩
theorem RD(ns:List Int):ZA (dA ns)=true:=by
 simp [ZA,dA,ZG,UA,(uW ns).1,(uW ns).2]
theorem MG{ns:List Int}{i:Int}(b:0<=i)(a:i<ns.length):∃ r,aK (dA ns) (.int i)=some (.int r):=by
 show ∃ r,L2.atI (ns.map J3) i=some (.int r)
 unfold L2.atI L2.ixN;rw [Qo,if_pos b,if_pos a]
 have:i.toNat<ns.length:=by lia
 exact⟨ns[i.toNat],by simp [this]⟩
theorem NM(ns:List Int)(l:ns.length<=63)(k:Int):∃ r,sF [dA ns,.int k]=some (.int r):=by
 cases ns with
 | nil=>
  have e:gP (dA []) (.list [])=some (.bool true):=rfl;have m:cF (.int 7) (.int k)=some (.int (7 * k)):=iZ (lU (by decide) (by decide))
  exact⟨7 * k,cL (pZ (iI (b:=true) rfl (fun _=>cE (oo rfl rfl m)) fun z=>by cases z))⟩
 | cons n ns=>
  have c:(0:Int)<((n::ns).length:Int):=by rw [QE];lia
  have e:gP (dA (n::ns)) (.list [])=some (.bool false):=by
   unfold gP;rw [RD];rfl
  have d:dO [dA (n::ns)]=some (.int ((n::ns).length:Int)):=by
   show some (J3 (((n::ns).map J3).length:Int))=_
   rw [Qo]
  obtain⟨r,j⟩:=MG (ns:=n::ns) (i:=k % ((n::ns).length:Int)) (UW _ (by lia)) (JB _ c)
  have a:((n::ns).length:Int)<1073741824:=by lia
  generalize ((n::ns).length:Int)=L at *;generalize dA (n::ns)=S at *;have h:=nC (i:=k) c;have g:=zP (i:=k) (yG c a);have f:cF (.int 6553) (.int (k / L))=some (.int (6553 * (k / L))):=iZ (lU (by decide) (by decide))
  exact⟨r+6553 * (k / L),cL (aX (dS (oB (oo rfl rfl e))) (cE (oo (oo rfl (oo rfl (aT rfl d) h) j) (oo rfl (oo rfl (aT rfl d) g) f) rfl)))⟩
def dr(ns:List Int)(k m:Int):Int:=match dB [dA ns,.int k,.int m]with
 | some (.int r)=>r
 | _=>0
theorem jK(ns:List Int)(q:ns.length<=63)(k m:Int)(d:0<m):dB [dA ns,.int k,.int m]=some (.int (dr ns k m))/\0<=dr ns k m/\dr ns k m<m:=by
 have key:∃ r,dB [dA ns,.int k,.int m]=some (.int r)/\0<=r/\r<m:=by
  obtain⟨c,s⟩:=NM ns q k;obtain⟨u,b⟩:∃ u,u=((c % 2147483563) * 69069+104723 * (k+1)) % 2147483563:=⟨_,rfl⟩
  have p:0<=u:=by rw [b];exact UW _ (by decide)
  have o:u<2147483563:=by rw [b];exact JB _ (by decide)
  obtain⟨v,a⟩:∃ v,v=(u * u+u / 3) % 2147483399:=⟨_,rfl⟩
  have n:0<=v:=by rw [a];exact UW _ (by decide)
  have l:v<2147483399:=by rw [a];exact JB _ (by decide)
  have B:iP (.int ((c % 2147483563) * 69069+104723 * (k+1))) (.int 2147483563)=some (.int u):=by rw [b];exact nC (by decide)
  have E:iP (.int c) (.int 2147483563)=some (.int (c % 2147483563)):=nC (by decide);have A:cF (.int (c % 2147483563)) (.int 69069)=some (.int (c % 2147483563 * 69069)):=iZ (qQ (by decide) (by decide));have z:cF (.int 104723) (.int (k+1))=some (.int (104723 * (k+1))):=iZ (lU (by decide) (by decide));have y:cF (.int u) (.int u)=some (.int (u * u)):=iZ (lU (Int.lt_of_lt_of_le (by decide) p) (Int.lt_trans o (by decide)));have f:∀ i j:Int,0<j->j<1073741824->lB (.int i) (.int j)=some (.int (i / j)):=fun i j h e=>zP (yG h e)
  have x:iP (.int (u * u+u / 3)) (.int 2147483399)=some (.int v):=by rw [a];exact nC (by decide)
  have w:cF (.int v) (.int v)=some (.int (v * v)):=iZ (lU (Int.lt_of_lt_of_le (by decide) n) (Int.lt_trans l (by decide)))
  refine⟨(v * v+v / 7) % 2147483647 / 11 % m,?_,UW _ (Int.ne_of_gt d),JB _ d⟩
  exact cL (aX (cQ (oo (oo (oo (oo (aT rfl s) rfl E) rfl A) (oo rfl rfl z) rfl) rfl B)) (aX (cQ (oo (oo (oo rfl rfl y) (oo rfl rfl (f _ _ (by decide) (by decide))) rfl) rfl x)) (cE (oo (oo (oo (oo (oo rfl rfl w) (oo rfl rfl (f _ _ (by decide) (by decide))) rfl) rfl (nC (by decide))) rfl (f _ _ (by decide) (by decide))) rfl (nC d)))))
 obtain⟨r,g,e,t⟩:=key
 have:dr ns k m=r:=by unfold dr;rw [g]
 rw [this]
 exact⟨g,e,t⟩
def nQ(w h:Nat)(W:C->Bool):D:=.tuple (((cells w h).filter W).map aC)
def bK(w h:Nat)(W:C->Bool):D:=.tuple [.int w,.int h,nQ w h W]
theorem NK(w h:Nat)(p:Nat->Nat->Bool):((J5 w).flatMap fun(x:Nat)=>((J5 h).filter (p x)).map fun(y:Nat)=>((x:Int),(y:Int)))=(cells w h).filter fun c=>p c.1.toNat c.2.toNat:=by
 unfold cells;rw [List.filter_flatMap];congr 1
 funext x
 rw [List.filter_map];rfl
theorem ES{i:Nat}{ga:aA->Option D}{ρ:aA}{ds es:List D}(c:ρ[i]?=some (.own ds))(b:ga ρ=some (.list es))(a:ds.length+es.length<=1000):oQ i ga ρ=some (.nx (ρ.set i (.own (ds++es)))):=by
 unfold oQ;rw [c]
 show(ga ρ).bind _=_
 rw [b]
 show(if ds.length+es.length<=1000 then _ else _)=_
 rw [if_pos a]
theorem zV{b:Type}(f:Nat->List b):∀(l:List Nat) (acc:List b),l.foldl (fun a x=>a++f x) acc=acc++l.flatMap f
 | [],acc=>by simp
 | x::l,acc=>by rw [YI,zV f l,List.flatMap_cons,Q6]
theorem A2{c:Type}(f:Nat->List c)(g:Nat->Sl):∀(l:List Nat) (acc:List c) (s:Sl),l.foldl (fun(b:List c × Sl) x=>(b.1++f x,g x)) (acc,s)=(l.foldl (fun a x=>a++f x) acc,l.foldl (fun _ x=>g x) s)
 | [],acc,s=>rfl
 | x::l,acc,s=>by rw [YI,YI,YI];exact A2 f g l _ _
def AR(q:Int):Int:=if q=0 then 2 else if q=1 then 3 else if q=2 then 3 else if q=3 then 5 else 9
theorem RU(q:Int)(b:0<=q)(a:q<5):aK (.list [.int 2,.int 3,.int 3,.int 5,.int 9]) (.int q)=some (.int (AR q))/\0<AR q:=by
 obtain⟨n,rfl⟩:=Int.eq_ofNat_of_zero_le b;rcases n with _ | _ | _ | _ | _ | n
 ·exact⟨rfl,by decide⟩
 ·exact⟨rfl,by decide⟩
 ·exact⟨rfl,by decide⟩
 ·exact⟨rfl,by decide⟩
 ·exact⟨rfl,by decide⟩
 ·exact absurd a (by lia)
theorem Nc(ns:List Int)(o:ns.length<=63)(a:Int)(m:Nat)(O:0<m)(l:m<=5):∃(w h:Nat) (W:C->Bool),pA [dA ns,.int a,.int m]=some (bK w h W)/\1<=w/\w<=m/\1<=h/\h<=m:=by
 have z:(0:Int)<m:=Jp.mpr O;obtain⟨e1,F,E⟩:=jK ns o a m z;obtain⟨e2,U,T⟩:=jK ns o (a+1) m z;obtain⟨e3,I,H⟩:=jK ns o (a+2) 5 (by decide);obtain⟨Z,G⟩:=RU _ I H;generalize dr ns a m=dw at *;generalize dr ns (a+1) m=dh at *;generalize AR (dr ns (a+2) 5)=g at *;have one:∀{x:Int},0<=x->x<m->∃ w:Nat,1+x=w/\1<=w/\w<=m:=fun{x} g1 g2=>⟨(1+x).toNat,by lia,by lia,by lia⟩;obtain⟨w,K,B,u⟩:=one F E;obtain⟨h,Q,S,A⟩:=one U T;clear one;have r:w<=5:=Qz u l;have q:h<=5:=Qz A l
 refine⟨w,h,fun c=>dr ns (a+3+8 * (c.1.toNat:Int)+(c.2.toNat:Int)) g == 0,?_,B,u,S,A⟩
 refine cL ?_;unfold A6;rw [show eU 8 [dA ns,.int a,.int m]=[.dat (dA ns),.dat (.int a),.dat (.int m),.no,.no,.no,.no,.no]from rfl];refine aX (cQ (d:=.int (w:Int)) (oo rfl (aT rfl e1) (by rw [<- K];rfl))) (aX (cQ (d:=.int (h:Int)) (oo rfl (aT rfl e2) (by rw [<- Q];rfl))) (aX (cQ (oo rfl (aT rfl e3) Z)) (aX (ρ':=[.dat (dA ns),.dat (.int a),.dat (.int m),.dat (.int w),.dat (.int h),.dat (.int g),.own [],.no]) rfl ?_)));obtain⟨f,p⟩:∃ f:Nat->List C,f=fun(x:Nat)=>((J5 h).filter fun(y:Nat)=>dr ns (a+3+8 * (x:Int)+(y:Int)) g == 0).map fun(y:Nat)=>((x:Int),(y:Int)):=⟨_,rfl⟩
 have X:∀ x,(f x).length<=5:=fun x=>by
  rw [p,Qo];refine Qz (Ye _ _) ?_;rw [QX];exact q
 refine aX (wL (n:=w) rfl (Yc r (by decide)) (pK (fun(k:Nat)=>.int (k:Int)) (fun(b:List C × Sl)=>[.dat (dA ns),.dat (.int a),.dat (.int m),.dat (.int w),.dat (.int h),.dat (.int g),.own (b.1.map aC),b.2])
  (fun b x=>(b.1++f x,.dat (.int (x:Int)))) (fun i b=>b.1.length<=5 * i) 5 (J5 w) 0 ([],.no) (by rw [QX,Nat.zero_add];exact r) (Ql _) fun x hx i b hi N=>?_)) ?_
 ·obtain⟨j,s7⟩:=b;have M:j.length<=5 * i:=N;have R:=X x
  refine⟨⟨[.dat (dA ns),.dat (.int a),.dat (.int m),.dat (.int w),.dat (.int h),.dat (.int g),.own (j.map aC),.dat (.int (x:Int))],rfl,?_⟩,by show(j++f x).length<=5 * (i+1);rw [Qm];lia⟩
  refine(ES (ds:=j.map aC) (es:=(f x).map aC) rfl ?_ (by rw [Qo,Qo];lia)).trans ?_
  ·have:=Gk (gi:=iW (aB (eV 4) aG)) (s:=bM 0) (t:=eB (aE gP (aJ dB (aB (eV 2) (aB (aE bP (aE bP (aE bP (eV 4) (eC (.int 3))) (aE cF (eC (.int 8)) (eV 1))) (eV 0)) (aB (eV 3) aG)))) (eC (.int 0))))
    (ge:=bV (aB (eV 1) (aB (eV 0) aG))) (inner:=[none,some 7,some 0,some 5,some 1]) (xs:=J5 h) (ρ:=[.dat (dA ns),.dat (.int a),.dat (.int m),.dat (.int w),.dat (.int h),.dat (.int g),.own (j.map aC),.dat (.int (x:Int))])
    (fun(k:Nat)=>.int (k:Int)) (fun(y:Nat)=>dr ns (a+3+8 * (x:Int)+(y:Int)) g == 0) (fun(y:Nat)=>aC ((x:Int),(y:Int)))
    (fun ρ=>∃ v,ρ=[v,.dat (.int (x:Int)),.dat (dA ns),.dat (.int g),.dat (.int a)]) (Bn (n:=h) rfl (Yc q (by decide))) (by rw [QX];exact Qz q (by decide)) ⟨.no,rfl⟩ (by
     rintro y hy ρ ⟨v,rfl⟩;have e:=(jK ns o (a+3+8 * (x:Int)+(y:Int)) g G).1;have J:cF (.int 8) (.int (x:Int))=some (.int (8 * (x:Int))):=iZ (lU (by decide) (by decide))
     exact⟨[.dat (.int (y:Int)),.dat (.int (x:Int)),.dat (dA ns),.dat (.int g),.dat (.int a)],rfl,⟨_,rfl⟩,oB (oo (aT (bA rfl (bA (oo (oo rfl (oo rfl rfl J) rfl) rfl rfl) rfl)) e) rfl rfl),fun _=>rfl⟩)
   refine this.trans ?_;rw [p,Yk];rfl
  ·show some (aP.nx _)=some (aP.nx _)
   rw [Yb];rfl
 ·refine cE ?_;rw [A2,zV]
  have Y:(J5 w).flatMap f=(cells w h).filter fun c=>dr ns (a+3+8 * (c.1.toNat:Int)+(c.2.toNat:Int)) g == 0:=by
   rw [p];exact NK w h fun x y=>dr ns (a+3+8 * (x:Int)+(y:Int)) g == 0
  rw [Y5,Y];rfl
end My
namespace My
open PySem.SeqAt L2 DL SD SL EL DC
theorem Bq:∀ l:List C,Zd (l.map aC)=true/\Zn (l.map aC)<=1
 | []=>⟨rfl,QU _⟩
 | c::l=>by
  obtain⟨b,a⟩:=Bq l
  refine⟨by rw [Qp,Zd,b];rfl,?_⟩
  rw [Qp,Zn];exact Nat.max_le.mpr ⟨Ql _,a⟩
theorem wT(l:List C):ZA (.list (l.map aC))=true:=by
 obtain⟨a,b⟩:=Bq l
 have:UA (.list (l.map aC))<=64:=by show Zn (l.map aC)+1<=64;lia
 simp [ZA,ZG,a,this]
theorem RC(l:List C):ZA (.tuple (l.map aC))=true:=by
 obtain⟨a,b⟩:=Bq l
 have:UA (.tuple (l.map aC))<=64:=by show Zn (l.map aC)+1<=64;lia
 simp [ZA,ZG,a,this]
theorem Aq(c:C):ZA (aC c)=true:=id rfl
theorem zM(a b:C):ZE (aC a) (aC b)=(a == b):=by
 show((a.1 == b.1) && ((a.2 == b.2) && true))=_
 rw [Bool.and_true];obtain⟨x,y⟩:=a;obtain⟨u,v⟩:=b;rfl
theorem zN:∀ l m:List C,ZT (l.map aC) (m.map aC)=decide (l=m)
 | [],[]=>rfl
 | [],_::_=>rfl
 | _::_,[]=>rfl
 | a::l,b::m=>by
  show(ZE (aC a) (aC b) && ZT (l.map aC) (m.map aC))=_
  rw [zN l m,zM]
  by_cases d:a=b <;> by_cases c:l=m <;> simp [d,c]
theorem IF(l m:List C):gP (.list (l.map aC)) (.list (m.map aC))=some (.bool (decide (l=m))):=by
 unfold gP;rw [wT,wT]
 show some (Zb (ZT (l.map aC) (m.map aC)))=_
 rw [zN]
theorem FG(l m:List C):dZ (.list (l.map aC)) (.list (m.map aC))=some (.bool (!decide (l=m))):=by
 unfold dZ;rw [wT,wT]
 show some (Zb (!PyData.eqvAll (l.map aC) (m.map aC)))=_
 rw [zN]
theorem Ip(l:List C)(c:C):((l.map aC).any fun y=>ZE y (aC c))=l.contains c:=by
 induction l with
 | nil=>rfl
 | cons a l b=>rw [Qp,JI,b,zM,List.contains_cons,Bool.beq_comm]
theorem IM(a:Bool)(c:C)(l:List C):i9 a (aC c) (.tuple (l.map aC))=some (.bool (if a then !l.contains c else l.contains c)):=by
 show(if(ZA (aC c) && ZA (.tuple (l.map aC)))=true then _ else _)=_
 rw [Aq,RC,Bool.and_self,if_pos rfl,Ip]
def bG(w h:Nat)(W:C->Bool)(c:C):Bool:=eI w h c && W c
theorem Bi(w h:Nat)(W:C->Bool)(c:C):((cells w h).filter W).contains c=bG w h W c:=by
 rw [Ji,Qy,Yo,kY];unfold bG;rw [QO]
theorem x8(a:Bool)(c:C)(w h:Nat)(W:C->Bool):i9 a (aC c) (nQ w h W)=some (.bool (if a then !bG w h W c else bG w h W c)):=by
 unfold nQ;rw [IM,Bi]
theorem HU(i:Int):oW [.int i]=some (.bool true):=cL (cE rfl)
theorem NR(c:C):rL [aC c]=some (.bool true):=cL (aX (dS rfl) (cE (Cy (aT rfl (HU c.1)) (aT rfl (HU c.2)))))
theorem MB(w h:Nat)(W:C->Bool)(c:C):rJ [bK w h W,aC c]=some (.bool (eI w h c)):=by
 refine cL (aX (dS (oN (oB (aT rfl (NR c))))) (cE ?_))
 show((if decide (0<=c.1)=true then some (Zb (decide (c.1<w)))else some (.bool false)).bind fun x=>(oC x).bind fun k=>if k=true then(if decide (0<=c.2)=true then some (Zb (decide (c.2<h)))else some (.bool false))else some (.bool false))=_
 unfold eI
 cases decide (0<=c.1) <;> cases decide (c.1<w) <;> cases decide (0<=c.2) <;> cases decide (c.2<h) <;> rfl
theorem Hz{w h:Nat}{W:C->Bool}{c:C}(a:eI w h c=true):nY [bK w h W,aC c]=some .none:=by
 have q:=MB w h W c;rw [a]at q;exact zU (dS (oN (oB (aT rfl q))))
theorem Ty{w h:Nat}{W:C->Bool}{c:C}(a:eI w h c=true):rK [bK w h W,aC c]=some (.bool (W c)):=by
 have q:=x8 false c w h W;unfold bG at q;rw [a,JH]at q;exact cL (aX (kL (aT rfl (Hz a))) (cE (oo rfl rfl q)))
theorem pU{w h:Nat}{W:C->Bool}{c:C}(b:eI w h c=true)(a:W c=false):iD [bK w h W,aC c]=some .none:=by
 have q:=Ty (W:=W) b;rw [a]at q;exact zU (dS (oB (aT rfl q)))
end My
namespace My
open PySem.SeqAt L2 DL SD SL EL DC
theorem RS(w h:Nat)(g:0<h):((J5 (w * h)).map fun(i:Nat)=>(((i / h:Nat):Int),((i % h:Nat):Int)))=cells w h:=by
 refine AA ?_ (tF w h) fun c=>?_
 ·unfold Up;rw [Ya];refine List.pairwise_lt_range.imp fun{a b} q=>?_;rw [pQ];dsimp only;have j:a / h<=b / h:=Nat.div_le_div_right (Yu q);rcases Nat.lt_or_eq_of_le j with e | e
  ·exact .inl (Jp.mpr e)
  ·right
   have r:=Nat.div_add_mod a h;have s:=Nat.div_add_mod b h;rw [e]at r
   exact⟨by rw [e],Jp.mpr (by lia)⟩
 ·rw [kY,pM,QN];constructor
  ·rintro⟨i,p,rfl⟩
   have:=QS.mp p
   have j:i / h<w:=(Nat.div_lt_iff_lt_mul g).mpr this;have e:i % h<h:=Nat.mod_lt _ g
   exact⟨Jd _,Jp.mpr j,Jd _,Jp.mpr e⟩
  ·rintro⟨l,o,f,k⟩
   refine⟨c.1.toNat * h+c.2.toNat,QS.mpr ?_,?_⟩
   ·have this:c.1.toNat+1<=w:=(UY l).mpr o;have n:=Nat.mul_le_mul_right h this;rw [Nat.succ_mul]at n;exact QB (Nat.add_lt_add_left ((UY f).mpr k) _) n
   ·have e:c.2.toNat<h:=(UY f).mpr k
    have d:(c.1.toNat * h+c.2.toNat) / h=c.1.toNat:=by
     rw [Nat.mul_comm,Nat.mul_add_div g,Nat.div_eq_of_lt e,Nat.add_zero]
    have m:(c.1.toNat * h+c.2.toNat) % h=c.2.toNat:=by
     rw [Nat.mul_comm,Nat.mul_add_mod,Nat.mod_eq_of_lt e]
    rw [d,m];exact Jj (JU l) (JU f)
theorem OD{w h:Nat}{W:C->Bool}(g:w<=5)(c:0<h)(b:h<=5):sG [bK w h W]=some (.list ((cells w h).map aC)):=by
 have a:w * h<=25:=Jw g b
 have m:cF (.int w) (.int h)=some (.int ((w * h:Nat):Int)):=by rw [iZ (lU (Int.lt_of_lt_of_le (by decide) (Jd _)) (Int.lt_of_le_of_lt (Int.ofNat_le.mpr g) (by decide)))];rfl
 refine cL (cE (iG (xs:=J5 (w * h)) (fun(k:Nat)=>.int (k:Int)) (fun _=>true) (fun(i:Nat)=>aC (((i / h:Nat):Int),((i % h:Nat):Int))) (fun e=>∃ f,e=[f,.dat (bK w h W)]) (Bn (n:=w * h) ?_ (Yc a (by decide))) (by rw [QX];exact Qz a (by decide)) ⟨_,rfl⟩ ?_ ?_))
 ·exact bA (oo rfl rfl m) rfl
 ·rintro i _ e ⟨f,rfl⟩
  have d:lB (.int (i:Int)) (.int h)=some (.int ((i / h:Nat):Int)):=by rw [zP (yG (Jp.mpr c) (Int.lt_of_le_of_lt (Int.ofNat_le.mpr b) (by decide)))];rfl
  have q:iP (.int (i:Int)) (.int h)=some (.int ((i % h:Nat):Int)):=by rw [nC (Jp.mpr c)];rfl
  exact⟨[.dat (.int (i:Int)),.dat (bK w h W)],rfl,⟨_,rfl⟩,rfl,fun _=>iS (oo rfl rfl d) (oo rfl rfl q)⟩
 ·rw [lH,<- RS w h c,Yk];rfl
theorem M8{w h:Nat}{W:C->Bool}(m:w<=5)(c:h<=5):rF [bK w h W]=some (.list ((cells w h).map aC)):=by
 obtain⟨f,g⟩:∃ f:Nat->List C,f=fun(x:Nat)=>(J5 h).map fun(y:Nat)=>((x:Int),(y:Int)):=⟨_,rfl⟩;refine cL ?_;unfold A7;rw [show eU 3 [bK w h W]=[.dat (bK w h W),.no,.no]from rfl];refine aX (ρ':=[.dat (bK w h W),.own [],.no]) rfl ?_
 refine aX (wL (n:=w) rfl (Yc m (by decide)) (pK (fun(k:Nat)=>.int (k:Int)) (fun(b:List C × Sl)=>[.dat (bK w h W),.own (b.1.map aC),b.2])
  (fun b x=>(b.1++f x,.dat (.int (x:Int)))) (fun i b=>b.1.length<=5 * i) 5 (J5 w) 0 ([],.no) (by rw [QX,Nat.zero_add];exact m) (Ql _) fun x r i b s o=>?_)) ?_
 ·obtain⟨a,p⟩:=b;have d:a.length<=5 * i:=o
  have e:(f x).length<=5:=by rw [g,Qo,QX];exact c
  refine⟨⟨[.dat (bK w h W),.own (a.map aC),.dat (.int (x:Int))],rfl,?_⟩,by show(a++f x).length<=5 * (i+1);rw [Qm];exact Nat.add_le_add d e⟩
  refine(ES (ds:=a.map aC) (es:=(f x).map aC) rfl (iG (xs:=J5 h) (fun(k:Nat)=>.int (k:Int)) (fun _=>true) (fun(y:Nat)=>aC ((x:Int),(y:Int))) (fun j=>∃ l,j=[l,.dat (.int (x:Int))]) (Bn (n:=h) rfl (Yc c (by decide))) (by rw [QX];exact Qz c (by decide)) ⟨.no,rfl⟩ ?_ ?_) (by rw [Qo,Qo];lia)).trans ?_
  ·rintro y q j ⟨l,rfl⟩
   exact⟨[.dat (.int (y:Int)),.dat (.int (x:Int))],rfl,⟨_,rfl⟩,rfl,fun _=>rfl⟩
  ·rw [lH,g,Yk];rfl
  ·show some (aP.nx _)=some (aP.nx _)
   rw [Yb];rfl
 ·refine cE ?_;rw [A2,zV,Y5,g];rfl
theorem AV:∀ l:List C,pY (l.map aC)=some (l.map row)
 | []=>rfl
 | c::l=>by
  show(cZ [.int c.1,.int c.2]).bind (fun b=>(pY (l.map aC)).bind fun a=>some (b::a))=_
  rw [AV l];rfl
theorem mH{a b:C}(q:row a=row b):a=b:=by
 unfold row at q
 injection q with q1 q2
 injection q2 with q2 _
 exact Jj q1 q2
theorem Ro{l:List C}(h:l.Nodup):(l.map row).Nodup:=by
 rw [UH,Ya];exact h.imp fun{a b} q r=>q (mH r)
theorem Nj(l:List C)(c:C):(l.map row).contains (row c)=l.contains c:=by
 rw [Ji,Qy,Qy,QN];constructor
 ·rintro⟨d,a,e⟩;rw [<- mH e];exact a
 ·intro h;exact⟨c,h,rfl⟩
theorem wC{w h:Nat}{W:C->Bool}(d:w<=5)(a:h<=5):fR [bK w h W]=some (.list (((cells w h).filter fun c => !W c).map aC)):=by
 have g:(cells w h).length<=25:=by rw [o6];exact Jw d a
 have m:=Ye W (cells w h);have l:=Ye (fun c => !W c) (cells w h)
 have f:uQ [.list ((cells w h).map aC)]=some ((cells w h).map row):=by
  show(if _ then _ else _)=_
  rw [if_pos (by rw [Qo];lia),AV]
 have e:uQ [nQ w h W]=some (((cells w h).filter W).map row):=by
  show(if _ then _ else _)=_
  rw [if_pos (by rw [Qo];lia),AV]
 have j:((cells w h).map row).filter (fun k => !(((cells w h).filter W).map row).contains k)=((cells w h).filter fun c => !W c).map row:=by
  rw [List.filter_map];congr 1;refine UB fun c i=>?_
  show(!(((cells w h).filter W).map row).contains (row c))=_
  rw [Nj,Bi];unfold bG;rw [kY.mp i,JH]
 have b:=v7 (tF w h) fun c => !W c;refine cL (cE ?_);unfold Ap Ao tV;rw [bA (aT rfl (M8 (W:=W) d a)) rfl,Qi,f,Qi,show aB (aE aK (eV 0) (eC (.int 2))) aG (List.map frz (eU 1 [bK w h W]))=some [nQ w h W]from rfl,Qi,e,Qi];rw [if_pos (by rw [Qo];lia),Qi,j,Dl _ (Ro (nN b)),AW];exact TM (nN b) (by lia) b fun c=>Iff.rfl
def iA(l:List C):D:=.dict (l.map fun c=>(aC c,.bool true))
theorem gY(c:C):bW (aC c)=some (row c):=id rfl
theorem D5(l:List C)(c:C):fC (l.map fun c=>(aC c,Zb true)) (row c)=l.contains c:=by
 unfold fC;rw [List.any_map]
 induction l with
 | nil=>rfl
 | cons a l b=>
  rw [JI,b,List.contains_cons];congr 1
  show(bW (aC a) == some (row c))=_
  rw [gY,Ji,beq_iff_eq,beq_iff_eq];constructor
  ·intro q;exact(mH (QL q)).symm
  ·intro q;rw [q]
theorem NL(l:List C):cW (l.map fun c=>(aC c,Zb true))=true:=by
 unfold cW;rw [List.all_map,QZ];intro c _;rfl
theorem vW(a:Bool)(c:C)(l:List C):dN a (aC c) (iA l)=some (.bool (if a then !l.contains c else l.contains c)):=by
 show(bW (aC c)).bind (fun k=>if cW (l.map fun c=>(aC c,Zb true))=true then some (Zb (if a then !fC (l.map fun c=>(aC c,Zb true)) k else fC (l.map fun c=>(aC c,Zb true)) k))else none)=_
 rw [gY,Qi,NL,if_pos rfl,D5]
theorem Fs:∀ l:List C,k5 (l.map fun c=>Zf [aC c,.bool true])=some (l.map fun c=>(row c,.bool true))
 | []=>rfl
 | c::l=>by
  show(sU (.tuple [aC c,.bool true])).bind (fun p=>(k5 (l.map fun c=>Zf [aC c,.bool true])).bind fun a=>some (p::a))=_
  rw [Fs l];rfl
theorem RJ(l:List C)(c:C)(h:c∉l):fE (l.map fun c=>(aC c,Zb true)) (row c) (.bool true)=(l++[c]).map fun c=>(aC c,Zb true):=by
 unfold fE;rw [D5,if_neg (by rw [Qy];exact h),Yb];rfl
theorem CQ:∀(l acc:List C),(acc++l).Nodup->(l.map fun c=>(row c,Zb true)).foldl (fun kvs p=>fE kvs p.1 p.2) (acc.map fun c=>(aC c,Zb true))=(acc++l).map fun c=>(aC c,Zb true)
 | [],acc,_=>by rw [Yg];rfl
 | c::l,acc,h=>by
  have a:c∉acc:=by
   rw [Jm]at h;exact fun q=>h.2.2 c q c Qe rfl
  rw [Qp,YI]
  show(l.map _).foldl _ (fE _ (row c) (.bool true))=_
  rw [RJ acc c a,CQ l (acc++[c]) (by rw [Q6];exact h),Q6];rfl
theorem AE{l:List C}{d:D}(g:m5 d=some (l.map aC))(b:l.length<=1000)(f:l.Nodup):gL [d]=some (iA l):=by
 refine cL (cE (aT (ds:=[.list (l.map fun c=>Zf [aC c,.bool true])]) ?_ ?_))
 ·have e:=iG (gi:=dH (eV 0)) (s:=bM 0) (t:=eT) (ge:=bV (aB (eV 0) (aB (eC (.bool true)) aG))) (inner:=[none]) (ρ:=(eU 1 [d]).map frz) (xs:=l) aC (fun _=>true) (fun c=>Zf [aC c,.bool true]) (fun ρ=>∃ a,ρ=[a]) (iF rfl g) b ⟨_,rfl⟩ (by
   rintro c _ ρ ⟨a,rfl⟩
   exact⟨[.dat (aC c)],rfl,⟨_,rfl⟩,rfl,fun _=>rfl⟩) (by rw [lH])
  exact bA e rfl
 ·show(if _ then _ else _)=_
  rw [if_pos (by rw [Qo];exact b),Fs,Qi]
  have:=CQ l [] (by simpa using f)
  rw [Y5]at this;unfold l6 iA;rw [<- this];rfl
theorem AD{w h:Nat}{W:C->Bool}(c:w<=5)(a:h<=5):gL [nQ w h W]=some (iA ((cells w h).filter W)):=by
 have b:(cells w h).length<=25:=by rw [o6];exact Jw c a
 have d:=Ye W (cells w h);exact AE rfl (by lia) (nN (v7 (tF w h) W))
def dL(w h:Nat)(W:C->Bool):D:=iA ((cells w h).filter W)
theorem D8(a:Bool)(c:C)(w h:Nat)(W:C->Bool):dN a (aC c) (dL w h W)=some (.bool (if a then !bG w h W c else bG w h W c)):=by
 unfold dL;rw [vW,Bi]
end My
namespace My
open PySem.SeqAt L2 DL SD SL EL DC
structure WS where
 gx:Int
 gy:Int
 cs:List C
 s9:Sl
 s10:Sl
def x4(a b:C)(f e d c:Int)(s:WS):aA:=[.dat (aC a),.dat (aC b),.dat (.int f),.dat (.int e),.dat (.int d),.dat (.int c),.dat (.int s.gx),.dat (.int s.gy),.own (s.cs.map aC),s.s9,s.s10]
def vC(b a:Int)(s:WS):Bool:=decide (s.gx<b) || decide (s.gy<a)
def oK(b a:Int)(s:WS):Int:=if(2 * s.gx+1) * a<=(2 * s.gy+1) * b then s.gx+1 else s.gx
def qN(b a:Int)(s:WS):Int:=if(2 * s.gy+1) * b<=(2 * s.gx+1) * a then s.gy+1 else s.gy
def wZ(a:C)(c b e d:Int)(s:WS):WS:=⟨oK c b s,qN c b s,s.cs++[(a.1+e * oK c b s,a.2+d * qN c b s)],.dat (.int ((2 * s.gx+1) * b)),.dat (.int ((2 * s.gy+1) * c))⟩
theorem Gb(a:C)(d b i f:Int):∀(n:Nat) (s:WS) (st:List C),v8 d b n s.gx s.gy=some st->∃ s',sH (vC d b) (wZ a d b i f) n s=some s'/\s'.cs=s.cs++st.map fun g=>(a.1+i * g.1,a.2+f * g.2)
 | 0,_,_,h=>by cases h
 | n+1,s,st,h=>by
  unfold v8 at h;unfold sH;by_cases c:s.gx<d ∨ s.gy<b
  ·rw [if_pos c]at h;obtain⟨r,e,h⟩:=aN h;cases h;rw [if_pos (by unfold vC;rw [Bool.or_eq_true,decide_eq_true_eq,decide_eq_true_eq];exact c)];obtain⟨s',k,j⟩:=Gb a d b i f n (wZ a d b i f s) r e
   refine⟨s',k,?_⟩
   rw [j]
   show(s.cs++[_])++_=_
   rw [Q6];rfl
  ·rw [if_neg c]at h;cases h;rw [if_neg (by unfold vC;rw [Bool.or_eq_true,decide_eq_true_eq,decide_eq_true_eq];exact c)]
   exact⟨s,rfl,by simp⟩
theorem NS{a b:C}(n:qB a b):rG [aC a,aC b]=some (.list ((line a b).map aC)):=by
 have O:=n.ok;obtain⟨u,e,h⟩:=aN O.some
 have p:∀ x,-100<eX x/\eX x<100:=fun x=>by unfold eX;split <;> decide
 have G:=p (b.1-a.1);have F:=p (b.2-a.2);clear p;obtain⟨K,J,I,H⟩:=n
 have t:∀ x,-4<=x->x<=4->0<=fO x/\fO x<100:=fun x h U=>by unfold fO;split <;> lia
 have Q:=t _ K J;have N:=t _ I H;clear t
 have E:u.length<=8:=by
  have:=O.len
  rw [<- QL h,QE,Qo]at this;lia
 have q:∀ x y:Int,(if decide (x<y)=true then some (J3 1)else some (.int (-1)))=some (.int (eX (y-x))):=fun x y=>by
  unfold eX;by_cases c:x<y
  ·rw [if_pos (decide_eq_true c),if_pos (by lia)]
  ·rw [if_neg (by simpa using c),if_neg (by lia)]
 have B:=q a.1 b.1;have A:=q a.2 b.2;clear q;obtain⟨v,M,r⟩:=Gb a (fO (b.1-a.1)) (fO (b.2-a.2)) (eX (b.1-a.1)) (eX (b.2-a.2)) 900 ⟨0,0,[a],.no,.no⟩ u e
 have j:line a b=v.cs:=by
  rw [r];unfold line;rw [<- QL h,Qp,Yk]
  show _::_=_::_
  congr 1;exact Jj (by show a.1+0=a.1;lia) (by show a.2+0=a.2;lia)
 rw [j];refine cL ?_;unfold A9;refine aX (cQ (d:=.int (fO (b.1-a.1))) rfl) (aX (cQ (d:=.int (fO (b.2-a.2))) rfl) (aX (cQ B) (aX (cQ A) (aX (cQ rfl) (aX (cQ rfl) (aX (ρ':=x4 a b (fO (b.1-a.1)) (fO (b.2-a.2)) (eX (b.1-a.1)) (eX (b.2-a.2)) ⟨0,0,[a],.no,.no⟩) rfl ?_))))));generalize fO (b.1-a.1)=f at *;generalize fO (b.2-a.2)=g at *;generalize eX (b.1-a.1)=m at *;generalize eX (b.2-a.2)=l at *;clear B A;have o:∀ k,-100<k/\k<100->∀ i:Int,cF (.int k) (.int i)=some (.int (k * i)):=fun k h i=>iZ (lU (by lia) (by lia));have w:∀ k,0<=k/\k<100->∀ i:Int,cF (.int i) (.int k)=some (.int (i * k)):=fun k h i=>iZ (qQ (by lia) (by lia));refine aX (HS (x4 a b f g m l) (vC f g) (wZ a f g m l) (fun n s=>s.cs.length+n<=901) (fun n s R=>?_) (fun n s R T=>⟨?_,?_⟩) 900 ⟨0,0,[a],.no,.no⟩ v (by show 1+900<=901;decide) M) (cE rfl)
 ·show(if decide (s.gx<f)=true then some true else some (decide (s.gy<g)))=some (decide (s.gx<f) || decide (s.gy<g))
  cases decide (s.gx<f) <;> rfl
 ·have S:(s.cs.map aC).length<1000:=by rw [Qo];lia
  refine aX (cQ (oo (oo (oo rfl rfl (o 2 (by decide) s.gx)) rfl rfl) rfl (w g N _))) (aX (cQ (oo (oo (oo rfl rfl (o 2 (by decide) s.gy)) rfl rfl) rfl (w f Q _))) ?_);refine aX (ρ':=[.dat (aC a),.dat (aC b),.dat (.int f),.dat (.int g),.dat (.int m),.dat (.int l),.dat (.int (oK f g s)),.dat (.int s.gy),.own (s.cs.map aC),.dat (.int ((2 * s.gx+1) * g)),.dat (.int ((2 * s.gy+1) * f))]) ?_ ?_
  ·unfold oK;by_cases c:(2 * s.gx+1) * g<=(2 * s.gy+1) * f
   ·rw [if_pos c]
    exact iI (b:=true) (congrArg some (decide_eq_true c)) (fun _=>rfl) fun z=>by cases z
   ·rw [if_neg c];exact dS (congrArg some (decide_eq_false c))
  refine aX (ρ':=[.dat (aC a),.dat (aC b),.dat (.int f),.dat (.int g),.dat (.int m),.dat (.int l),.dat (.int (oK f g s)),.dat (.int (qN f g s)),.own (s.cs.map aC),.dat (.int ((2 * s.gx+1) * g)),.dat (.int ((2 * s.gy+1) * f))]) ?_ ?_
  ·unfold qN;by_cases c:(2 * s.gy+1) * f<=(2 * s.gx+1) * g
   ·rw [if_pos c]
    exact iI (b:=true) (congrArg some (decide_eq_true c)) (fun _=>rfl) fun z=>by cases z
   ·rw [if_neg c];exact dS (congrArg some (decide_eq_false c))
  refine(sX (ds:=s.cs.map aC) (d:=aC (a.1+m * oK f g s,a.2+l * qN f g s)) rfl ?_ S).trans ?_
  ·unfold bV;rw [bA (oo rfl (oo rfl rfl (o m G _)) rfl) (bA (oo rfl (oo rfl rfl (o l F _)) rfl) rfl)];rfl
  ·unfold x4 wZ;rw [Yb];rfl
 ·show(s.cs++[_]).length+n<=901
  rw [Qm,QH];lia
end My
namespace My
open PySem.SeqAt L2 DL SD SL EL DC
abbrev Cp:=C × C
def iO(p:Cp):D:=.tuple [aC p.1,aC p.2]
def two(p q:C):Cp:=if mX q p=true then(q,p)else(p,q)
def lV(p:Cp):Cp:=two (p.1.1,p.2.2) (p.2.1,p.1.2)
def lW(l:List C):List Cp:=((l.zip l.tail).filter fun p=>iQ p.1 p.2).map lV
theorem Tm(S:C->Bool)(p q:C):(S (two p q).1 && S (two p q).2)=(S p && S q):=by
 unfold two;split
 ·exact Bool.and_comm _ _
 ·rfl
theorem Ht(S:C->Bool):∀ l:List C,(lW l).all (fun p => !(S p.1 && S p.2))=sV S l
 | []=>rfl
 | [a]=>rfl
 | a::b::l=>by
  have c:=Ht S (b::l);unfold lW at c ⊢;rw [So]
  show((((a,b)::(b::l).zip (b::l).tail).filter fun p=>iQ p.1 p.2).map lV).all _=_
  rw [Jv];dsimp only
  cases iQ a b with
  | true=>
   rw [if_pos rfl,Qp,List.all_cons,c];congr 1
   show(!(S (two (a.1,b.2) (b.1,a.2)).1 && S (two (a.1,b.2) (b.1,a.2)).2))=_
   rw [Tm];rfl
  | false=>rw [if_neg Qx,c];rfl
theorem TJ(p q:C):n5 [.list [aC p,aC q]]=some (.list [aC (two p q).1,aC (two p q).2]):=by
 have:=s0 (l:=[row p,row q]) (by intro k a;rcases Qj.mp a with rfl | a;rfl;rcases Qj.mp a with rfl | a;rfl;cases a) (by show 2<=63;decide)
 refine this.trans ?_
 show some (Uq ((if HT.lexLt (row q) (row p)=true then [row q,row p]else [row p,row q]).map fL))=_
 unfold two mX
 split <;> rfl
theorem HV:∀ l m:List C,List.zipWith (fun x y=>Zf [x,y]) (l.map aC) (m.map aC)=(l.zip m).map iO
 | [],_=>rfl
 | _::_,[]=>rfl
 | a::l,b::m=>by rw [Qp,Qp,List.zipWith_cons_cons,HV l m];rfl
theorem NV(l:List C):cutD (l.map aC) (some 1) none=l.tail.map aC:=by
 cases l with
 | nil=>rfl
 | cons a l=>
  unfold DL.cutD
  have b:HT.sIx ((a::l).map aC).length 0 (some 1)=1:=by
   have:=HT.sIx_nat ((a::l).map aC).length 0 1
   rw [show((1:Nat):Int)=1 from rfl]at this;rw [this,Qo,QE];lia
  rw [b,HT.sIx_none];simp;exact Uw (by simp)
theorem NU(l:List C):cutD (l.map aC) none (some (-1))=l.dropLast.map aC:=by
 unfold DL.cutD;rw [HT.sIx_none]
 have a:HT.sIx (l.map aC).length (l.map aC).length (some (-1))=l.length-1:=by
  unfold HT.sIx;simp;lia
 rw [a,List.drop_zero,Nat.sub_zero,List.dropLast_eq_take,List.map_take]
theorem MO(l:List C)(r:l.length<=500):pB [.list (l.map aC)]=some (.list ((lW l).map iO)):=by
 have o:(l.zip l.tail).length<=500:=by rw [List.length_zip];lia
 refine cL ?_;unfold A8;rw [show eU 4 [.list (l.map aC)]=[.dat (.list (l.map aC)),.no,.no,.no]from rfl];refine aX (ρ':=[.dat (.list (l.map aC)),.own [],.no,.no]) rfl ?_
 have g:qK (aB (eV 0) (aB (qI (eV 0) (oE (eC (.int 1))) qP) aG)) [.dat (.list (l.map aC)),.own [],.no,.no]=some ((l.zip l.tail).map iO):=by
  show some (List.zipWith (fun x y=>Zf [x,y]) (l.map aC) (cutD (l.map aC) (some 1) none))=_
  rw [NV,HV]
 refine aX (jG g (pK iO (fun(b:List Cp × Sl × Sl)=>[.dat (.list (l.map aC)),.own (b.1.map iO),b.2.1,b.2.2]) (fun b p=>(if iQ p.1 p.2=true then b.1++[lV p]else b.1,.dat (aC p.1),.dat (aC p.2))) (fun i b=>b.1.length<=i) 500 (l.zip l.tail) 0 ([],.no,.no) (by lia) (Ql _) fun p _ i b s k=>?_)) ?_
 ·obtain⟨a,n,m⟩:=b;have j:a.length<=i:=k
  have f:(a.map iO).length<1000:=by rw [Qo];lia
  refine⟨⟨[.dat (.list (l.map aC)),.own (a.map iO),.dat (aC p.1),.dat (aC p.2)],rfl,?_⟩,?_⟩
  ·have t:jR (eB (aE dZ (aE aK (eV 2) (eC (.int 0))) (aE aK (eV 3) (eC (.int 0))))) (eB (aE dZ (aE aK (eV 2) (eC (.int 1))) (aE aK (eV 3) (eC (.int 1))))) [.dat (.list (l.map aC)),.dat (.list (a.map iO)),.dat (aC p.1),.dat (aC p.2)]=some (iQ p.1 p.2):=by
    show(if(!(p.1.1 == p.2.1))=true then some (!(p.1.2 == p.2.2))else some false)=some (!(p.1.1 == p.2.1) && !(p.1.2 == p.2.2))
    cases p.1.1 == p.2.1 <;> rfl
   dsimp only
   cases q:iQ p.1 p.2 with
   | true=>
    rw [q]at t
    refine(iI (b:=true) t (fun _=>sX (ds:=a.map iO) (d:=iO (lV p)) rfl (aT (bA (aT rfl (TJ (p.1.1,p.2.2) (p.2.1,p.1.2))) rfl) rfl) f) fun z=>by cases z).trans ?_
    rw [if_pos rfl,Yb];rfl
   | false=>
    rw [q]at t;exact dS t
  ·show(if iQ p.1 p.2=true then a++[lV p]else a).length<=i+1
   split
   ·rw [Qm,QH];lia
   ·lia
 ·have e:∀(c:List Cp) (b:List Cp × Sl × Sl),(c.foldl (fun(b:List Cp × Sl × Sl) p=>(if iQ p.1 p.2=true then b.1++[lV p]else b.1,Sl.dat (aC p.1),Sl.dat (aC p.2))) b).1=b.1++(c.filter fun p=>iQ p.1 p.2).map lV:=by
   intro c
   induction c with
   | nil=>intro b;simp
   | cons z c h=>
    intro b;rw [YI,h,Jv];dsimp only
    cases iQ z.1 z.2 with
    | true=>rw [if_pos rfl,if_pos rfl,Qp,Q6];rfl
    | false=>rw [if_neg Qx,if_neg Qx]
  refine cE ?_
  show some (Uq (((l.zip l.tail).foldl (fun(b:List Cp × Sl × Sl) p=>(if iQ p.1 p.2=true then b.1++[lV p]else b.1,Sl.dat (aC p.1),Sl.dat (aC p.2))) ([],.no,.no)).1.map iO))=_
  rw [e];rfl
theorem G2{w h:Nat}{W:C->Bool}{a b:C}(n:qB a b):nW [dL w h W,aC a,aC b]=some (.bool (clear (bG w h W) a b)):=by
 have E:(line a b).length<=9:=by unfold line;rw [Qo];exact n.ok.len
 have F:(line a b).dropLast.length<=9:=by rw [List.length_dropLast];lia
 refine cL ?_;unfold Bb;rw [show eU 7 [dL w h W,aC a,aC b]=[.dat (dL w h W),.dat (aC a),.dat (aC b),.no,.no,.no,.no]from rfl];refine aX (cQ (aT rfl (NS n))) ?_;have d:∀ c,dN false (aC c) (dL w h W)=some (.bool (bG w h W c)):=fun c=>D8 false c w h W
 have m:=A3 (s:=bM 4) (g:=cG (eB (aE (dN false) (eV 4) (eV 0))) (bN (eC (.bool false))) cR) aC (fun f=>∃ e,f=[.dat (dL w h W),.dat (aC a),.dat (aC b),.dat (.list ((line a b).map aC)),e,.no,.no]) (bG w h W) (.bool false) (line a b).dropLast [.dat (dL w h W),.dat (aC a),.dat (aC b),.dat (.list ((line a b).map aC)),.no,.no,.no] ⟨_,rfl⟩ (by
  rintro c _ f ⟨e,rfl⟩
  refine⟨[.dat (dL w h W),.dat (aC a),.dat (aC b),.dat (.list ((line a b).map aC)),.dat (aC c),.no,.no],rfl,?_⟩
  cases q:bG w h W c with
  | true=>rw [if_pos rfl];exact iI (b:=true) (oB (oo rfl rfl (by rw [d,q]))) (fun _=>rfl) fun z=>by cases z
  | false=>rw [if_neg Qx];exact⟨_,dS (oB (oo rfl rfl (by rw [d,q]))),⟨_,rfl⟩⟩)
 have x:dH (qI (eV 3) qP (oE (dJ dF (eC (.int 1))))) [.dat (dL w h W),.dat (aC a),.dat (aC b),.dat (.list ((line a b).map aC)),.no,.no,.no]=some ((line a b).dropLast.map aC):=by
  show some (cutD ((line a b).map aC) none (some (-1)))=_
  rw [NU]
 unfold clear;by_cases j:(line a b).dropLast.any (bG w h W)=true
 ·rw [if_pos j]at m
  refine(pZ (jG x m)).trans ?_
  have:(line a b).dropLast.all (fun c => !bG w h W c)=false:=by
   rw [Jx];simp only [Bool.not_not];rw [j];rfl
  rw [this];rfl
 ·rw [if_neg j]at m;obtain⟨o,A,e,rfl⟩:=m;refine aX (jG x A) ?_
  have B:(line a b).dropLast.all (fun c => !bG w h W c)=true:=by
   rw [Jx];simp only [Bool.not_not];rw [Ja]at j;rw [j];rfl
  rw [B,JH,<- Ht]
  have l:=A3 (s:=jY 2 (fG (bM 5) (fG (bM 6) jX))) (g:=cG (jR (eB (aE (dN false) (eV 5) (eV 0))) (eB (aE (dN false) (eV 6) (eV 0)))) (bN (eC (.bool false))) cR) iO (fun f=>∃ t r,f=[.dat (dL w h W),.dat (aC a),.dat (aC b),.dat (.list ((line a b).map aC)),e,t,r]) (fun p=>bG w h W p.1 && bG w h W p.2) (.bool false) (lW (line a b)) [.dat (dL w h W),.dat (aC a),.dat (aC b),.dat (.list ((line a b).map aC)),e,.no,.no] ⟨_,_,rfl⟩ (by
   rintro p _ f ⟨t,r,rfl⟩
   refine⟨[.dat (dL w h W),.dat (aC a),.dat (aC b),.dat (.list ((line a b).map aC)),e,.dat (aC p.1),.dat (aC p.2)],rfl,?_⟩
   cases k:bG w h W p.1 <;> cases u:bG w h W p.2
   ·exact⟨_,dS (yF (oB (oo rfl rfl (by rw [d,k])))),⟨_,_,rfl⟩⟩
   ·exact⟨_,dS (yF (oB (oo rfl rfl (by rw [d,k])))),⟨_,_,rfl⟩⟩
   ·exact⟨_,dS (qO (oB (oo rfl rfl (by rw [d,k]))) (oB (oo rfl rfl (by rw [d,u])))),⟨_,_,rfl⟩⟩
   ·show cG _ _ _ _=_
    exact iI (b:=true) (qO (oB (oo rfl rfl (by rw [d,k]))) (oB (oo rfl rfl (by rw [d,u])))) (fun _=>rfl) fun z=>by cases z)
  have v:dH (aJ pB (aB (eV 3) aG)) [.dat (dL w h W),.dat (aC a),.dat (aC b),.dat (.list ((line a b).map aC)),e,.no,.no]=some ((lW (line a b)).map iO):=
   iF (aT rfl (MO _ (by lia))) rfl
  by_cases i:(lW (line a b)).any (fun p=>bG w h W p.1 && bG w h W p.2)=true
  ·rw [if_pos i]at l
   refine(pZ (jG v l)).trans ?_
   have:(lW (line a b)).all (fun p => !(bG w h W p.1 && bG w h W p.2))=false:=by
    rw [Jx];simp only [Bool.not_not];rw [i];rfl
   rw [this]
  ·rw [if_neg i]at l;obtain⟨o,y,t,r,rfl⟩:=l;refine aX (jG v y) ?_
   have:(lW (line a b)).all (fun p => !(bG w h W p.1 && bG w h W p.2))=true:=by
    rw [Jx];simp only [Bool.not_not];rw [Ja]at i;rw [i];rfl
   rw [this];exact cE rfl
theorem FH{w h:Nat}(c:w<=5)(e:h<=5){a b:C}(g:eI w h a=true)(f:eI w h b=true):qB a b:=by
 obtain⟨s,r,o,m⟩:=pM.mp g;obtain⟨l,k,j,i⟩:=pM.mp f
 have d:∀{n:Nat}{x y:Int},n<=5->0<=x->x<n->0<=y->y<n->-4<=y-x/\y-x<=4:=fun A z v u t=>by lia
 have p:=d c s r l k;have q:=d e o m j i
 exact⟨p.1,p.2,q.1,q.2⟩
section
variable {w h:Nat}{W:C->Bool}(hw:w<=5)(hh:h<=5)
include hw hh
theorem Ar{c:C}(a:eI w h c=true):bG w h W c=W c:=by unfold bG;rw [a,JH]
theorem NG{a:C}(i:eI w h a=true)(j:W a=false):pD [bK w h W,aC a]=some (.list (((cells w h).filter fun b=>gB (bG w h W) a b).map aC)):=by
 have m:gL [nQ w h W]=some (dL w h W):=AD hw hh;refine cL ?_;unfold Ba;rw [show eU 3 [bK w h W,aC a]=[.dat (bK w h W),.dat (aC a),.no]from rfl];refine aX (kL (aT rfl (pU i j))) (aX (cQ (aT rfl m)) ?_);refine cE (iG (xs:=(cells w h).filter fun c => !W c) aC (fun b=>clear (bG w h W) a b) aC (fun f=>∃ g,f=[g,.dat (dL w h W),.dat (aC a)]) (iF (aT rfl (wC hw hh)) rfl) (Qz (Ye _ _) (by rw [o6];exact Qz (Jw hw hh) (by decide))) ⟨_,rfl⟩ ?_ ?_)
 ·rintro b d f ⟨g,rfl⟩;have e:=G2 (w:=w) (h:=h) (W:=W) (FH hw hh i (kY.mp (Yo.mp d).1))
  exact⟨[.dat (aC b),.dat (dL w h W),.dat (aC a)],rfl,⟨_,rfl⟩,oB (aT rfl e),fun _=>rfl⟩
 ·rw [List.filter_filter];congr 1;refine UB fun b d=>?_;unfold gB;rw [Ar hw hh (kY.mp d),Bool.and_comm]
theorem NC{a b:C}(d:eI w h a=true)(c:eI w h b=true):rN [dL w h W,aC a,aC b]=some (.bool (gB (bG w h W) a b)):=by
 have e:=G2 (w:=w) (h:=h) (W:=W) (FH hw hh d c);have i:=D8 true b w h W;unfold gB
 cases q:bG w h W b with
 | true=>rw [q]at i;exact cL (cE (Kb (oo rfl rfl i)))
 | false=>rw [q]at i;exact cL (cE (Cy (oo rfl rfl i) (aT rfl e)))
end
end My
namespace My
open PySem.SeqAt L2 DL SD SL EL DC
theorem yD(a b:C):dZ (aC a) (aC b)=some (.bool (!(a == b))):=by
 unfold dZ;rw [Aq,Aq,zM];rfl
section
variable {g g1 g2 rest:aA->Option aP}{ρ ρ':aA}{I:aA->Prop}{t:aA->Option Bool}
end
theorem Iv{ga:aA->Option D}{ρ:aA}{d:D}(h:ga ρ=some d):aB ga aG ρ=some [d]:=by
 unfold aB;rw [h];rfl
end My
namespace My
open PySem.SeqAt L2 DL SD SL EL DC
def bF(w h:Nat)(W:C->Bool):List C:=(cells w h).filter fun c => !W c
theorem gC{w h:Nat}{W:C->Bool}{c:C}:c∈bF w h W ↔ eI w h c=true/\W c=false:=by
 unfold bF;rw [Yo,kY,Y1]
theorem Bu(w h:Nat)(W:C->Bool):Up (bF w h W):=v7 (tF w h) _
theorem nI{w h:Nat}(a:w<=5)(b:h<=5)(W:C->Bool):(bF w h W).length<=25:=
 Qz (Ye _ _) (by rw [o6];exact Jw a b)
theorem Fw{w h:Nat}{W:C->Bool}(a:w<=5)(g:0<h)(b:h<=5):nU [bK w h W]=some (.list ((bF w h W).map aC)):=by
 refine cL (cE (iG (xs:=cells w h) aC (fun c => !bG w h W c) aC (fun d=>∃ e,d=[e,.dat (bK w h W)]) (iF (aT rfl (OD a g b)) rfl) (by rw [o6];exact Qz (Jw a b) (by decide)) ⟨_,rfl⟩ ?_ ?_))
 ·rintro c _ d ⟨e,rfl⟩
  exact⟨[.dat (aC c),.dat (bK w h W)],rfl,⟨_,rfl⟩,oB (oo rfl rfl (x8 true c w h W)),fun _=>rfl⟩
 ·unfold bF;congr 1;refine UB fun c f=>?_;rw [Ar a b (kY.mp f)]
def bD(l:List C)(f:C->D):List (D × D):=l.map fun c=>(aC c,f c)
abbrev fH(l:List C)(f:C->Int):List (D × D):=bD l fun c=>.int (f c)
theorem uT(a c:C):(bW (aC a) == some (row c))=(a == c):=by
 rw [gY,Ji,beq_iff_eq,beq_iff_eq]
 exact⟨fun q=>mH (QL q),fun q=>by rw [q]⟩
theorem q9(l:List C)(f:C->D)(c:C):fC (bD l f) (row c)=l.contains c:=by
 unfold fC bD;rw [List.any_map]
 induction l with
 | nil=>rfl
 | cons a l b=>
  rw [JI,b,List.contains_cons];congr 1
  show(bW (aC a) == some (row c))=_
  rw [uT,Ji,beq_iff_eq,beq_iff_eq]
  exact⟨Eq.symm,Eq.symm⟩
theorem j1(l:List C)(f:C->D):cW (bD l f)=true:=by
 unfold cW bD;rw [List.all_map,QZ];intro c _;rfl
theorem vV{l:List C}(f:C->D){c:C}(h:c∈l):getD (bD l f) (row c)=some (f c):=by
 unfold getD bD
 induction l with
 | nil=>cases h
 | cons a l b=>
  rw [Qp,Y4,uT];by_cases e:a=c
  ·subst e;simp
  ·rw [beq_eq_false_iff_ne.mpr e];exact b ((Qj.mp h).resolve_left fun z=>e z.symm)
def oD(f:C->Int)(c:C):C->Int:=fun x=>if x=c then f c+1 else f x
theorem RI{l:List C}(f:C->Int){c:C}(h:c∈l):fE (fH l f) (row c) (.int (f c+1))=fH l (oD f c):=by
 unfold fE;rw [q9,if_pos (Qy.mpr h)];unfold fH bD;rw [Yk];refine Y7 fun a _=>?_
 show(if(bW (aC a) == some (row c))=true then(aC a,J3 (f c+1))else(aC a,.int (f a)))=_
 rw [uT];unfold oD;dsimp only;by_cases e:a=c
 ·rw [if_pos (beq_iff_eq.mpr e),if_pos e]
 ·rw [if_neg (by simpa using e),if_neg e]
theorem AJ(f:C->D):∀ l:List C,k5 (l.map fun c=>Zf [aC c,f c])=some (l.map fun c=>(row c,f c))
 | []=>rfl
 | c::l=>by
  show(sU (.tuple [aC c,f c])).bind (fun p=>(k5 (l.map fun c=>Zf [aC c,f c])).bind fun a=>some (p::a))=_
  rw [AJ f l];rfl
theorem AQ(l:List C)(f:C->D)(c:C)(h:c∉l):fE (bD l f) (row c) (f c)=bD (l++[c]) f:=by
 unfold fE;rw [q9,if_neg (by rw [Qy];exact h)];unfold bD;rw [Yb];rfl
theorem Al(f:C->D):∀(l acc:List C),(acc++l).Nodup->(l.map fun c=>(row c,f c)).foldl (fun kvs p=>fE kvs p.1 p.2) (bD acc f)=bD (acc++l) f
 | [],acc,_=>by rw [Yg];rfl
 | c::l,acc,h=>by
  have a:c∉acc:=by
   rw [Jm]at h;exact fun q=>h.2.2 c q c Qe rfl
  rw [Qp,YI]
  show(l.map _).foldl _ (fE _ (row c) (f c))=_
  rw [AQ acc f c a,Al f l (acc++[c]) (by rw [Q6];exact h),Q6];rfl
theorem Ge(l:List C)(f:C->D):qS (.dict (bD l f))=some (l.map aC):=by
 show(if((bD l f).all fun e=>x9 e.1)=true then some ((bD l f).map (·.1))else none)=_
 unfold bD;rw [if_pos (by rw [List.all_map,QZ];intro c _;rfl),Yk];rfl
theorem m9{l:List C}(f:C->D){c:C}(h:c∈l):fN (.dict (bD l f)) (aC c)=some (f c):=by
 show((bW (aC c)).bind fun k=>if cW (bD l f)=true then getD (bD l f) k else none)=_
 rw [gY,Qi,j1,if_pos rfl,vV f h]
theorem FZ{ga:aA->Option D}{ρ:aA}{d:D}{l:List D}(b:ga ρ=some d)(a:qS d=some l):mU ga ρ=some l:=by
 unfold mU;rw [b];exact a
def qU(b:(C->Int) × Sl)(o:C):(C->Int) × Sl:=(oD b.1 o,.dat (aC o))
theorem GC(c:C):∀(l:List C) (b:(C->Int) × Sl),(l.foldl qU b).1 c=b.1 c+(l.count c:Nat)
 | [],b=>by simp
 | o::l,b=>by
  rw [YI,GC c l]
  show oD b.1 o c+_=_
  unfold oD;rw [List.count_cons];by_cases e:c=o
  ·subst e;simp;lia
  ·rw [if_neg e,if_neg (by simpa using fun z=>e z.symm)];simp
section
variable (fld:C->List C)
def zF(b:(C->Int) × Sl × Sl)(a:C):(C->Int) × Sl × Sl:=(((fld a).foldl qU (b.1,b.2.2)).1,.dat (aC a),((fld a).foldl qU (b.1,b.2.2)).2)
theorem GD(c:C):∀(l:List C) (b:(C->Int) × Sl × Sl),(l.foldl (zF fld) b).1 c=b.1 c+((l.map fun a=>(fld a).count c).sum:Nat)
 | [],b=>by simp
 | a::l,b=>by
  rw [YI,GD c l]
  show((fld a).foldl qU (b.1,b.2.2)).1 c+_=_
  rw [GC];simp;lia
end
theorem RL{i:Nat}{gk gv:aA->Option D}{ρ:aA}{l:List C}{f:C->Int}{c:C}(h:ρ[i]?=some (.ownD (fH l f)))(g:gv ρ=some (.int (f c+1)))(e:gk ρ=some (aC c))(d:c∈l)(b:l.length<1000)(a:oO i ρ=true):
  lY i gk gv ρ=some (.nx (ρ.set i (.ownD (fH l (oD f c))))):=by
 unfold lY;rw [h]
 show(gv ρ).bind _=_
 rw [g,Qi,e,Qi,gY,Qi,j1,if_pos (by rw [a];simp [fH,bD,b]),RI f d]
theorem PP{i:Nat}{gk:aA->Option D}{ρ:aA}{l:List C}{f:C->Int}{c:C}(d:ρ[i]?=some (.ownD (fH l f)))(b:gk ρ=some (aC c))(a:c∈l):kJ i gk ρ=some (.int (f c)):=by
 unfold kJ;rw [d]
 show(gk ρ).bind _=_
 rw [b,Qi,gY,Qi,j1,if_pos rfl,vV (fun c=>.int (f c)) a]
end My
namespace My
open PySem.SeqAt L2 DL SD SL EL DC
section
variable {w h:Nat}{W:C->Bool}(hw:w<=5)(hh:h<=5)
include hw hh
theorem Nb{a:C}:∀ c∈(cells w h).filter (fun b=>gB (bG w h W) a b),c∈bF w h W:=fun c d=>by
 rw [Yo,kY]at d;refine gC.mpr ⟨d.1,?_⟩
 have:=d.2
 unfold gB at this;rw [Ar hw hh d.1,QO,Y1]at this;exact this.1
theorem Na{a c:C}(e:eI w h c=true):((cells w h).filter fun b=>gB (bG w h W) a b).count c=if gB (bG w h W) a c=true then 1 else 0:=by
 have d:=nN (v7 (tF w h) fun b=>gB (bG w h W) a b);by_cases s:gB (bG w h W) a c=true
 ·rw [if_pos s,List.Nodup.count d,if_pos (Yo.mpr ⟨kY.mpr e,s⟩)]
 ·rw [if_neg s,List.Nodup.count d,if_neg (fun z=>s (Yo.mp z).2)]
theorem S4{cs:List C}(m:∀ a∈cs,a∈bF w h W)(I:cs.length<=900):∃ f:C->Int,(∀ c∈bF w h W,f c=(cs.countP fun a=>gB (bG w h W) a c:Nat))/\rP [bK w h W,.list (cs.map aC)]=some (.dict (fH (bF w h W) f)):=by
 obtain⟨O,p⟩:∃ O,O=bF w h W:=⟨_,rfl⟩;obtain⟨g,k⟩:∃ g:C->List C,g=fun a=>(cells w h).filter fun b=>gB (bG w h W) a b:=⟨_,rfl⟩
 have E:fR [bK w h W]=some (.list (O.map aC)):=by rw [p];exact wC hw hh
 have M:O.length<=25:=by rw [p];exact nI hw hh W
 have B:O.Nodup:=by rw [p];exact nN (Bu w h W)
 have z:∀ a∈cs,pD [bK w h W,aC a]=some (.list ((g a).map aC)):=fun a u=>by
  obtain⟨K,J⟩:=gC.mp (m a u);rw [k];exact NG hw hh K J
 have x:∀ a,∀ c∈g a,c∈O:=fun a c m=>by rw [k]at m;rw [p];exact Nb hw hh c m
 have y:∀ a,(g a).length<=25:=fun a=>by rw [k];exact Qz (Ye _ _) (by rw [o6];exact Jw hw hh)
 refine⟨(cs.foldl (zF g) ((fun _=>0),.no,.no)).1,fun c r=>?_,cL ?_⟩
 ·rw [GD];have i:=(gC.mp r).1;rw [k,Int.zero_add];refine congrArg (fun n:Nat=>(n:Int)) ?_;clear m I z x y k
  induction cs with
  | nil=>rfl
  | cons a cs G=>
   rw [Qp,YW,G,List.countP_cons,Na hw hh i];lia
 ·unfold Bg;rw [show eU 5 [bK w h W,.list (cs.map aC)]=[.dat (bK w h W),.dat (.list (cs.map aC)),.no,.no,.no]from rfl,<- p]
  have A:wM 2 (aB (eA (dX (dH (aJ fR (aB (eV 0) aG))) (bM 0) eT (bV (aB (eV 0) (aB (eC (.int 0)) aG))) [none])) aG) [.dat (bK w h W),.dat (.list (cs.map aC)),.no,.no,.no]=some (.nx [.dat (bK w h W),.dat (.list (cs.map aC)),.ownD (fH O fun _=>0),.no,.no]):=by
   have F:=iG (gi:=dH (aJ fR (aB (eV 0) aG))) (s:=bM 0) (t:=eT) (ge:=bV (aB (eV 0) (aB (eC (.int 0)) aG))) (inner:=[none]) (ρ:=[.dat (bK w h W),.dat (.list (cs.map aC)),.no,.no,.no]) (xs:=O) aC (fun _=>true) (fun c=>Zf [aC c,.int 0]) (fun ρ=>∃ v,ρ=[v]) (iF (aT rfl E) rfl) (by lia) ⟨_,rfl⟩ (by
    rintro c _ ρ ⟨v,rfl⟩
    exact⟨[.dat (aC c)],rfl,⟨_,rfl⟩,rfl,fun _=>rfl⟩) (by rw [lH])
   unfold wM;rw [Iv F]
   show(if _ then _ else _)=_
   rw [if_pos (by rw [Qo];lia),AJ (fun _=>.int 0),Qi]
   have:=Al (fun _=>.int 0) O [] (by simpa using B)
   rw [Y5]at this;unfold l6;rw [show([]:List (D × D))=fH [] fun _=>0 from rfl,this];rfl
  refine aX A (aX (jG (iF (d:=.list (cs.map aC)) rfl rfl) (pK aC (fun(b:(C->Int) × Sl × Sl)=>[.dat (bK w h W),.dat (.list (cs.map aC)),.ownD (fH O b.1),b.2.1,b.2.2]) (zF g) (fun _ _=>True) 900 cs 0 ((fun _=>0),.no,.no) (by lia) trivial fun a u i b _ _=>⟨⟨[.dat (bK w h W),.dat (.list (cs.map aC)),.ownD (fH O b.1),.dat (aC a),b.2.2],rfl,?_⟩,trivial⟩)) ?_)
  ·refine(jG (iF (aT rfl (z a u)) rfl) (pK aC (fun(b:(C->Int) × Sl)=>[.dat (bK w h W),.dat (.list (cs.map aC)),.ownD (fH O b.1),.dat (aC a),b.2]) qU (fun _ _=>True) 25 (g a) 0 (b.1,b.2.2) (by have:=y a;lia) trivial fun o H i q _ _=>⟨⟨[.dat (bK w h W),.dat (.list (cs.map aC)),.ownD (fH O q.1),.dat (aC a),.dat (aC o)],rfl,?_⟩,trivial⟩)).trans rfl
   have j:=x a o H
   refine(RL (l:=O) (f:=q.1) (c:=o) rfl ?_ rfl j (by lia) rfl).trans rfl
   have e:=PP (i:=2) (gk:=eV 4) (ρ:=[.dat (bK w h W),.dat (.list (cs.map aC)),.ownD (fH O q.1),.dat (aC a),.dat (aC o)]) (f:=q.1) rfl rfl j;simp only [Ir,e,Iq,Id,Im]
  ·exact cE rfl
theorem MD{cs:List C}(j:∀ a∈cs,a∈bF w h W)(i:cs.length<=900):rO [bK w h W,.list (cs.map aC)]=some (.list (((bF w h W).filter fun c=>cs.any fun a=>gB (bG w h W) a c).map aC)):=by
 obtain⟨f,l,k⟩:=S4 hw hh j i;have m:=nI hw hh W;refine cL ?_;unfold Bf;rw [show eU 3 [bK w h W,.list (cs.map aC)]=[.dat (bK w h W),.dat (.list (cs.map aC)),.no]from rfl];refine aX (cQ (aT rfl k)) ?_;refine cE (iG (xs:=bF w h W) aC (fun c=>decide (0<f c)) aC (fun e=>∃ g,e=[g,.dat (.dict (fH (bF w h W) f))]) (FZ (d:=.dict (fH (bF w h W) f)) rfl (Ge _ fun c=>.int (f c))) (by lia) ⟨_,rfl⟩ ?_ ?_)
 ·rintro c b e ⟨g,rfl⟩
  exact⟨[.dat (aC c),.dat (.dict (fH (bF w h W) f))],rfl,⟨_,rfl⟩,oB (oo (oo rfl rfl (m9 (fun c=>.int (f c)) b)) rfl rfl),fun _=>rfl⟩
 ·refine congrArg (List.map aC) (UB fun c b=>?_);rw [l c b,Ji,decide_eq_true_eq,Jb];rw [show(0<((cs.countP fun a=>gB (bG w h W) a c:Nat):Int)) ↔ 0<cs.countP fun a=>gB (bG w h W) a c from by lia,List.countP_pos_iff]
end
end My
namespace My
open PySem.SeqAt L2 DL SD SL EL DC TB TX
def ws(x:Nat):Str:=⟨#[x]⟩
def cB(u:List Nat):Str:=⟨u.toArray⟩
theorem v5:i4=bS.map fun x=>(ws x,aC (n8 x)):=by
 have d:(Str.ofString "n")=ws 110:=by decide
 have c:(Str.ofString "e")=ws 101:=by decide
 have b:(Str.ofString "s")=ws 115:=by decide
 have a:(Str.ofString "w")=ws 119:=by decide
 unfold i4;rw [d,c,b,a];rfl
theorem Fu{x:Nat}(h:x∈bS):(bS.map fun x=>(ws x,aC (n8 x))).lookup (ws x)=some (aC (n8 x)):=by
 rcases nR h with rfl | rfl | rfl | rfl <;> rfl
theorem GR{tb:List (Str × D)}{ga:aA->Option D}{ρ:aA}{x:Str}{d:D}(b:ga ρ=some (.str x))(a:tb.lookup x=some d):lQ tb ga ρ=some d:=by
 unfold lQ;rw [b];exact a
theorem Aa{a:C}{x:Nat}(h:x∈bS):kE [aC a,.str (ws x)]=some (aC (aH a x)):=by
 have b:=Fu h;rw [<- v5]at b;refine cL (cE ?_);have t:lQ i4 (eV 1) ((eU 2 [aC a,.str (ws x)]).map frz)=some (aC (n8 x)):=GR rfl b;exact iS (oo rfl (oo t rfl rfl) rfl) (oo rfl (oo t rfl rfl) rfl)
def jC(a:C)(x:Nat):D:=.tuple [.str (ws x),aC (aH a x)]
theorem oJ(a:Bool)(K:List C)(f:C->D)(b:C):dN a (aC b) (.dict (bD K f))=some (.bool (if a then !K.contains b else K.contains b)):=by
 show(bW (aC b)).bind (fun k=>if cW (bD K f)=true then some (Zb (if a then !fC (bD K f) k else fC (bD K f) k))else none)=_
 rw [gY,Qi,j1,if_pos rfl,q9]
theorem GA{d:D}{G:List C}(h:∀ b,dN false (aC b) d=some (.bool (G.contains b)))(a:C):iT [d,aC a]=some (.list ((eL G a).map (jC a))):=by
 refine cL (cE (iG (xs:=bS) (fun x=>.str (ws x)) (fun x=>G.contains (aH a x)) (jC a) (fun c=>∃ f,c=[f,.dat (aC a),.dat d]) ?_ (by decide) ⟨_,rfl⟩ ?_ rfl))
 ·show some (i4.map fun e=>PyData.str e.1)=_
  rw [v5,Yk];rfl
 ·rintro x g c ⟨f,rfl⟩;have b:=Aa (a:=a) g
  exact⟨[.dat (.str (ws x)),.dat (aC a),.dat d],rfl,⟨_,rfl⟩,oB (oo (aT rfl b) rfl (h (aH a x))),fun _=>iS rfl (aT rfl b)⟩
theorem TZ(G:List C)(a:C):iT [iA G,aC a]=some (.list ((eL G a).map (jC a))):=GA (fun b=>vW false b G) a
theorem T3(K:List C)(f:C->D)(a:C):iT [.dict (bD K f),aC a]=some (.list ((eL K a).map (jC a))):=GA (oJ false K f) a
theorem m7{b:Type}{s:D->aA->Option aA}{g:aA->Option aP}(item:b->D)(I:List b->aA->Prop)(L:List b)(h:∀ pre a post,L=pre++a::post->∀ ρ,I pre ρ->∃ ρ1 ρ2,s (item a) ρ=some ρ1/\g ρ1=some (.nx ρ2)/\I (pre++[a]) ρ2):
  ∀(xs pre:List b) (ρ:aA),L=pre++xs->I pre ρ->∃ ρ',fZ s g (xs.map item) ρ=some (.nx ρ')/\I L ρ'
 | [],pre,ρ,e,h0=>⟨ρ,rfl,by rw [e,Yg];exact h0⟩
 | x::xs,pre,ρ,e,h0=>by
  obtain⟨ρ1,ρ2,f,d,c⟩:=h pre x xs e ρ h0;rw [Qp];unfold fZ;rw [f,Qi,d,Qi];exact m7 item I L h xs (pre++[x]) ρ2 (by rw [Q6];exact e) c
theorem v9{t:aA->Option Bool}{g:aA->Option aP}(I:Nat->aA->Prop)(a:aA->Prop)(h:∀ m ρ,I m ρ->(t (ρ.map frz)=some false/\a ρ) ∨ (t (ρ.map frz)=some true/\∃ ρ' m',g ρ=some (.nx ρ')/\m'<m/\I m' ρ')):
  ∀(n m:Nat) (ρ:aA),m<n->I m ρ->∃ ρ',i5 t g n ρ=some (.nx ρ')/\a ρ'
 | 0,m,ρ,hn,_=>absurd hn (Yz _)
 | n+1,m,ρ,hn,i=>by
  unfold i5;rcases h m ρ i with⟨e,d⟩ | ⟨e,ρ',m',c,lt,b⟩
  ·rw [e];exact⟨ρ,rfl,d⟩
  ·rw [e,Qi,if_pos rfl,c,Qi];exact v9 I a h n m' ρ' (by lia) b
theorem Md.weak{G:List C}{s:C}{k:Nat}{K d e:List C}{g g':C->List Nat}{P c:C->Nat->Prop}(m:Md G k K g P d g' e s)(h:∀ b y,c b y->aH b y∈G->P b y):Md G k K g c d g' e s:=
 ⟨m.up,m.nw,m.fa,fun b y p a=>m.cl b y (h b y p a) a⟩
def fD(g:C->List Nat):C->D:=fun c=>.str (cB (g c))
theorem C2(u:List Nat)(x:Nat)(h:u.length<=1000):lA (.str (cB u)) (.str (ws x))=some (.str (cB (u++[x]))):=by
 show(if decide ((cB u).length+(ws x).length<=1000000)=true then some (PyData.str (cB u++ws x))else none)=_
 have e:(cB u).length=u.length:=by unfold cB Str.length;simp
 have a:(ws x).length=1:=rfl;rw [e,a,if_pos (decide_eq_true (by lia))]
 have:cB u++ws x=cB (u++[x]):=by
  show(⟨u.toArray++#[x]⟩:Str)=⟨(u++[x]).toArray⟩
  simp
 rw [this]
theorem K9{K:List C}{g:C->List Nat}{b:C}(v:List Nat)(h:b∉K):fE (bD K (fD g)) (row b) (.str (cB v))=bD (K++[b]) (fD (gT g b v)):=by
 have e:bD K (fD g)=bD K (fD (gT g b v)):=by
  unfold bD;refine Y7 fun c a=>?_;unfold fD gT;rw [if_neg (fun z=>h (by rw [<- z];exact a))]
 have d:PyData.str (cB v)=fD (gT g b v) b:=by unfold fD gT;rw [if_pos rfl]
 rw [e,d];exact AQ K _ b h
def left(G K:List C):Nat:=(G.filter fun c => !K.contains c).length
theorem OF{G K:List C}{b:C}(e:b∈G)(d:b∉K):left G (K++[b])<left G K:=by
 refine EU (fun c a=>?_) ⟨b,e,?_,?_⟩
 ·rw [Y1,<- Ja,Qy]at a ⊢;exact fun z=>a (QK _ z)
 ·rw [Y1,<- Ja,Qy];exact d
 ·rw [Bool.not_eq_false',Qy];exact Qk _ (Qd.mpr rfl)
section
variable {G:List C}{s:C}
def gU(G:List C)(s:C)(K:List C)(g:C->List Nat)(R:List C)(s4 s5 s6 s7:Sl):aA:=[.dat (iA G),.dat (aC s),.ownD (bD K (fD g)),.dat (.list (R.map aC)),s4,s5,s6,s7]
def By:aA->Option aP:=cG (eB (aE (dN true) (eV 7) (eV 2))) (aO (lY 2 (eV 7) (aE lA (kJ 2 (eV 5)) (eV 6))) (jF 4 (eV 7))) cR
structure Bd(G K' Fa:List C)(n:Nat):Prop where
 k:K'.length+left G K'<=26
 f:Fa.length+left G K'<=n
inductive Ce(G:List C)(s:C)(k:Nat)(K:List C)(g:C->List Nat)(P Q:C->Nat->Prop)(f:List C->(C->List Nat)->List C->Option aP)(n:Nat)(o:Option aP):Prop
 | mk (K2:List C) (g2:C->List Nat) (Fa2:List C) (e:o=f K2 g2 Fa2) (m:Md G k K g P K2 g2 Fa2 s) (b:Bd G K2 Fa2 n) (mf:Mf K g P Q K2 g2 Fa2):Ce G s k K g P Q f n o
theorem Ps{k:Nat}{K K' R Fa:List C}{g g':C->List Nat}{P Q:C->Nat->Prop}{a:C}{x:Nat}(l:Lv G s k K g R)(m:Md G k K g P K' g' Fa s)(q:Mf K g P Q K' g' Fa)(h:∀ b y,Q b y->eK (g b++[y]) (g a++[x]))(n:a∈R)(u:x∈eL G a)(F:k<=60)(p:Bd G K' Fa 30):
  Ce G s k K g (fun b y=>P b y ∨ (b=a/\y=x)) (fun b y=>Q b y ∨ (b=a/\y=x)) (fun K g Fa=>some (.nx (gU G s K g R (.own (Fa.map aC)) (.dat (aC a)) (.dat (.str (ws x))) (.dat (aC (aH a x)))))) 30 (By (gU G s K' g' R (.own (Fa.map aC)) (.dat (aC a)) (.dat (.str (ws x))) (.dat (aC (aH a x))))):=by
 obtain⟨v,j⟩:=Yo.mp u;have j:=Qy.mp j;have B:=(m.up a (l.e a n).1).1
 have A:(g' a).length<=1000:=by rw [(m.up a (l.e a n).1).2,(l.e a n).2];lia
 have o:=oJ true K' (fD g') (aH a x);by_cases c:aH a x∈K'
 ·rw [Qy.mpr c]at o
  exact⟨K',g',Fa,dS (oB (oo rfl rfl o)),m.old fun _=>c,p,q.old h⟩
 ·rw [show K'.contains (aH a x)=false from by rw [UC];exact fun z=>c (Qy.mp z)]at o;have E:=OF j c;have I:=p.k;have H:=p.f
  refine⟨K'++[aH a x],gT g' (aH a x) (g' a++[x]),Fa++[aH a x],iI (b:=true) (oB (oo rfl rfl o)) (fun _=>?_) fun z=>(by cases z),m.add l n v j c,⟨by rw [Qm,QH];lia,by rw [Qm,QH];lia⟩,q.add l m n j c h⟩
  have w:decide ((bD K' (fD g')).length<1000)=true:=decide_eq_true (by unfold bD;rw [Qo];lia);generalize er:gU G s K' g' R (.own (Fa.map aC)) (.dat (aC a)) (.dat (.str (ws x))) (.dat (aC (aH a x)))=ρ
  have own:kJ 2 (eV 5) ρ=some (.str (cB (g' a))):=by
   subst er
   show(bW (aC a)).bind (fun r=>if cW (bD K' (fD g'))=true then getD (bD K' (fD g')) r else none)=_
   rw [gY,Qi,j1,if_pos rfl,vV (fD g') B];rfl
  have ad:=oo (gb:=eV 6) own (by subst er;rfl) (C2 (g' a) x A);subst er
  have pt:lY 2 (eV 7) (aE lA (kJ 2 (eV 5)) (eV 6)) (gU G s K' g' R (.own (Fa.map aC)) (.dat (aC a)) (.dat (.str (ws x))) (.dat (aC (aH a x))))=some (.nx (gU G s (K'++[aH a x]) (gT g' (aH a x) (g' a++[x])) R (.own (Fa.map aC)) (.dat (aC a)) (.dat (.str (ws x))) (.dat (aC (aH a x))))):=by
   show((aE lA (kJ 2 (eV 5)) (eV 6) _).bind fun d=>(some (aC (aH a x))).bind fun t=>(bW t).bind fun r=>if(cW (bD K' (fD g')) && decide ((bD K' (fD g')).length<1000) && oO 2 _)=true then some (aP.nx _)else none)=_
   rw [ad,Qi,Qi,gY,Qi,j1,K9 _ c,w];rfl
  refine aX pt ((sX (i:=4) (ds:=Fa.map aC) (d:=aC (aH a x)) rfl rfl (by rw [Qo];lia)).trans ?_);rw [Yb];rfl
def CO:aA->Option aP:=eM (dH (aJ iT (aB (eV 0) (aB (eV 5) aG)))) (jY 2 (fG (bM 6) (fG (bM 7) jX))) By
inductive tN(G:List C)(s:C)(k:Nat)(K:List C)(g:C->List Nat)(R:List C)(P Q:C->Nat->Prop)(q:Sl->Prop)(ρ:aA):Prop
 | mk (K':List C) (g':C->List Nat) (Fa:List C) (s5 s6 s7:Sl) (er:ρ=gU G s K' g' R (.own (Fa.map aC)) s5 s6 s7) (h5:q s5) (m:Md G k K g P K' g' Fa s) (b:Bd G K' Fa 30) (mf:Mf K g P Q K' g' Fa):tN G s k K g R P Q q ρ
theorem IV{k:Nat}{K R:List C}{g:C->List Nat}{s5 s6 s7:Sl}(l:Lv G s k K g R)(lf:Lf G s K g R)(hk:k<=60)(J:Bd G K [] 30):
  ∃ ρ',fZ (bM 5) CO (R.map aC) (gU G s K g R (.own []) s5 s6 s7)=some (.nx ρ')/\tN G s k K g R (fun b y=>b∈R/\y∈bS) (fun b _=>b∈R) (fun _=>True) ρ':=by
 refine m7 aC (fun c j=>tN G s k K g R (fun b y=>b∈c/\y∈bS) (fun b _=>b∈c) (fun _=>True) j) R (fun c a W Z j u=>?_) R [] _ rfl ⟨K,g,[],s5,s6,s7,rfl,trivial,(Md.start (R:=R)).weak fun b y p _=>(nomatch p.1),J,Mf.start _ _⟩
 have ha:a∈R:=by rw [Z];exact Qk _ Qe
 have d:∀ b∈c,eK (g b) (g a):=fun b J=>by
  have:=lf.o
  rw [Z,YX]at this;exact this.2.2 b J a Qe
 obtain⟨Q,N,Fa,t5,w,v,rfl,_,m,I,mf⟩:=u
 obtain⟨a0,e2,i2⟩:=m7 (s:=jY 2 (fG (bM 6) (fG (bM 7) jX))) (g:=By) (jC a) (fun i j=>tN G s k K g R (fun b y=>(b∈c/\y∈bS) ∨ (b=a/\y∈i)) (fun b y=>b∈c ∨ (b=a/\y∈i)) (fun t=>t=.dat (aC a)) j) (eL G a) (fun i x B Y j u=>by
   obtain⟨O,M,Fa2,u5,U,T,rfl,rfl,r,h,f⟩:=u
   have hx:x∈eL G a:=by rw [Y];exact Qk _ Qe
   have E:∀ y∈i,od y<od x:=fun y hy=>by
    have:(eL G a).Pairwise fun x y=>od x<od y:=HR.filter _
    rw [Y,YX]at this;exact this.2.2 y hy x Qe
   obtain⟨K3,g3,S,e3,X,H,F⟩:=Ps l r f (a:=a) (x:=x) (fun b y q=>by
    rcases q with q | ⟨rfl,q⟩
    ·exact Br [y] [x] (d b q)
    ·exact Fv _ (E y q)) ha hx hk h
   have n:∀ b y,((b∈c/\y∈bS) ∨ (b=a/\y∈i++[x]))->aH b y∈G->((b∈c/\y∈bS) ∨ (b=a/\y∈i)) ∨ (b=a/\y=x):=fun b y p _=>by
    rcases p with p | ⟨p,q⟩
    ·exact .inl (.inl p)
    ·rcases Qv.mp q with q | q
     ·exact .inl (.inr ⟨p,q⟩)
     ·exact .inr ⟨p,Qd.mp q⟩
   refine⟨gU G s O M R (.own (Fa2.map aC)) (.dat (aC a)) (.dat (.str (ws x))) (.dat (aC (aH a x))),_,rfl,e3,K3,g3,S,_,_,_,rfl,rfl,X.weak n,H,F.weak X n fun b y q=>?_⟩
   rcases q with(q | ⟨A,z⟩) | ⟨A,z⟩
   ·exact .inl q
   ·exact .inr ⟨A,QK _ z⟩
   ·exact .inr ⟨A,Qk _ (Qd.mpr z)⟩) (eL G a) []
  (gU G s Q N R (.own (Fa.map aC)) (.dat (aC a)) w v) rfl ⟨Q,N,Fa,_,w,v,rfl,rfl,m.weak fun b y p _=>p.elim id fun q=>(nomatch q.2),I,mf.weak m (fun b y p _=>p.elim id fun q=>(nomatch q.2)) fun b y q=>.inl q⟩
 obtain⟨O,M,Fa2,u5,U,T,rfl,rfl,r,h,f⟩:=i2
 have n:∀ b y,(b∈c++[a]/\y∈bS)->aH b y∈G->(b∈c/\y∈bS) ∨ (b=a/\y∈eL G a):=fun b y p hg=>by
  rcases Qv.mp p.1 with q | q
  ·exact .inl ⟨q,p.2⟩
  ·have e:=Qd.mp q;subst e;exact .inr ⟨rfl,mD.mpr ⟨p.2,hg⟩⟩
 refine⟨gU G s Q N R (.own (Fa.map aC)) (.dat (aC a)) w v,_,rfl,jG (iF (aT rfl (TZ G a)) rfl) e2,O,M,Fa2,_,U,T,rfl,trivial,r.weak n,h,f.weak r n fun b y q=>?_⟩
 rcases q with q | ⟨q,_⟩
 ·exact QK _ q
 ·exact Qk _ (Qd.mpr q)
theorem OG{k:Nat}{K K' e:List C}{g g':C->List Nat}{P:C->Nat->Prop}(m:Md G k K g P K' g' e s):left G K'<=left G K/\(e≠[]->left G K'<left G K):=by
 have sub:∀ c,(!K'.contains c)=true->(!K.contains c)=true:=fun c a=>by
  rw [Y1,<- Ja,Qy]at a ⊢;exact fun z=>a (m.up c z).1
 refine⟨ET sub G,fun f=>?_⟩
 obtain⟨c,a⟩:=List.exists_mem_of_ne_nil _ f;obtain⟨d,b⟩:=(m.fa c).mp a;refine EU sub ⟨c,(m.nw c d b).1.stop,?_,?_⟩
 ·rw [Y1,<- Ja,Qy];exact b
 ·rw [Bool.not_eq_false',Qy];exact d
inductive WI(G:List C)(s:C)(m:Nat)(ρ:aA):Prop
 | mk (K:List C) (g:C->List Nat) (R:List C) (s4 s5 s6 s7:Sl) (k:Nat) (er:ρ=gU G s K g R s4 s5 s6 s7) (lv:Lv G s k K g R) (lf:Lf G s K g R) (hm:m=2 * left G K+(if R=[]then 0 else 1)) (hk:k+m<=55) (hK:K.length+left G K<=26):WI G s m ρ
inductive WD(G:List C)(s:C)(ρ:aA):Prop
 | mk (K:List C) (g:C->List Nat) (s4 s5 s6 s7:Sl) (k:Nat) (er:ρ=gU G s K g [] s4 s5 s6 s7) (lv:Lv G s k K g []) (lf:Lf G s K g []) (hk:k<=100):WD G s ρ
def Mq:aA->Option aP:=aO (jW 4 aG) (aO (eM (dH (eV 3)) (bM 5) CO) (jV 4 (bQ 3 (eV 4))))
theorem Tk(m:Nat)(ρ:aA)(t:WI G s m ρ):(eB (aE dZ (eV 3) (fY aG)) (ρ.map frz)=some false/\WD G s ρ) ∨ (eB (aE dZ (eV 3) (fY aG)) (ρ.map frz)=some true/\∃ ρ' m',Mq ρ=some (.nx ρ')/\m'<m/\WI G s m' ρ'):=by
 obtain⟨K,g,R,u,s5,s6,s7,k,rfl,b,h,w,B,z⟩:=t;have d:=FG R [];by_cases c:R=[]
 ·subst c;exact .inl ⟨oB (oo rfl rfl d),K,g,u,s5,s6,s7,k,rfl,b,h,by lia⟩
 ·rw [decide_eq_false c]at d;rw [if_neg c]at w;obtain⟨ρ',e,l,r,Fa,p,o,n,rfl,_,f,y,v⟩:=IV (s5:=s5) (s6:=s6) (s7:=s7) b h (by lia) ⟨z,by rw [Y2];lia⟩;obtain⟨le,lt⟩:=OG f
  have A:2 * left G l+(if Fa=[]then 0 else 1)<m:=by
   split
   ·lia
   ·rename_i q;have:=lt q;lia
  exact .inr ⟨oB (oo rfl rfl d),gU G s l r Fa (.dat (.list (Fa.map aC))) p o n,_,aX (ρ':=gU G s K g R (.own []) s5 s6 s7) rfl (aX (jG (iF rfl rfl) e) rfl),A,l,r,Fa,_,p,o,n,k+1,rfl,b.next f (fun a j x i=>⟨j,i⟩),Lf.next b h f v (fun a j x i=>⟨j,i⟩),rfl,by lia,y.k⟩
theorem SM(hs:s∈G)(h:G.length<=25):∃ K g,(∀ u c,Pt G s u c->c∈K)/\(∀ c∈K,Pt G s (g c) c/\(∀ u,Pt G s u c->(g c).length<=u.length)/\(g c).length<=100/\∀ v,Pt G s v c->v.length=(g c).length->¬ eK v (g c))/\rS [iA G,aC s]=some (.dict (bD K (fD g))):=by
 have r:left G [s]<=25:=Qz (Ye _ _) h;obtain⟨ρ',j,K,g,q,o,n,l,k,rfl,a,e,i⟩:=v9 (WI G s) (WD G s) Tk 900 (2 * left G [s]+1) (gU G s [s] (fun _=>[]) [s] .no .no .no .no) (by lia) ⟨[s],_,[s],_,_,_,_,0,rfl,Lv.zero hs _ rfl,Lf.zero _ rfl,by simp,by lia,by rw [QH];lia⟩
 refine⟨K,g,fun u c p=>a.all u c p,fun c d=>⟨a.b c d,a.c c d,Qz (a.f c d) i,e.m c d⟩,cL ?_⟩
 exact aX (ρ':=[.dat (iA G),.dat (aC s),.ownD (bD [s] (fD fun _=>[])),.no,.no,.no,.no,.no]) rfl (aX rfl (aX j (cE rfl)))
end
end My
namespace My
open PySem.SeqAt L2 DL SD SL EL DC TB TX
abbrev Ey:=C × Nat × Int
def cA(e:Ey):D:=.tuple [aC e.1,.str (ws e.2.1),.int e.2.2]
def k8(x:Nat)(a b:Int):Bool:=decide (fO (a * (aH (0,0) x).2-b * (aH (0,0) x).1)<=a * (aH (0,0) x).1+b * (aH (0,0) x).2)
theorem M6{e:Ey}{c:C}(h:e.2.1∈bS):oV [cA e,aC c]=some (.bool (k8 e.2.1 (c.1-e.1.1) (c.2-e.1.2))):=by
 have m:∀ i j:Int,j=0 ∨ j=1 ∨ j=-1->cF (.int i) (.int j)=some (.int (i * j)):=fun i j k=>iZ (qQ (by lia) (by lia))
 have g:(aH (0,0) e.2.1).1=0 ∨ (aH (0,0) e.2.1).1=1 ∨ (aH (0,0) e.2.1).1=-1:=by rcases nR h with z | z | z | z <;> rw [z] <;> decide
 have f:(aH (0,0) e.2.1).2=0 ∨ (aH (0,0) e.2.1).2=1 ∨ (aH (0,0) e.2.1).2=-1:=by rcases nR h with z | z | z | z <;> rw [z] <;> decide
 have b:=Aa (a:=(0,0)) h;refine cL (aX (cQ (aT rfl b)) (aX (cQ (d:=.int (c.1-e.1.1)) rfl) (aX (cQ (d:=.int (c.2-e.1.2)) rfl) (cE ?_))));exact oo (aT (bA (oo (oo rfl rfl (m _ _ f)) (oo rfl rfl (m _ _ g)) rfl) rfl) rfl) (oo (oo rfl rfl (m _ _ g)) (oo rfl rfl (m _ _ f)) rfl) rfl
def sq(a b:C):Int:=(a.1-b.1) * (a.1-b.1)+(a.2-b.2) * (a.2-b.2)
theorem K7(i:Int):i ^ (2:Int).toNat=i * i:=by
 show i ^ 2=_
 rw [Int.pow_succ,Int.pow_succ,Int.pow_zero,Int.one_mul]
theorem TU{a b:C}(d:(a.1-b.1).natAbs<100)(c:(a.2-b.2).natAbs<100):oX [aC a,aC b]=some (.int (sq a b)):=by
 have p:∀ i:Int,i.natAbs<100->tT (.int i) (.int 2)=some (.int (i * i)):=fun i e=>by
  show(if(decide ((0:Int)<=2) && decide ((2:Int)<=64) && decide (i.natAbs<18446744073709551616))=true then some (J3 (i ^ (2:Int).toNat))else none)=_
  rw [K7,if_pos];simp only [QO,decide_eq_true_eq];lia
 exact cL (cE (oo (oo rfl rfl (p _ d)) (oo rfl rfl (p _ c)) rfl))
theorem FT{b:Type}(f:b->D):∀(l:List b) (n:Nat),i0 n (l.map f)=(l.zipIdx n).map fun p=>Zf [.int ((p.2:Nat):Int),f p.1]
 | [],_=>rfl
 | a::l,n=>by
  show Zf [.int n,f a]::i0 (n+1) (l.map f)=_
  rw [FT f l (n+1)];rfl
section
variable {w h:Nat}{W:C->Bool}(hw:w<=5)(hh:h<=5)
def qT(S:C->Bool)(e:Ey)(c:C):Bool:=k8 e.2.1 (c.1-e.1.1) (c.2-e.1.2) && !decide (e.2.2 * e.2.2<sq e.1 c) && gB S e.1 c
structure jM(w h:Nat)(W:C->Bool)(e:Ey):Prop where
 o:e.1∈bF w h W
 x:e.2.1∈bS
 r:-1000<=e.2.2/\e.2.2<=1000
include hw hh
theorem TN{e:Ey}{c:C}(o:jM w h W e)(j:eI w h c=true):rH [dL w h W,cA e,aC c]=some (.bool (qT (bG w h W) e c)):=by
 have i:=(gC.mp o.o).1;have p:=pM.mp i;have n:=pM.mp j;have a:=M6 (e:=e) (c:=c) o.x;have s:=TU (a:=e.1) (b:=c) (by lia) (by lia);have m:cF (.int e.2.2) (.int e.2.2)=some (.int (e.2.2 * e.2.2)):=iZ (qQ (by have:=o.r;lia) (by have:=o.r;lia));have l:=NC (W:=W) hw hh i j;have g:j5 (.int (sq e.1 c)) (.int (e.2.2 * e.2.2))=some (.bool (decide (e.2.2 * e.2.2<sq e.1 c))):=rfl
 have t:gQ (hY (eB (aJ oV (aB (eV 1) (aB (eV 2) aG))))) (eB (aE j5 (aJ oX (aB (aE aK (eV 1) (eC (.int 0))) (aB (eV 2) aG))) (aE cF (aE aK (eV 1) (eC (.int 2))) (aE aK (eV 1) (eC (.int 2)))))) ((eU 3 [dL w h W,cA e,aC c]).map frz)=some (!(k8 e.2.1 (c.1-e.1.1) (c.2-e.1.2)) || decide (e.2.2 * e.2.2<sq e.1 c)):=by
  have d:=oN (oB (aT (gr:=aB (eV 1) (aB (eV 2) aG)) (ρ:=(eU 3 [dL w h W,cA e,aC c]).map frz) rfl a))
  cases k:k8 e.2.1 (c.1-e.1.1) (c.2-e.1.2)with
  | true=>rw [k]at d;exact Cz d (oB (oo (aT rfl s) (oo rfl rfl m) g))
  | false=>
   rw [k]at d;unfold gQ;rw [d];rfl
 refine cL ?_;unfold qT
 cases f:(!(k8 e.2.1 (c.1-e.1.1) (c.2-e.1.2)) || decide (e.2.2 * e.2.2<sq e.1 c))with
 | true=>
  rw [f]at t
  have z:(k8 e.2.1 (c.1-e.1.1) (c.2-e.1.2) && !decide (e.2.2 * e.2.2<sq e.1 c))=false:=by
   revert f
   cases k8 e.2.1 (c.1-e.1.1) (c.2-e.1.2) <;> cases decide (e.2.2 * e.2.2<sq e.1 c) <;> simp
  rw [z,Bool.false_and];exact pZ (iI (b:=true) t (fun _=>cE rfl) fun z=>nomatch z)
 | false=>
  rw [f]at t
  have z:(k8 e.2.1 (c.1-e.1.1) (c.2-e.1.2) && !decide (e.2.2 * e.2.2<sq e.1 c))=true:=by
   revert f
   cases k8 e.2.1 (c.1-e.1.1) (c.2-e.1.2) <;> cases decide (e.2.2 * e.2.2<sq e.1 c) <;> simp
  rw [z,JH];exact aX (dS t) (cE (aT rfl l))
def nE(S:C->Bool)(E:List Ey)(c:C):Nat:=(E.filter fun e=>qT S e c).length
theorem FS{E:List Ey}{c:C}(o:∀ e∈E,jM w h W e)(k:E.length<=100)(j:eI w h c=true):∃ l:List D,l5 [dL w h W,.list (E.map cA),aC c]=some (.list l)/\l.length=nE (bG w h W) E c:=by
 have g:rA (aB (eV 1) aG) [.dat (dL w h W),.dat (.list (E.map cA)),.dat (aC c)]=some (E.zipIdx.map fun p=>Zf [.int ((p.2:Nat):Int),cA p.1]):=by
  show some (i0 0 (E.map cA))=_
  rw [FT]
 refine⟨(E.zipIdx.filter fun p=>qT (bG w h W) p.1 c).map fun p=>.int ((p.2:Nat):Int),cL (cE (iG (xs:=E.zipIdx) (fun p=>Zf [.int ((p.2:Nat):Int),cA p.1]) (fun p=>qT (bG w h W) p.1 c) (fun p=>.int ((p.2:Nat):Int)) (fun a=>∃ d b,a=[d,b,.dat (dL w h W),.dat (aC c)]) g (by rw [List.length_zipIdx];lia) ⟨.no,.no,rfl⟩ ?_ rfl)),?_⟩
 ·rintro p i a ⟨d,b,rfl⟩
  refine⟨[.dat (.int (p.2:Int)),.dat (cA p.1),.dat (dL w h W),.dat (aC c)],rfl,⟨_,_,rfl⟩,?_,fun _=>rfl⟩
  have m:p.1∈E:=by
   have:=JT (f:=Prod.fst) i
   rwa [List.zipIdx_map_fst]at this
  exact oB (aT rfl (TN hw hh (W:=W) (o p.1 m) j))
 ·rw [Qo];unfold nE
  have:E=E.zipIdx.map Prod.fst:=(List.zipIdx_map_fst 0 E).symm
  conv=>rhs;rw [this]
  rw [List.filter_map,Qo];rfl
omit hw hh in
theorem IY(S:C->Bool)(E:List Ey)(c:C):nE S E c<=E.length:=Ye _ _
omit hw hh in
theorem Hy{E:List Ey}(o:∀ e∈E,jM w h W e):nX [bK w h W,.list (E.map cA)]=some .none:=by
 obtain⟨c,e,_⟩:=Fd (g:=iJ (aJ iD (aB (eV 0) (aB (aE aK (eV 2) (eC (.int 0))) aG)))) (s:=bM 2) cA (fun c=>∃ d,c=[.dat (bK w h W),.dat (.list (E.map cA)),d]) E [.dat (bK w h W),.dat (.list (E.map cA)),.no] ⟨_,rfl⟩ (by
  rintro x f c ⟨d,rfl⟩
  refine⟨[.dat (bK w h W),.dat (.list (E.map cA)),.dat (cA x)],[.dat (bK w h W),.dat (.list (E.map cA)),.dat (cA x)],rfl,?_,⟨_,rfl⟩⟩
  obtain⟨a,b⟩:=gC.mp (o x f).o
  exact kL (aT rfl (pU (W:=W) a b)))
 exact zU (jG (iF rfl rfl) e)
theorem NF{E:List Ey}{c:C}(o:∀ e∈E,jM w h W e)(b:E.length<=100)(a:eI w h c=true):∃ l:List D,pC [bK w h W,.list (E.map cA),aC c]=some (.list l)/\l.length=nE (bG w h W) E c:=by
 obtain⟨l,f,d⟩:=FS hw hh o b a
 exact⟨l,cL (aX (kL (aT rfl (Hy o))) (aX (kL (aT rfl (Hz (W:=W) a))) (cE (aT (bA (aT rfl (AD (W:=W) hw hh)) rfl) f)))),d⟩
theorem Fl{E:List Ey}{cs:List C}(o:∀ e∈E,jM w h W e)(p:E.length<=100)(s:∀ c∈cs,eI w h c=true)(r:cs.length<=500):l4 [bK w h W,.list (E.map cA),.list (cs.map aC)]=some (.int (((cs.map (nE (bG w h W) E)).sum:Nat):Int)):=by
 have k:eA (dX (dH (eV 2)) (bM 0) eT (aJ dO (aB (aJ pC (aB (eV 1) (aB (eV 2) (aB (eV 0) aG)))) aG)) [none,some 0,some 1]) ((eU 3 [bK w h W,.list (E.map cA),.list (cs.map aC)]).map frz)=some (.list (cs.map fun c=>.int ((nE (bG w h W) E c:Nat):Int))):=by
  refine iG (xs:=cs) aC (fun _=>true) (fun c=>.int ((nE (bG w h W) E c:Nat):Int)) (fun g=>∃ j,g=[j,.dat (bK w h W),.dat (.list (E.map cA))]) (iF rfl rfl) (by lia) ⟨_,rfl⟩ ?_ (by rw [lH]);rintro c d g ⟨j,rfl⟩;obtain⟨l,b,f⟩:=NF hw hh o p (s c d)
  refine⟨[.dat (aC c),.dat (bK w h W),.dat (.list (E.map cA))],rfl,⟨_,rfl⟩,rfl,fun _=>aT (bA (aT rfl b) rfl) ?_⟩
  rw [nA,f]
 refine cL (cE (aT (bA k rfl) ?_))
 have m:∀ l:List C,LM.dSum [.list (l.map fun c=>.int ((nE (bG w h W) E c:Nat):Int))]=(if(decide (l.length<=1000) && (l.map fun c=>((nE (bG w h W) E c:Nat):Int)).all fun i=>decide (0<=i) && decide (i<=1000000))=true then some (.int (((l.map (nE (bG w h W) E)).sum:Nat):Int))else none):=fun l=>by
  have b:cZ (l.map fun c=>J3 ((nE (bG w h W) E c:Nat):Int))=some (l.map fun c=>((nE (bG w h W) E c:Nat):Int)):=by
   have:=rB (l.map fun c=>((nE (bG w h W) E c:Nat):Int))
   rwa [Yk]at this
  have f:(l.map fun c=>((nE (bG w h W) E c:Nat):Int)).sum=(((l.map (nE (bG w h W) E)).sum:Nat):Int):=by
   clear b
   induction l with
   | nil=>rfl
   | cons a l n=>rw [Qp,YW,n,Qp,YW];push_cast;rfl
  show(cZ (l.map fun c=>J3 ((nE (bG w h W) E c:Nat):Int))).bind _=_
  rw [b,Qi,f,Qo]
 rw [m,if_pos];rw [decide_eq_true (by lia),JH,QZ];intro i q;obtain⟨c,_,rfl⟩:=QN.mp q
 have:=IY (bG w h W) E c
 rw [decide_eq_true (by lia),decide_eq_true (by lia)];rfl
def oF(l:List C)(t:C->Nat):List (D × D):=fH l fun c=>((t c:Nat):Int)
theorem TQ{E:List Ey}(o:∀ e∈E,jM w h W e)(j:E.length<=100):rQ [bK w h W,.list (E.map cA)]=some (.dict (oF (bF w h W) (nE (bG w h W) E))):=by
 have g:fR [bK w h W]=some (.list ((bF w h W).map aC)):=wC hw hh;have n:=nI hw hh W;have f:(bF w h W).Nodup:=nN (Bu w h W);refine cL (aX (cQ (aT rfl (AD (W:=W) hw hh))) (cE ?_))
 have i:eA (dX (dH (aJ fR (aB (eV 0) aG))) (bM 0) eT (bV (aB (eV 0) (aB (aJ dO (aB (aJ l5 (aB (eV 1) (aB (eV 2) (aB (eV 0) aG)))) aG)) aG))) [none,some 2,some 1]) [.dat (bK w h W),.dat (.list (E.map cA)),.dat (dL w h W)]=some (.list ((bF w h W).map fun c=>Zf [aC c,.int ((nE (bG w h W) E c:Nat):Int)])):=by
  refine iG (xs:=bF w h W) aC (fun _=>true) (fun c=>Zf [aC c,.int ((nE (bG w h W) E c:Nat):Int)]) (fun b=>∃ d,b=[d,.dat (dL w h W),.dat (.list (E.map cA))]) (iF (aT rfl g) rfl) (by lia) ⟨_,rfl⟩ ?_ (by rw [lH]);rintro c a b ⟨d,rfl⟩;obtain⟨l,m,k⟩:=FS hw hh o j (gC.mp a).1
  refine⟨[.dat (aC c),.dat (dL w h W),.dat (.list (E.map cA))],rfl,⟨_,rfl⟩,rfl,fun _=>iS rfl (aT (bA (aT rfl m) rfl) ?_)⟩
  rw [nA,k]
 refine aT (bA i rfl) ?_
 show(if _ then _ else _)=_
 rw [if_pos (by rw [Qo];lia),AJ (fun c=>.int ((nE (bG w h W) E c:Nat):Int)),Qi]
 have:=Al (fun c=>.int ((nE (bG w h W) E c:Nat):Int)) (bF w h W) [] (by simpa using f)
 rw [Y5]at this;unfold l6;rw [show([]:List (D × D))=bD [] fun c=>.int ((nE (bG w h W) E c:Nat):Int)from rfl,this];rfl
end
end My
namespace My
open PySem.SeqAt L2 DL SD SL EL DC TB TX MN LM
theorem u8:∀(r:List KD) (b:KD),∃ pre post,b::r=pre++fF b r::post/\(∀ p∈pre,HT.lexLt (fF b r).1 p.1=true)/\∀ p∈b::r,HT.lexLt p.1 (fF b r).1=false
 | [],b=>⟨[],[],rfl,fun p i=>(nomatch i),fun p i=>by rw [Qd.mp i];exact kX _⟩
 | p::r,b=>by
  have g:∀{x y:List Int},HT.lexLt x y=true->HT.lexLt y x=false:=fun{x y} h=>by
   cases q:HT.lexLt y x with
   | false=>rfl
   | true=>have:=sM _ _ _ h q;rw [kX]at this;cases this
  unfold fF;by_cases c:HT.lexLt p.1 b.1=true
  ·rw [if_pos c];obtain⟨pre,post,e,f,d⟩:=u8 r p
   have k:HT.lexLt (fF p r).1 b.1=true:=by
    rcases uX _ (fF p r).1 _ c with z | z
    ·rw [d p Qe]at z;cases z
    ·exact z
   refine⟨b::pre,post,by rw [e];rfl,fun q a=>?_,fun q a=>?_⟩
   ·rcases Qj.mp a with rfl | a
    ·exact k
    ·exact f q a
   ·rcases Qj.mp a with rfl | a
    ·exact g k
    ·exact d q a
  ·rw [if_neg c];obtain⟨pre,post,e,f,d⟩:=u8 r b
   cases pre with
   | nil=>
    rw [Y5]at e
    injection e with e1 e2
    refine⟨[],p::r,by rw [<- e1];rfl,fun q a=>(nomatch a),fun q a=>?_⟩
    rcases Qj.mp a with rfl | a
    ·exact d q Qe
    ·rcases Qj.mp a with rfl | a
     ·rw [<- e1];simpa using c
     ·exact d q (Qg _ a)
   | cons l pre=>
    rw [List.cons_append]at e
    injection e with e1 e2
    subst e1
    have j:HT.lexLt (fF b r).1 p.1=true:=by
     rcases uX _ p.1 _ (f b Qe)with z | z
     ·exact z
     ·exact absurd z c
    refine⟨b::p::pre,post,congrArg (fun z=>b::p::z) e2,fun q a=>?_,fun q a=>?_⟩
    ·rcases Qj.mp a with rfl | a
     ·exact f q Qe
     ·rcases Qj.mp a with rfl | a
      ·exact j
      ·exact f q (Qg _ a)
    ·rcases Qj.mp a with rfl | a
     ·exact d q Qe
     ·rcases Qj.mp a with rfl | a
      ·exact g j
      ·exact d q (Qg _ a)
def rw2(a:Lo):List Int:=[(a.1:Int),(a.2:Int)]
def lD(f:C->Lo)(c:C):D:=.tuple [.int ((f c).1:Int),.int ((f c).2:Int)]
theorem uZ{a b:Lo}:HT.lexLt (rw2 a) (rw2 b)=decide (a.1<b.1 ∨ (a.1=b.1/\a.2<b.2)):=by
 show(if(a.1:Int)=(b.1:Int)then(if(a.2:Int)=(b.2:Int)then false else decide ((a.2:Int)<(b.2:Int)))else decide ((a.1:Int)<(b.1:Int)))=_
 rw [Ji,decide_eq_true_iff];split
 ·split
  ·simp;lia
  ·rw [decide_eq_true_iff];lia
 ·rw [decide_eq_true_iff];lia
def iB(q:C->Lo)(c:C):D:=.tuple [lD q c,aC c]
theorem GQ(q:C->Lo)(a:C):∀ l:List C,eZ [lD q a,aC a] (l.map (iB q))=some (l.map fun c=>(rw2 (q c)++[c.1,c.2],iB q c))
 | []=>rfl
 | c::l=>by
  rw [Qp];unfold eZ;rw [show kC [lD q a,aC a] (iB q c)=some (rw2 (q c)++[c.1,c.2])from rfl,Qi,GQ q a l];rfl
theorem Of{q:C->Lo}{l:List C}(h:l≠[]):∃ m∈l,rY [.list (l.map (iB q))]=some (iB q m)/\∀ c∈l,cS (q m) (q c):=by
 cases l with
 | nil=>exact absurd rfl h
 | cons c l=>
  have r:=GQ q c (c::l);obtain⟨n,i,e,_,j⟩:=u8 (l.map fun c=>(rw2 (q c)++[c.1,c.2],iB q c)) (rw2 (q c)++[c.1,c.2],iB q c)
  have o:fF (rw2 (q c)++[c.1,c.2],iB q c) (l.map fun c=>(rw2 (q c)++[c.1,c.2],iB q c))∈(c::l).map fun c=>(rw2 (q c)++[c.1,c.2],iB q c):=by
   rw [Qp,e];exact Qk _ Qe
  obtain⟨m,p,k⟩:=QN.mp o;rw [<- Qp (f:=fun c=>(rw2 (q c)++[c.1,c.2],iB q c)),<- k]at j
  refine⟨m,p,?_,fun d s=>?_⟩
  ·show(eZ [lD q c,aC c] ((c::l).map (iB q))).bind _=_
   rw [r,Qi]
   show some (fF _ _).2=_
   rw [<- k]
  ·have:=j _ (QN.mpr ⟨d,s,rfl⟩)
   dsimp only at this;rw [sK (rw2 (q d)) (rw2 (q m)) _ _ rfl]at this;by_cases g:rw2 (q d)=rw2 (q m)
   ·have:q d=q m:=Jj (by injection g with a _;exact Int.ofNat.inj a) (by injection g with _ b;injection b with b _;exact Int.ofNat.inj b)
    rw [this];exact pP _
   ·rw [if_neg g,uZ,decide_eq_false_iff_not]at this;unfold cS;lia
theorem Ho{f:C->D}{c:C}:∀{l:List C},c∈l->mZ (bD l f) (row c)=some (f c,bD (l.erase c) f)
 | [],h=>by cases h
 | a::l,h=>by
  show(if bW (aC a)=some (row c)then some (f a,bD l f)else(mZ (bD l f) (row c)).bind fun z=>some (z.1,(aC a,f a)::z.2))=_
  rw [gY];by_cases e:a=c
  ·subst e;rw [if_pos rfl,List.erase_cons_head]
  ·rw [if_neg (fun z=>e (mH (QL z))),Ho ((Qj.mp h).resolve_left fun z=>e z.symm),List.erase_cons_tail (by simpa using e)];rfl
theorem RM{l:List C}(f:C->Lo){c:C}(a:Lo)(h:c∈l):fE (bD l (lD f)) (row c) (.tuple [.int (a.1:Int),.int (a.2:Int)])=bD l (lD (dQ f c a)):=by
 unfold fE;rw [q9,if_pos (Qy.mpr h)];unfold bD;rw [Yk];refine Y7 fun b _=>?_
 show(if(bW (aC b) == some (row c))=true then(aC b,Zf [.int (a.1:Int),.int (a.2:Int)])else(aC b,lD f b))=_
 rw [uT];unfold lD dQ;by_cases e:b=c
 ·rw [if_pos (beq_iff_eq.mpr e),if_pos e]
 ·rw [if_neg (by simpa using e),if_neg e]
theorem Hw{l:List C}(f:C->Lo){c:C}(a:Lo)(h:c∉l):fE (bD l (lD f)) (row c) (.tuple [.int (a.1:Int),.int (a.2:Int)])=bD (l++[c]) (lD (dQ f c a)):=by
 have e:bD l (lD f)=bD l (lD (dQ f c a)):=by
  unfold bD;refine Y7 fun b d=>?_;unfold lD dQ;rw [if_neg (fun z=>h (by rw [<- z];exact d))]
 have g:Zf [.int (a.1:Int),.int (a.2:Int)]=lD (dQ f c a) c:=by unfold lD dQ;rw [if_pos rfl]
 rw [e,g];exact AQ l _ c h
theorem AY{i:Nat}{gk gv:aA->Option D}{ρ:aA}{l:List C}{f:C->Lo}{c:C}{a:Lo}(h:ρ[i]?=some (.ownD (bD l (lD f))))(g:gv (ρ.map frz)=some (.tuple [.int (a.1:Int),.int (a.2:Int)]))(e:gk ρ=some (aC c))(d:l.length<1000)(b:lR ρ=true):
  mI i gk gv ρ=some (.nx (ρ.set i (.ownD (fE (bD l (lD f)) (row c) (.tuple [.int (a.1:Int),.int (a.2:Int)]))))):=by
 unfold mI;rw [h]
 show(gv (ρ.map frz)).bind _=_
 rw [g,Qi,e,Qi,gY,Qi,j1,if_pos];rw [b,decide_eq_true (by unfold bD;rw [Qo];exact d)];rfl
theorem FC(a b:Lo):n4 [.tuple [.int (a.1:Int),.int (a.2:Int)],.tuple [.int (b.1:Int),.int (b.2:Int)]]=some (.tuple [.int ((jU a b).1:Int),.int ((jU a b).2:Int)]):=by
 show some (if HT.lexLt (rw2 b) (rw2 a)=true then Zf [.int (b.1:Int),.int (b.2:Int)]else .tuple [.int (a.1:Int),.int (a.2:Int)])=_
 rw [uZ];unfold jU;by_cases c:b.1<a.1 ∨ (b.1=a.1/\b.2<a.2)
 ·rw [if_pos (decide_eq_true c),if_pos c]
 ·rw [if_neg (by simpa using c),if_neg c]
theorem M7{a:C}:nV [aC a]=some (.list (bS.map fun x=>aC (aH a x))):=by
 refine cL (cE (iG (xs:=bS) (fun x=>.str (ws x)) (fun _=>true) (fun x=>aC (aH a x)) (fun b=>∃ c,b=[c,.dat (aC a)]) ?_ (by decide) ⟨_,rfl⟩ ?_ (by rw [lH])))
 ·show some (i4.map fun e=>PyData.str e.1)=_
  rw [v5,Yk];rfl
 ·rintro x d b ⟨c,rfl⟩
  exact⟨[.dat (.str (ws x)),.dat (aC a)],rfl,⟨_,rfl⟩,rfl,fun _=>aT rfl (Aa d)⟩
end My
namespace My
open PySem.SeqAt L2 DL SD SL EL DC TB TX MN LM
theorem AZ{i:Nat}{ga:aA->Option D}{ρ:aA}{d:D}(h:ga (ρ.map frz)=some d)(a:kR d=true):nL i ga ρ=some (.nx (ρ.set i (.dat d))):=by
 unfold nL;rw [h,Qi,if_pos a]
section
variable {G:List C}{t:C->Nat}{g:C}
def lE(G:List C)(t:C->Nat)(g:C)(K:List C)(f:C->Lo)(Q:List C)(q:C->Lo)(s4 s5 s6 s7:Sl):aA:=[.dat (.dict (oF G t)),.dat (aC g),.ownD (bD K (lD f)),.ownD (bD Q (lD q)),s4,s5,s6,s7]
def uU:aA->Option aP:=cG (jR (eB (aE (dN false) (eV 6) (eV 0))) (eB (aE (dN true) (eV 6) (eV 2)))) (aO (bQ 7 (bV (aB (aE bP (aE aK (eV 5) (eC (.int 0))) (aE fN (eV 0) (eV 6))) (aB (aE bP (aE aK (eV 5) (eC (.int 1))) (eC (.int 1))) aG))))
  (mI 3 (eV 6) (aJ n4 (aB (eV 7) (aB (mS (eV 3) (eV 6) (eV 7)) aG))))) cR
theorem Cw{K Q:List C}{f q:C->Lo}{s4 s5 s6 s7:Sl}(d:gA s4=false)(c:gA s5=false)(b:gA s6=false)(a:gA s7=false):lR (lE G t g K f Q q s4 s5 s6 s7)=true:=by
 show(!gA s4 && (!gA s5 && (!gA s6 && (!gA s7 && true))))=true
 rw [d,c,b,a];rfl
inductive tS(G:List C)(t:C->Nat)(g:C)(P:C->Nat->Prop)(K:List C)(f:C->Lo)(m:C)(n:Nat)(ρ:aA):Prop
 | mk (Q:List C) (q:C->Lo) (s6 s7:Sl) (er:ρ=lE G t g K f Q q (.dat (aC m)) (.dat (lD f m)) s6 s7) (d:Dj G t g P K f Q q) (hQ:Q.length<=n) (hb:∀ c∈Q,(q c).2<=K.length) (h6:gA s6=false) (h7:gA s7=false):tS G t g P K f m n ρ
theorem RY{P:C->Nat->Prop}{K Q:List C}{f q:C->Lo}{m:C}{x n:Nat}{s7:Sl}(M:gA s7=false)(d:Dj G t g P K f Q q)(H:m∈K)(F:x∈bS)(r:Q.length<=n)(U:n<900)(Y:(f m).2<K.length)(k:∀ c∈Q,(q c).2<=K.length):
  ∃ ρ2,uU (lE G t g K f Q q (.dat (aC m)) (.dat (lD f m)) (.dat (aC (aH m x))) s7)=some (.nx ρ2)/\tS G t g (fun b y=>P b y ∨ (b=m/\y=x)) K f m (n+1) ρ2:=by
 have o:=oJ false G (fun c=>.int ((t c:Nat):Int)) (aH m x);have u:=oJ true K (lD f) (aH m x);by_cases s:aH m x∈G
 ·rw [Qy.mpr s]at o;by_cases w:aH m x∈K
  ·rw [Qy.mpr w]at u
   refine⟨_,dS (qO (oB (oo rfl rfl o)) (oB (oo rfl rfl u))),Q,q,_,_,rfl,d.weak fun c v y S p J r=>p.elim id fun z=>absurd w (by rw [<- z.1,<- z.2];exact r),Nat.le_succ_of_le r,k,rfl,M⟩
  ·rw [show K.contains (aH m x)=false from by rw [UC];exact fun z=>w (Qy.mp z)]at u;have N:=m9 (fun c=>J3 ((t c:Nat):Int)) s
   have E:bV (aB (aE bP (aE aK (eV 5) (eC (.int 0))) (aE fN (eV 0) (eV 6))) (aB (aE bP (aE aK (eV 5) (eC (.int 1))) (eC (.int 1))) aG)) (lE G t g K f Q q (.dat (aC m)) (.dat (lD f m)) (.dat (aC (aH m x))) s7)=some (.tuple [.int ((ad t (f m) (aH m x)).1:Int),.int ((ad t (f m) (aH m x)).2:Int)]):=
    iS (oo (oo rfl rfl rfl) (oo rfl rfl N) rfl) (oo (oo rfl rfl rfl) rfl rfl)
   by_cases h:aH m x∈Q
   ·have B:mS (eV 3) (eV 6) (eV 7) ((lE G t g K f Q q (.dat (aC m)) (.dat (lD f m)) (.dat (aC (aH m x))) (.dat (.tuple [.int ((ad t (f m) (aH m x)).1:Int),.int ((ad t (f m) (aH m x)).2:Int)]))).map frz)=some (lD q (aH m x)):=by
     show(bW (aC (aH m x))).bind (fun A=>if cW (bD Q (lD q))=true then some ((getD (bD Q (lD q)) A).getD _)else none)=_
     rw [gY,Qi,j1,if_pos rfl,vV (lD q) h];rfl
    have j:=FB (ad t (f m) (aH m x)) (q (aH m x));have pt:=AY (i:=3) (gk:=eV 6) (gv:=aJ n4 (aB (eV 7) (aB (mS (eV 3) (eV 6) (eV 7)) aG))) (ρ:=lE G t g K f Q q (.dat (aC m)) (.dat (lD f m)) (.dat (aC (aH m x))) (.dat (.tuple [.int ((ad t (f m) (aH m x)).1:Int),.int ((ad t (f m) (aH m x)).2:Int)]))) (l:=Q) (f:=q) (c:=aH m x) (a:=jU (ad t (f m) (aH m x)) (q (aH m x))) rfl (aT (bA rfl (bA B rfl)) (FC _ _)) rfl (by lia) rfl;rw [RM q _ h]at pt
    refine⟨_,iI (b:=true) (qO (oB (oo rfl rfl o)) (oB (oo rfl rfl u))) (fun _=>aX (cQ E) pt) (fun z=>(nomatch z)),?_⟩
    refine⟨Q,dQ q (aH m x) (jU (ad t (f m) (aH m x)) (q (aH m x))),_,_,rfl,d.relax H F s w (fun c=>⟨fun z=>.inl z,fun z=>z.elim id fun e=>by rw [e];exact h⟩) d.nd.2 (j.2.2.imp id fun e=>⟨h,e⟩) j.1 fun _=>j.2.1,Nat.le_succ_of_le r,fun c v=>?_,rfl,rfl⟩
    unfold dQ;split
    ·rcases j.2.2 with e | e <;> rw [e]
     ·show(f m).2+1<=_;lia
     ·exact k _ h
    ·exact k c v
   ·have B:mS (eV 3) (eV 6) (eV 7) ((lE G t g K f Q q (.dat (aC m)) (.dat (lD f m)) (.dat (aC (aH m x))) (.dat (.tuple [.int ((ad t (f m) (aH m x)).1:Int),.int ((ad t (f m) (aH m x)).2:Int)]))).map frz)=some (.tuple [.int ((ad t (f m) (aH m x)).1:Int),.int ((ad t (f m) (aH m x)).2:Int)]):=by
     have X:getD (bD Q (lD q)) (row (aH m x))=none:=by
      have I:=q9 Q (lD q) (aH m x);rw [show Q.contains (aH m x)=false from by rw [UC];exact fun z=>h (Qy.mp z)]at I;unfold getD
      rw [JC.mpr fun p T z=>by
       have:fC (bD Q (lD q)) (row (aH m x))=true:=Jb.mpr ⟨p,T,z⟩
       rw [I]at this;cases this]
      rfl
     show(bW (aC (aH m x))).bind (fun A=>if cW (bD Q (lD q))=true then some ((getD (bD Q (lD q)) A).getD _)else none)=_
     rw [gY,Qi,j1,if_pos rfl,X];rfl
    have R:jU (ad t (f m) (aH m x)) (ad t (f m) (aH m x))=ad t (f m) (aH m x):=(FB _ _).2.2.elim id id;have j:=FC (ad t (f m) (aH m x)) (ad t (f m) (aH m x));rw [R]at j;have pt:=AY (i:=3) (gk:=eV 6) (gv:=aJ n4 (aB (eV 7) (aB (mS (eV 3) (eV 6) (eV 7)) aG))) (ρ:=lE G t g K f Q q (.dat (aC m)) (.dat (lD f m)) (.dat (aC (aH m x))) (.dat (.tuple [.int ((ad t (f m) (aH m x)).1:Int),.int ((ad t (f m) (aH m x)).2:Int)]))) (l:=Q) (f:=q) (c:=aH m x) (a:=ad t (f m) (aH m x)) rfl (aT (bA rfl (bA B rfl)) j) rfl (by lia) rfl;rw [Hw q _ h]at pt
    refine⟨_,iI (b:=true) (qO (oB (oo rfl rfl o)) (oB (oo rfl rfl u))) (fun _=>aX (cQ E) pt) (fun z=>(nomatch z)),?_⟩
    refine⟨Q++[aH m x],dQ q (aH m x) (ad t (f m) (aH m x)),_,_,rfl,d.relax H F s w (fun c=>by rw [Qv,Qd]) ?_ (.inl rfl) (pP _) (fun z=>absurd z h),by rw [Qm,QH];lia,fun c v=>?_,rfl,rfl⟩
    rotate_left
    ·unfold dQ;split
     ·show(f m).2+1<=_;lia
     ·rename_i O;exact k c ((Qv.mp v).resolve_right fun z=>O (Qd.mp z))
    rw [Jm]
    exact⟨d.nd.2,by simp,fun a W b k z=>h (by rw [<- Qd.mp k,<- z];exact W)⟩
 ·rw [show G.contains (aH m x)=false from by rw [UC];exact fun z=>s (Qy.mp z)]at o
  refine⟨_,dS (yF (oB (oo rfl rfl o))),Q,q,_,_,rfl,d.weak fun c v y S p J r=>p.elim id fun z=>absurd (by rw [<- z.1,<- z.2];exact J) s,Nat.le_succ_of_le r,k,rfl,M⟩
theorem RZ{K Q:List C}{f q:C->Lo}{m:C}{s6 s7:Sl}(Z:gA s6=false)(Y:gA s7=false)(d:Dj G t g (fun c _=>c≠m) K f Q q)(T:m∈K)(hn:Q.length<=800)(U:(f m).2<K.length)(W:∀ c∈Q,(q c).2<=K.length):
  ∃ ρ2,eM (dH (aJ nV (aB (eV 4) aG))) (bM 6) uU (lE G t g K f Q q (.dat (aC m)) (.dat (lD f m)) s6 s7)=some (.nx ρ2)/\tS G t g (fun _ _=>True) K f m (Q.length+4) ρ2:=by
 obtain⟨ρ2,e,i⟩:=m7 (s:=bM 6) (g:=uU) (fun x=>aC (aH m x)) (fun a w=>tS G t g (fun c y=>c≠m ∨ y∈a) K f m (Q.length+a.length) w) bS (fun a x B F w H=>by
  obtain⟨v,l,A,j,rfl,u,h,b,E,o⟩:=H
  have S:x∈bS:=by rw [F];exact Qk _ Qe
  have pl:a.length<=4:=by
   have:=congrArg U6 F
   rw [Qm,show bS.length=4 from rfl]at this;lia
  obtain⟨k,e3,Q3,M,J,I,r,d3,X,n,O,N⟩:=RY (s7:=j) o u T S h (by lia) U b
  exact⟨lE G t g K f v l (.dat (aC m)) (.dat (lD f m)) (.dat (aC (aH m x))) j,k,rfl,e3,Q3,M,J,I,r,d3.weak fun c _ y _ p _ _=>by
   rcases p with p | p
   ·exact .inl (.inl p)
   ·rcases Qv.mp p with p | p
    ·exact .inl (.inr p)
    ·by_cases e:c=m
     ·exact .inr ⟨e,Qd.mp p⟩
     ·exact .inl (.inl e),by rw [Qm,QH];lia,n,O,N⟩) bS [] _ rfl ⟨Q,q,s6,s7,rfl,d.weak fun c _ y _ p _ _=>p.elim id fun z=>(nomatch z),Ql _,W,Z,Y⟩
 refine⟨ρ2,jG (iF (aT rfl M7) rfl) e,?_⟩
 obtain⟨v,l,A,j,r,u,h,b,E,o⟩:=i
 exact⟨v,l,A,j,r,u.weak fun c _ y R _ _ _=>.inr R,h,b,E,o⟩
inductive LI(G:List C)(t:C->Nat)(g:C)(n:Nat)(ρ:aA):Prop
 | mk (K:List C) (f:C->Lo) (Q:List C) (q:C->Lo) (s4 s5 s6 s7:Sl) (er:ρ=lE G t g K f Q q s4 s5 s6 s7) (d:Dj G t g (fun _ _=>True) K f Q q) (hn:K.length+n=G.length+1) (hQ:Q.length<=1+4 * K.length) (hf:∀ c∈K,(f c).2<K.length) (hb:∀ c∈Q,(q c).2<=K.length) (h5:gA s5=false) (h6:gA s6=false) (h7:gA s7=false):LI G t g n ρ
inductive LD(G:List C)(t:C->Nat)(g:C)(ρ:aA):Prop
 | mk (K:List C) (f:C->Lo) (q:C->Lo) (s4 s5 s6 s7:Sl) (er:ρ=lE G t g K f [] q s4 s5 s6 s7) (d:Dj G t g (fun _ _=>True) K f [] q) (hf:∀ c∈K,(f c).2<K.length):LD G t g ρ
theorem AH:∀{K G:List C},K.Nodup->(∀ c∈K,c∈G)->K.length<=G.length
 | [],_,_,_=>QU _
 | a::K,G,n,h=>by
  obtain⟨f,e⟩:=Ys.mp n;have d:=h a Qe
  have:=AH (G:=G.erase a) e fun c b=>(List.mem_erase_of_ne fun z=>f (by rw [<- z];exact b)).mpr (h c (Qg _ b))
  rw [List.length_erase_of_mem d]at this
  have:=UD d
  rw [QE];lia
def IQ:aA->Option aP:=aO (nL 4 (aE aK (aJ rY (aB (eA (dX (mU (eV 3)) (bM 0) eT (bV (aB (aE fN (eV 1) (eV 0)) (aB (eV 0) aG))) [none,some 3])) aG)) (eC (.int 1))))
  (aO (t9 5 3 (eV 4)) (aO (mI 2 (eV 4) (eV 5)) (eM (dH (aJ nV (aB (eV 4) aG))) (bM 6) uU)))
theorem Te(hG:G.length<=25)(n:Nat)(ρ:aA)(B:LI G t g n ρ):(eB (aE j5 (aJ pF (aB (eV 3) aG)) (eC (.int 0))) (ρ.map frz)=some false/\LD G t g ρ) ∨ (eB (aE j5 (aJ pF (aB (eV 3) aG)) (eC (.int 0))) (ρ.map frz)=some true/\∃ ρ' n',IQ ρ=some (.nx ρ')/\n'<n/\LI G t g n' ρ'):=by
 obtain⟨K,f,Q,q,s4,o,s6,s7,rfl,d,hn,hQ,x,y,T,s,r⟩:=B;have KG:K.length<=G.length:=AH d.nd.1 fun c b=>(d.k c b).h.in
 have w:pF [.dict (bD Q (lD q))]=some (.int (Q.length:Int)):=by
  show(if cW (bD Q (lD q))=true then some (J3 ((bD Q (lD q)).length:Int))else none)=_
  rw [j1,if_pos rfl];unfold bD;rw [Qo]
 cases Q with
 | nil=>exact .inl ⟨oB (oo (aT rfl w) rfl rfl),K,f,q,_,_,_,_,rfl,d,x⟩
 | cons A Q=>
  refine .inr ⟨oB (oo (aT rfl w) rfl (by show some (Zb (decide ((0:Int)<((A::Q).length:Int))))=_;rw [decide_eq_true (by rw [QE];lia)])),?_⟩;generalize hq:A::Q=Q' at *;obtain⟨m,i,W,e⟩:=Of (q:=q) (l:=Q') (by rw [<- hq];simp)
  have M:eA (dX (mU (eV 3)) (bM 0) eT (bV (aB (aE fN (eV 1) (eV 0)) (aB (eV 0) aG))) [none,some 3]) ((lE G t g K f Q' q s4 o s6 s7).map frz)=some (.list (Q'.map (iB q))):=by
   refine iG (xs:=Q') aC (fun _=>true) (iB q) (fun ρ=>∃ v,ρ=[v,.dat (.dict (bD Q' (lD q)))]) (FZ (d:=.dict (bD Q' (lD q))) rfl (Ge _ _)) (by lia) ⟨_,rfl⟩ ?_ (by rw [lH]);rintro c b ρ ⟨v,rfl⟩
   exact⟨[.dat (aC c),.dat (.dict (bD Q' (lD q)))],rfl,⟨_,rfl⟩,rfl,fun _=>iS (oo rfl rfl (m9 (lD q) b)) rfl⟩
  have Z:=d.take i e;have om:=d.opt i e;have J:m∈K++[m]:=Qk _ (Qd.mpr rfl)
  have u:dQ f m (q m) m=q m:=by unfold dQ;rw [if_pos rfl]
  have el:(Q'.erase m).length<=Q'.length:=List.length_erase_le;have ql:=y m i
  obtain⟨j,X,Q2,H,F,E,U,Y,S,p,R,O⟩:=RZ (s6:=s6) (s7:=s7) s r Z J (by lia) (by rw [u,Qm,QH];lia) (fun c b=>by
   have:=y c (List.mem_of_mem_erase b)
   rw [Qm];lia)
  refine⟨j,n-1,?_,by lia,K++[m],dQ f m (q m),Q2,H,_,_,F,E,U,Y,by rw [Qm,QH];lia,by
   have:(Q'.erase m).length+1=Q'.length:=by rw [List.length_erase_of_mem i];have:=UD i;lia
   rw [Qm,QH];lia,fun c b=>?_,p,rfl,R,O⟩
  rotate_left
  ·rw [Qm,QH];rcases Qv.mp b with b | b
   ·have:dQ f m (q m) c=f c:=by unfold dQ;rw [if_neg (fun z=>(d.a m i).1 (by rw [<- z];exact b))]
    rw [this];have:=x c b;lia
   ·rw [Qd.mp b,u];lia
  refine aX (AZ (d:=aC m) (oo (aT (bA M rfl) W) rfl rfl) rfl) (aX (ρ':=lE G t g K f (Q'.erase m) q (.dat (aC m)) (.dat (lD q m)) s6 s7) ?_ (aX (ρ':=lE G t g (K++[m]) (dQ f m (q m)) (Q'.erase m) q (.dat (aC m)) (.dat (lD (dQ f m (q m)) m)) s6 s7) ?_ X))
  ·have I:=Cw (G:=G) (t:=t) (g:=g) (K:=K) (Q:=Q') (f:=f) (q:=q) (s4:=.dat (aC m)) rfl T s r
   show(bW (aC m)).bind (fun N=>(mZ (bD Q' (lD q)) N).bind fun z=>if(cW (bD Q' (lD q)) && lR (lE G t g K f Q' q (.dat (aC m)) o s6 s7))=true then some (aP.nx ((List.set (lE G t g K f Q' q (.dat (aC m)) o s6 s7) 3 (.ownD z.2)).set 5 (.dat z.1)))else none)=_
   rw [gY,Qi,Ho i,Qi,j1,I];rfl
  ·refine(AY (l:=K) (f:=f) (c:=m) (a:=q m) rfl rfl rfl (by lia) (Cw rfl rfl s r)).trans ?_
   rw [Hw f _ (d.a m i).1];unfold lD;rw [u];rfl
theorem OL(b:g∈G)(j:G.length<=25):∃ K f,(∀ c∈K,Op G t g c (f c))/\(∀ v c,Pt G c v g->c∈K)/\(∀ c∈K,(f c).2<=25)/\rM [.dict (oF G t),aC g]=some (.dict (bD K (lD f))):=by
 obtain⟨ρ',l,K,f,q,p,o,n,m,rfl,d,i⟩:=v9 (LI G t g) (LD G t g) (Te j) 900 (G.length+1) (lE G t g [] (fun _=>(0,0)) [g] (fun _=>(t g,0)) .no .no .no .no) (by lia) ⟨[],_,[g],_,_,_,_,_,rfl,Dj.start b _ _ rfl,by simp,by simp,fun c a=>(nomatch a),fun c a=>Ql _,rfl,rfl,rfl⟩
 refine⟨K,f,d.k,d.all,fun c a=>?_,cL ?_⟩
 ·have:=i c a
  have:=AH d.nd.1 fun c a=>(d.k c a).h.in
  lia
 have e:=m9 (fun c=>J3 ((t c:Nat):Int)) b;refine aX (ρ':=[.dat (.dict (oF G t)),.dat (aC g),.ownD [],.no,.no,.no,.no,.no]) rfl (aX (ρ':=lE G t g [] (fun _=>(0,0)) [g] (fun _=>(t g,0)) .no .no .no .no) ?_ (aX l (cE rfl)));have v:bV (aB (aE fN (eV 0) (eV 1)) (aB (eC (.int 0)) aG)) [.dat (.dict (oF G t)),.dat (aC g),.ownD [],.no,.no,.no,.no,.no]=some (.tuple [.int ((t g:Nat):Int),.int 0]):=iS (oo rfl rfl e) rfl;unfold wN;rw [show eV 1 [.dat (.dict (oF G t)),.dat (aC g),.ownD [],.no,.no,.no,.no,.no]=some (aC g)from rfl,Qi,v,Qi,gY];rfl
end
end My
namespace My
open PySem.SeqAt L2 DL SD SL EL DC TB TX MN LM
section
variable {G:List C}{t:C->Nat}{g:C}{K:List C}{f:C->Lo}
theorem Gf{c:C}{one o2:D}{s3 s5:Sl}:∀{l:List Nat},(∀ x∈l,aH c x∈K)->pO (fun d=>aE fN (eV 1) (aE aK (eV 0) (eC (.int 1))) (.dat d::iX [some 0] [.dat (.dict (bD K (lD f))),.dat one,.dat o2,s3,.dat (aC c),s5])) (l.map (jC c))=some (l.map fun x=>(rw2 (f (aH c x)),jC c x))
 | [],_=>rfl
 | x::l,h=>by
  have i:=m9 (lD f) (h x Qe);have e:aE fN (eV 1) (aE aK (eV 0) (eC (.int 1))) (.dat (jC c x)::iX [some 0] [.dat (.dict (bD K (lD f))),.dat one,.dat o2,s3,.dat (aC c),s5])=some (lD f (aH c x)):=oo rfl rfl i;rw [Qp];unfold pO;rw [e,Qi,show bW (lD f (aH c x))=some (rw2 (f (aH c x)))from rfl,Qi,Gf fun y a=>h y (Qg _ a)];rfl
theorem Sn{c:C}{one o2:D}{s3 s5:Sl}(m:eL K c≠[]):∃ x∈eL K c,vP [some 0] (aJ iT (aB (eV 0) (aB (eV 4) aG))) (aE fN (eV 1) (aE aK (eV 0) (eC (.int 1)))) [.dat (.dict (bD K (lD f))),.dat one,.dat o2,s3,.dat (aC c),s5]=some (jC c x) /\
  ∀ y∈eL K c,cS (f (aH c x)) (f (aH c y))/\(f (aH c y)=f (aH c x)->od x<=od y):=by
 have r:=T3 K (lD f) c;have k:=Gf (f:=f) (one:=one) (o2:=o2) (s3:=s3) (s5:=s5) (c:=c) (K:=K) (l:=eL K c) fun x t=>(mD.mp t).2;have b:(eL K c).Pairwise fun x y=>od x<od y:=HR.filter _;obtain⟨l,n⟩:∃ l,l=eL K c:=⟨_,rfl⟩;rw [<- n]at m k b ⊢
 cases l with
 | nil=>exact absurd rfl m
 | cons d l=>
  obtain⟨s,j,e,o,g⟩:=u8 (l.map fun x=>(rw2 (f (aH c x)),jC c x)) (rw2 (f (aH c d)),jC c d);rw [<- Qp (f:=fun x=>(rw2 (f (aH c x)),jC c x))]at e g;obtain⟨B,A,i,w,v⟩:=List.map_eq_append_iff.mp e;obtain⟨x,z,h,p,E⟩:=List.map_eq_cons_iff.mp v;rw [<- p]at o g
  have q:x∈d::l:=by rw [i,h];exact Qk _ Qe
  refine⟨x,q,?_,fun y a=>⟨?_,fun u=>?_⟩⟩
  ·show(aJ iT (aB (eV 0) (aB (eV 4) aG)) _).bind _=_
   rw [aT (gr:=aB (eV 0) (aB (eV 4) aG)) rfl r,<- n,Qi]
   show(pO _ _).bind _=_
   rw [k,Qi]
   show some (fF _ _).2=_
   rw [<- p]
  ·have:=g _ (QN.mpr ⟨y,a,rfl⟩)
   dsimp only at this;rw [uZ,decide_eq_false_iff_not]at this;unfold cS;lia
  ·rw [i,h]at a;rcases Qv.mp a with a | a
   ·have:=o _ (by rw [<- w];exact QN.mpr ⟨y,a,rfl⟩)
    dsimp only at this;rw [u,kX]at this;cases this
   ·rcases Qj.mp a with rfl | a
    ·exact Ql _
    ·rw [i,h,YX]at b;exact Yu (List.rel_of_pairwise_cons b.2.1 a)
inductive tI(K:List C)(f:C->Lo)(g one:C)(n:Nat)(ρ:aA):Prop
 | mk (pre:List Nat) (c:C) (s5:Sl) (er:ρ=[.dat (.dict (bD K (lD f))),.dat (aC one),.dat (aC g),.dat (.str (cB pre)),.dat (aC c),s5]) (hc:c∈K) (hn:(f c).2=n) (hp:pre.length+n<=30) (k:∀ u,Gr K f g c u->Gr K f g one (pre++u)):tI K f g one n ρ
inductive BC(K:List C)(f:C->Lo)(g one:C)(ρ:aA):Prop
 | mk (u:List Nat) (s4 s5:Sl) (er:ρ=[.dat (.dict (bD K (lD f))),.dat (aC one),.dat (aC g),.dat (.str (cB u)),s4,s5]) (r:Gr K f g one u):BC K f g one ρ
theorem Nq{one:C}(l:∀ c∈K,Op G t g c (f c))(b:∀ v c,Pt G c v g->c∈K)(hs:∀ c∈K,(f c).2<=25)(i:one∈K):∃ u,rR [.dict (bD K (lD f)),aC one,aC g]=some (.str (cB u))/\Gr K f g one u:=by
 obtain⟨ρ',s,u,A,s5,rfl,r⟩:=v9 (t:=eB (aE dZ (eV 4) (eV 2))) (g:=aO (bQ 5 (vP [some 0] (aJ iT (aB (eV 0) (aB (eV 4) aG))) (aE fN (eV 1) (aE aK (eV 0) (eC (.int 1)))))) (aO (bQ 3 (aE lA (eV 3) (aE aK (eV 5) (eC (.int 0))))) (bQ 4 (aE aK (eV 5) (eC (.int 1)))))) (tI K f g one) (BC K f g one) (fun n z o=>by
  obtain⟨a,c,s5,rfl,m,E,B,k⟩:=o;have d:=yD c g;by_cases e:c=g
  ·subst e;rw [beq_self_eq_true]at d;exact .inl ⟨oB (oo rfl rfl d),a,_,_,rfl,by have:=k [] .nil;rwa [Yg]at this⟩
  ·rw [beq_eq_false_iff_ne.mpr e]at d;obtain⟨x,h,q,j⟩:=Sn (f:=f) (one:=aC one) (o2:=aC g) (s3:=.dat (.str (cB a))) (s5:=s5) (Ni l b m e);have w:=Ct l b m e h fun y p=>(j y p).1
   have F:(f c).2=(f (aH c x)).2+1:=by rw [w];rfl
   refine .inr ⟨oB (oo rfl rfl d),_,(f (aH c x)).2,aX (cQ q) (aX (cQ (oo rfl (oo rfl rfl rfl) (C2 a x (by lia)))) (cQ (oo rfl rfl rfl))),by lia,a++[x],aH c x,_,rfl,(mD.mp h).2,rfl,by rw [Qm,QH];lia,fun u r=>?_⟩
   have:=k (x::u) (.cons e h j r)
   rwa [Q6]) 900 (f one).2 [.dat (.dict (bD K (lD f))),.dat (aC one),.dat (aC g),.dat (.str (cB [])),.dat (aC one),.no] (by have:=hs one i;lia) ⟨[],one,_,rfl,i,rfl,by have:=hs one i;simpa using by lia,fun u r=>r⟩
 exact⟨u,cL (aX (ρ':=[.dat (.dict (bD K (lD f))),.dat (aC one),.dat (aC g),.dat (.str (cB [])),.no,.no]) rfl (aX rfl (aX s (cE rfl)))),r⟩
end
structure Qw(G:List C)(t:C->Nat)(one oth:C)(a:Lo)(u:List Nat):Prop where
 o:Op G t oth one a
 p:Pt G one u oth
 c:co t one u=a
 l:∀ v,Pt G one v oth->co t one v=a->¬ eK v u
 n:u.length<=25
section
variable {w h:Nat}{W:C->Bool}(hw:w<=5)(hh:h<=5)
include hw hh
theorem wI{E:List Ey}{one b:C}(o:∀ e∈E,jM w h W e)(s:E.length<=100)(n:one∈bF w h W)(k:b∈bF w h W){v:List Nat}(q:Pt (bF w h W) one v b):
  ∃ a u,jI [bK w h W,.list (E.map cA),aC one,aC b]=some (.tuple [.int ((a.1:Nat):Int),.str (cB u)])/\Qw (bF w h W) (nE (bG w h W) E) one b a u:=by
 obtain⟨K,f,j,g,m,y⟩:=OL (t:=nE (bG w h W) E) k (nI hw hh W);have d:=g v one q;obtain⟨u,x,r⟩:=Nq j g m d;obtain⟨p,c,l⟩:=r.way j g d;have i:=oJ true K (lD f) one;rw [Qy.mpr d]at i
 refine⟨f one,u,cL ?_,j one d,p,c,l,?_⟩
 ·exact aX (kL (aT rfl (pU (gC.mp n).1 (gC.mp n).2))) (aX (kL (aT rfl (pU (gC.mp k).1 (gC.mp k).2))) (aX (kL (aT rfl (Hy o))) (aX (cQ (aT (bA (aT rfl (TQ hw hh o s)) rfl) y)) (aX (dS (oB (oo rfl rfl i))) (cE (iS (oo (oo rfl rfl (m9 (lD f) d)) rfl rfl) (aT rfl x)))))))
 ·have:=m one d
  rw [<- c]at this;exact this
theorem OQ{one b:C}(d:one∈bF w h W)(l:b∈bF w h W){v:List Nat}(n:Pt (bF w h W) one v b):
  ∃ u,pE [bK w h W,.list [],aC one,aC b]=some (.str (cB u))/\Pt (bF w h W) one u b/\(∀ v,Pt (bF w h W) one v b->u.length<=v.length)/\∀ v,Pt (bF w h W) one v b->v.length=u.length->¬ eK v u:=by
 have o:=nI hw hh W;have p:fR [bK w h W]=some (.list ((bF w h W).map aC)):=wC hw hh;have m:=MD (W:=W) hw hh (cs:=[]) (fun a t=>(nomatch t)) (by decide);rw [show((bF w h W).filter fun c=>([]:List C).any fun a=>gB (bG w h W) a c)=[]from List.filter_eq_nil_iff.mpr fun a _ z=>(by cases z)]at m;have r:gL [.list (([]:List C).map aC)]=some (iA []):=AE rfl (by decide) .nil;have q:gL [.list ((bF w h W).map aC)]=some (iA (bF w h W)):=AE rfl (by lia) (nN (Bu w h W))
 have s:eA (dX (dH (aJ fR (aB (eV 0) aG))) (bM 0) (eB (aE (dN true) (eV 0) (eV 1))) (eV 0) [none,some 4]) [.dat (bK w h W),.dat (.list []),.dat (aC one),.dat (aC b),.dat (iA []),.no,.no]=some (.list ((bF w h W).map aC)):=by
  refine iG (xs:=bF w h W) aC (fun _=>true) aC (fun f=>∃ i,f=[i,.dat (iA [])]) (iF (aT rfl p) rfl) (by lia) ⟨_,rfl⟩ ?_ (by rw [lH]);rintro c _ f ⟨i,rfl⟩
  exact⟨[.dat (aC c),.dat (iA [])],rfl,⟨_,rfl⟩,oB (oo rfl rfl (vW true c [])),fun _=>rfl⟩
 have k:=vW true one (bF w h W);rw [Qy.mpr d]at k;obtain⟨K,g,F,E,B⟩:=SM d o;have e:=F v b n;have j:=oJ true K (fD g) b;rw [Qy.mpr e]at j;obtain⟨A,y,G,x⟩:=E b e
 refine⟨g b,cL ?_,A,y,x⟩
 exact aX (kL (aT rfl (pU (gC.mp d).1 (gC.mp d).2))) (aX (kL (aT rfl (pU (gC.mp l).1 (gC.mp l).2))) (aX (cQ (aT (bA (aT rfl m) rfl) r)) (aX (cQ (aT (bA s rfl) q)) (aX (dS (oB (oo rfl rfl k))) (aX (cQ (aT rfl B)) (aX (dS (oB (oo rfl rfl j))) (cE (oo rfl rfl (m9 (fD g) e)))))))))
end
theorem Rz{G:List C}{one d:C}{a:Lo}{u u':List Nat}{t:C->Nat}(i:∀ c,t c=0)(q:Qw G t one d a u)(p:Pt G one u' d)(s:∀ v,Pt G one v d->u'.length<=v.length)(l:∀ v,Pt G one v d->v.length=u'.length->¬ eK v u'):a.1=0/\u=u':=by
 have h:∀(c:C) (v:List Nat),co t c v=(0,v.length):=fun c v=>by
  unfold co
  have:∀ l:List C,(l.map t).sum=0:=fun l=>by
   induction l with
   | nil=>rfl
   | cons b l j=>rw [Qp,YW,j,i]
  rw [this]
 have f:=q.c;rw [h]at f;have g:=q.o.m u' p;rw [<- f,h]at g;have k:=s u q.p
 have le:u.length<=u'.length:=by unfold cS at g;dsimp only at g;lia
 have e:u.length=u'.length:=JG le k
 refine⟨by rw [<- f],?_⟩
 rcases AB q.p.w p.w e with z | z | z
 ·exact absurd z (l u q.p e)
 ·exact z
 ·exact absurd z (q.l u' p (by rw [h,<- f,e]))
end My
namespace My
open PySem.SeqAt L2 DL SD SL EL DC TB TX
theorem Iu(a:C)(x:Nat):sE [aC a,aC (n8 x)]=some (aC (aH a x)):=cL (cE rfl)
def kS(w h:Nat)(W:C->Bool)(c:C):Bool:=eI w h c && !W c
theorem Gj{w h:Nat}{W:C->Bool}{a:C}{x:Nat}(e:x∈bS):kD [bK w h W,aC a,.str (ws x)]=some (if kS w h W (aH a x)=true then aC (aH a x)else .none):=by
 have c:=Fu e;rw [<- v5]at c;have d:=x8 false (aH a x) w h W;refine cL ?_;unfold A5;rw [show eU 4 [bK w h W,aC a,.str (ws x)]=[.dat (bK w h W),.dat (aC a),.dat (.str (ws x)),.no]from rfl];refine aX (cQ (aT (bA rfl (bA (GR (tb:=i4) rfl c) rfl)) (Iu a x))) ?_
 have t:gQ (eB (aE (i9 false) (eV 3) (aE aK (eV 0) (eC (.int 2))))) (gQ (hY (eB (jZ jA hX (eC (.int 0)) (aE aK (eV 3) (eC (.int 0))) (aE aK (eV 0) (eC (.int 0)))))) (hY (eB (jZ jA hX (eC (.int 0)) (aE aK (eV 3) (eC (.int 1))) (aE aK (eV 0) (eC (.int 1))))))) [.dat (bK w h W),.dat (aC a),.dat (.str (ws x)),.dat (aC (aH a x))]=some (!kS w h W (aH a x)):=by
  have i:eB (aE (i9 false) (eV 3) (aE aK (eV 0) (eC (.int 2)))) [.dat (bK w h W),.dat (aC a),.dat (.str (ws x)),.dat (aC (aH a x))]=some (bG w h W (aH a x)):=oB (oo rfl rfl d)
  have g:hY (eB (jZ jA hX (eC (.int 0)) (aE aK (eV 3) (eC (.int 0))) (aE aK (eV 0) (eC (.int 0))))) [.dat (bK w h W),.dat (aC a),.dat (.str (ws x)),.dat (aC (aH a x))]=some (!(decide (0<=(aH a x).1) && decide ((aH a x).1<w))):=by
   refine oN (oB ?_)
   show(if decide (0<=(aH a x).1)=true then some (Zb (decide ((aH a x).1<w)))else some (.bool false))=_
   cases decide (0<=(aH a x).1) <;> rfl
  have f:hY (eB (jZ jA hX (eC (.int 0)) (aE aK (eV 3) (eC (.int 1))) (aE aK (eV 0) (eC (.int 1))))) [.dat (bK w h W),.dat (aC a),.dat (.str (ws x)),.dat (aC (aH a x))]=some (!(decide (0<=(aH a x).2) && decide ((aH a x).2<h))):=by
   refine oN (oB ?_)
   show(if decide (0<=(aH a x).2)=true then some (Zb (decide ((aH a x).2<h)))else some (.bool false))=_
   cases decide (0<=(aH a x).2) <;> rfl
  rw [C3,i,Qi,C3,g,Qi,f];unfold kS bG eI
  cases decide (0<=(aH a x).1) <;> cases decide ((aH a x).1<w) <;> cases decide (0<=(aH a x).2) <;> cases decide ((aH a x).2<h) <;> cases W (aH a x) <;> rfl
 cases o:kS w h W (aH a x)with
 | true=>rw [o]at t;exact aX (dS t) (cE rfl)
 | false=>rw [o]at t;exact pZ (iI (b:=true) t (fun _=>cE rfl) fun z=>by cases z)
theorem MJ(d:List C)(b:C):aK (.list ((d++[b]).map aC)) (.int (-1))=some (aC b):=by
 show L2.atI ((d++[b]).map aC) (-1)=_
 unfold L2.atI L2.ixN;rw [if_neg (by decide),Qo,Qm,QH];rw [if_pos (by lia)];rw [show((-1:Int)+((d.length+1:Nat):Int)).toNat=d.length by lia];simp
theorem rX(a:C)(u:List Nat):aK (.list ((vis a u).map aC)) (.int (-1))=some (aC (fin a u)):=by
 obtain⟨l,e⟩:=Bx a u;rw [e];exact MJ l _
theorem HN:∀(s:C) (u v:List Nat),∀ y∈vis s u,y∈vis s (u++v)
 | s,[],v,y,h=>by
  rw [Qd.mp h];exact Gz s v
 | s,x::u,v,y,h=>by
  rcases Qj.mp h with e | h
  ·rw [e];exact Qe
  ·exact Qg _ (HN (aH s x) u v y h)
theorem LR(u:List Nat):zG (.str (cB u))=some (u.map fun x=>.str (ws x)):=by
 show some ((u.toArray.toList.map fun c=>(⟨#[c]⟩:Str)).map PyData.str)=_
 rw [Yk];rfl
theorem O0{ga:aA->Option D}{ρ:aA}{d:D}{l:List D}(b:ga ρ=some d)(a:zG d=some l):qJ ga ρ=some l:=by
 unfold qJ;rw [b];exact a
theorem Ka(c:C):rZ (aC c) .none=some (.bool true):=id rfl
theorem Rt{i:Nat}{ga:aA->Option D}{ρ:aA}{ds:List D}{c:C}(d:ρ[i]?=some (.own ds))(b:ga (ρ.map frz)=some (aC c))(a:ds.length<1000):nK i ga ρ=some (.nx (ρ.set i (.own (ds++[aC c])))):=by
 unfold nK;rw [d]
 show((ga (ρ.map frz)).bind _)=_
 rw [b,Qi,if_pos (by rw [decide_eq_true a];rfl)]
def mR(l:List C)(k:Nat):C:=l.getD k (0,0)
theorem yA{l:List C}{i:Int}(c:0<=i)(b:i<l.length):aK (.list (l.map aC)) (.int i)=some (aC (mR l i.toNat))/\mR l i.toNat∈l:=by
 have a:i.toNat<l.length:=by lia
 have e:mR l i.toNat=l[i.toNat]:=by unfold mR;simp [List.getD,a]
 constructor
 ·show L2.atI (l.map aC) i=_
  unfold L2.atI L2.ixN;rw [Qo,if_pos c,if_pos b,e]
  simp [a]
 ·rw [e];exact YB a
theorem yE{i:Int}(b:0<=i)(a:i<4):∃ x∈bS,j6 (.str "nesw") (.int i)=some (.str (ws x)):=by
 have e:(Str.ofString "nesw")=⟨#[110,101,115,119]⟩:=by decide
 rw [e]
 have:i=0 ∨ i=1 ∨ i=2 ∨ i=3:=by lia
 rcases this with rfl | rfl | rfl | rfl
 ·exact⟨110,by decide,rfl⟩
 ·exact⟨101,by decide,rfl⟩
 ·exact⟨115,by decide,rfl⟩
 ·exact⟨119,by decide,rfl⟩
theorem Gn{u:List Nat}(h:u.length<=100):lC [.str (cB u)]=some (.int (u.length:Int)):=by
 show(if decide ((cB u).length<=1000000)=true then some (J3 ((cB u).length:Int))else none)=_
 have e:(cB u).length=u.length:=by unfold cB Str.length;simp
 rw [e,if_pos (decide_eq_true (by lia))]
end My
namespace My
open PySem.SeqAt L2 DL SD SL EL DC TB TX MN LM
theorem Op.back{G:List C}{t:C->Nat}{a b:C}{x:Lo}(o:Op G t b a x):Op G t a b x:=by
 obtain⟨u,p,e⟩:=o.h
 refine⟨⟨My.back u,p.back,by rw [Dd p,e]⟩,fun v q=>?_⟩
 have:=o.m _ q.back
 rwa [Dd q]at this
theorem Om(S:C->Bool)(E:List Ey)(e:Ey)(c:C):nE S E c<=nE S (E++[e]) c:=by
 unfold nE;rw [List.filter_append,Qm];exact Yi _ _
theorem GE{t t':C->Nat}(h:∀ c,t c<=t' c):∀ l:List C,(l.map t).sum<=(l.map t').sum
 | []=>Ql _
 | c::l=>by
  rw [Qp,Qp,YW,YW];exact Nat.add_le_add (h c) (GE h l)
theorem MH(a:C)(u:List Nat):aK (.list ((vis a u).map aC)) (.int 0)=some (aC a):=by
 obtain⟨l,e⟩:∃ l,vis a u=a::l:=by cases u <;> exact⟨_,rfl⟩
 rw [e]
 show L2.atI (aC a::l.map aC) 0=_
 unfold L2.atI L2.ixN;rw [if_pos (by decide),if_pos (by rw [QE];lia)];rfl
theorem HM{w h:Nat}{W:C->Bool}{l:List C}(a:∀ c∈l,c∈bF w h W):∀ c∈l,eI w h c=true:=fun c b=>(gC.mp (a c b)).1
theorem Il(l m:List Ey)(h:l.length+m.length<=1000):bP (.list (l.map cA)) (.list (m.map cA))=some (.list ((l++m).map cA)):=by
 show(if(l.map cA).length+(m.map cA).length<=1000 then some (Uq (l.map cA++m.map cA))else none)=_
 rw [if_pos (by rw [Qo,Qo];exact h),Yb]
theorem T5{u:List Nat}(h:∀ x∈u,x∈bS):PyData.strOk (cB u)=true:=by
 unfold PyData.strOk cB;rw [List.all_toArray,QZ];intro x a
 rcases nR (h x a)with z | z | z | z <;> rw [z] <;> decide
theorem ND{u:List Nat}(i:Int)(h:∀ x∈u,x∈bS):gP (.tuple [.int i,.str (cB u)]) (.tuple [.int i,.str (cB u)])=some (.bool true):=by
 have s:ZA (.tuple [.int i,.str (cB u)])=true:=by
  simp [ZA,ZG,Zd,UA,Zn,T5 h]
 have e:ZE (.tuple [.int i,.str (cB u)]) (.tuple [.int i,.str (cB u)])=true:=by
  simp [ZE,ZT]
 unfold gP;rw [s,e];rfl
theorem Rf(i j:Int):dZ (.tuple [.int i,.int j]) (.tuple [.int i,.int j])=some (.bool false):=by
 have:=yD (i,j) (i,j)
 rw [beq_self_eq_true]at this;exact this
section
variable {w h:Nat}{W:C->Bool}(hw:w<=5)(h0:0<h)(hh:h<=5)(ns:List Int)(hn:ns.length<=63)
inductive BF(w h:Nat)(W:C->Bool)(ns:List Int)(O:List C)(n:Nat)(ρ:aA):Prop
 | mk (E:List Ey) (s5 s6 s7:Sl) (er:ρ=[.dat (dA ns),.dat (.int 60),.dat (bK w h W),.dat (.list (O.map aC)),.own (E.map cA),s5,s6,s7]) (o:∀ e∈E,jM w h W e) (hl:E.length<=n):BF w h W ns O n ρ
include hw h0 hh hn
theorem OI(p:bF w h W≠[]):∃ E:List Ey,rE [dA ns,.int 60,bK w h W]=some (.list (E.map cA))/\(∀ e∈E,jM w h W e)/\E.length<=4:=by
 have y:=Fw (W:=W) hw h0 hh;obtain⟨O,F⟩:∃ O,O=bF w h W:=⟨_,rfl⟩;rw [<- F]at y p
 have I:0<(O.length:Int):=by
  cases O with
  | nil=>exact absurd rfl p
  | cons a l=>rw [QE];lia
 have J:dO [.list (O.map aC)]=some (.int (O.length:Int)):=by rw [nA,Qo]
 have v:=FG O [];rw [decide_eq_false p]at v;obtain⟨Y,p0,p1⟩:=jK ns hn 60 4 (by decide)
 have R:aB (aJ dB (aB (eV 0) (aB (eV 1) (aB (eC (.int 4)) aG)))) aG [.dat (dA ns),.dat (.int 60),.dat (bK w h W),.dat (.list (O.map aC)),.own (([]:List Ey).map cA),.no,.no,.no]=some [.int ((dr ns 60 4).toNat:Nat)]:=by
  refine bA (aT rfl Y) rfl |>.trans ?_
  rw [show(((dr ns 60 4).toNat:Nat):Int)=dr ns 60 4 by lia]
 obtain⟨ρ',S,E,H,t,r,Q,o,B⟩:=m7 (s:=bM 5) (g:=aO (bQ 6 (aE aK (eV 3) (aJ dB (aB (eV 0) (aB (aE bP (aE bP (eV 1) (eC (.int 1))) (aE cF (eC (.int 3)) (eV 5))) (aB (aJ dO (aB (eV 3) aG)) aG))))))
  (aO (bQ 7 (aE j6 (eC (.str "nesw")) (aJ dB (aB (eV 0) (aB (aE bP (aE bP (eV 1) (eC (.int 2))) (aE cF (eC (.int 3)) (eV 5))) (aB (eC (.int 4)) aG))))))
  (jF 4 (bV (aB (eV 6) (aB (eV 7) (aB (aE bP (eC (.int 1)) (aJ dB (aB (eV 0) (aB (aE bP (aE bP (eV 1) (eC (.int 3))) (aE cF (eC (.int 3)) (eV 5))) (aB (eC (.int 5)) aG))))) aG))))))) (fun(k:Nat)=>.int (k:Int))
  (fun f q=>BF w h W ns O f.length q) (J5 (dr ns 60 4).toNat) (by
   rintro f k u G q ⟨E,H,t,r,rfl,o,B⟩
   have pl:f.length<=4/\k<4:=by
    have:=congrArg U6 G
    rw [QX,Qm]at this
    have M:k∈J5 (dr ns 60 4).toNat:=by rw [G];exact Qk _ Qe
    rw [QS]at M;lia
   have n:cF (.int 3) (.int (k:Int))=some (.int (3 * (k:Int))):=iZ (qQ (by lia) (by lia));obtain⟨X,a0,a1⟩:=jK ns hn (60+1+3 * (k:Int)) (O.length:Int) I;obtain⟨m,A⟩:=yA a0 a1;obtain⟨U,b0,b1⟩:=jK ns hn (60+2+3 * (k:Int)) 4 (by decide);obtain⟨x,K,N⟩:=yE b0 b1;obtain⟨T,Z,c1⟩:=jK ns hn (60+3+3 * (k:Int)) 5 (by decide);generalize mR O (dr ns (60+1+3 * (k:Int)) (O.length:Int)).toNat=c at m A
   refine⟨[.dat (dA ns),.dat (.int 60),.dat (bK w h W),.dat (.list (O.map aC)),.own (E.map cA),.dat (.int (k:Int)),t,r],_,rfl,aX (cQ (oo rfl (aT (bA rfl (bA (oo (oo rfl rfl rfl) (oo rfl rfl n) rfl) (bA (aT rfl J) rfl))) X) m)) (aX (cQ (oo rfl (aT (bA rfl (bA (oo (oo rfl rfl rfl) (oo rfl rfl n) rfl) (bA rfl rfl))) U) N)) (sX (i:=4) (ds:=E.map cA) (d:=cA (c,x,1+dr ns (60+3+3 * (k:Int)) 5)) rfl (CA rfl rfl (oo rfl (aT (bA rfl (bA (oo (oo rfl rfl rfl) (oo rfl rfl n) rfl) (bA rfl rfl))) T) rfl)) (by rw [Qo];lia))),E++[(c,x,1+dr ns (60+3+3 * (k:Int)) 5)],_,_,_,by rw [Yb];rfl,fun e j=>?_,by rw [Qm,Qm];simp;lia⟩
   rcases Qv.mp j with j | j
   ·exact o e j
   ·rw [Qd.mp j]
    exact⟨by rw [<- F];exact A,K,by dsimp only;lia⟩) (J5 (dr ns 60 4).toNat) [] [.dat (dA ns),.dat (.int 60),.dat (bK w h W),.dat (.list (O.map aC)),.own (([]:List Ey).map cA),.no,.no,.no] rfl ⟨[],_,_,_,rfl,fun e j=>(nomatch j),QU _⟩
 subst Q;rw [QX]at B
 refine⟨E,cL ?_,o,by lia⟩
 exact aX (cQ (aT rfl y)) (aX (ρ':=[.dat (dA ns),.dat (.int 60),.dat (bK w h W),.dat (.list (O.map aC)),.own (([]:List Ey).map cA),.no,.no,.no]) rfl (aX (iI (b:=true) (oB (oo rfl rfl v)) (fun _=>wL R (by lia) S) fun z=>(nomatch z)) (cE rfl)))
end
end My
namespace My
open PySem.SeqAt L2 DL SD SL EL DC TB TX MN LM
def ev(ns:List Int)(w h:Nat)(W:C->Bool)(O:List C)(E:List Ey)(s4 s5 s6 s7 e d c b a:Sl):aA:=[.dat (dA ns),.dat (bK w h W),.dat (.list (O.map aC)),.dat (.list (E.map cA)),s4,s5,s6,s7,e,d,c,b,a]
inductive BE(f:Sl->Sl->Sl->aA)(O:List C)(one:C)(n:Nat)(ρ:aA):Prop
 | mk (u:List Nat) (s5 s6:Sl) (er:ρ=f (.own ((vis one u).map aC)) s5 s6) (uw:∀ x∈u,x∈bS) (uv:∀ y∈vis one u,y∈O) (ul:u.length<=n):BE f O one n ρ
def rest:aA->Option aP:=(jV 4 (aO (qR (aJ jI (aB (eV 1) (aB (eV 3) (aB (aE aK (eV 4) (eC (.int 0))) (aB (aE aK (eV 4) (dJ dF (eC (.int 1)))) aG))))) (jY 2 (fG (bM 7) (fG (bM 8) jX))))
  (jV 4 (aO (jW 9 (aB (aE aK (eV 4) (eC (.int 0))) aG))
  (aO (eM (qJ (eV 8)) (bM 10) (aO (nK 9 (aJ kD (aB (eV 1) (aB (aE aK (eV 9) (dJ dF (eC (.int 1)))) (aB (eV 10) aG)))))
  (cG (eB (aE qH (aE aK (eV 9) (dJ dF (eC (.int 1)))) (eC .none))) (bN (eC (.bool false))) cR)))
  (aO (cG (gQ (eB (aE dZ (aE aK (eV 9) (dJ dF (eC (.int 1)))) (aE aK (eV 4) (dJ dF (eC (.int 1)))))) (eB (aE dZ (aJ l4 (aB (eV 1) (aB (eV 3) (aB (eV 9) aG)))) (eV 7)))) (bN (eC (.bool false))) cR)
  (aO (cG (eB (aE qG (bV (aB (eV 7) (aB (aJ lC (aB (eV 8) aG)) aG))) (bV (aB (aJ l4 (aB (eV 1) (aB (eV 3) (aB (eV 4) aG)))) (aB (aE j7 (aJ dO (aB (eV 4) aG)) (eC (.int 1))) aG))))) (bN (eC (.bool false))) cR)
  (jV 4 (aO (bQ 11 (aJ jI (aB (eV 1) (aB (eV 3) (aB (aE aK (eV 4) (dJ dF (eC (.int 1)))) (aB (aE aK (eV 4) (eC (.int 0))) aG))))))
  (aO (cG (eB (aE dZ (bV (aB (aE aK (eV 11) (eC (.int 0))) (aB (aJ lC (aB (aE aK (eV 11) (eC (.int 1))) aG)) aG))) (bV (aB (eV 7) (aB (aJ lC (aB (eV 8) aG)) aG))))) (bN (eC (.bool false))) cR)
  (aO (bQ 12 (aE bP (eV 3) (fY (aB (bV (aB (aE aK (eV 2) (aJ dB (aB (eV 0) (aB (eC (.int 73)) (aB (aJ dO (aB (eV 2) aG)) aG))))) (aB (aE j6 (eC (.str "nesw")) (aJ dB (aB (eV 0) (aB (eC (.int 74)) (aB (eC (.int 4)) aG))))) (aB (eC (.int 3)) aG)))) aG))))
  (aO (cG (eB (aE hX (aE aK (aJ jI (aB (eV 1) (aB (eV 12) (aB (aE aK (eV 4) (eC (.int 0))) (aB (aE aK (eV 4) (dJ dF (eC (.int 1)))) aG))))) (eC (.int 0))) (eV 7))) (bN (eC (.bool false))) cR)
  (bN (aE gP (aJ jI (aB (eV 1) (aB (fY aG) (aB (aE aK (eV 4) (eC (.int 0))) (aB (aE aK (eV 4) (dJ dF (eC (.int 1)))) aG))))) (bV (aB (eC (.int 0)) (aB (aJ pE (aB (eV 1) (aB (fY aG) (aB (aE aK (eV 4) (eC (.int 0))) (aB (aE aK (eV 4) (dJ dF (eC (.int 1)))) aG))))) aG)))))))))))))))))
theorem R6{w h:Nat}{W:C->Bool}(j:w<=5)(l:h<=5)(ns:List Int)(hn:ns.length<=63){E:List Ey}{one:C}{u:List Nat}{s5 s6:Sl}(o:∀ e∈E,jM w h W e)(hE:E.length<=4)(uw:∀ x∈u,x∈bS)(uv:∀ y∈vis one u,y∈bF w h W)(ul:u.length<=20):
  rest (ev ns w h W (bF w h W) E (.own ((vis one u).map aC)) s5 s6 .no .no .no .no .no .no)=some (.rt (.bool true)):=by
 have ol:=nI j l W;have k:Pt (bF w h W) one u (fin one u):=⟨uw,rfl,uv⟩;have A:=k.start;have M:=k.stop;have F:=MH one u;have B:=rX one u
 have J:0<((bF w h W).length:Int):=by have:=UD A;lia
 have ln:dO [.list ((bF w h W).map aC)]=some (.int ((bF w h W).length:Int)):=by rw [nA,Qo]
 obtain⟨a,v,eq,q⟩:=wI j l o (by lia) A M k;obtain⟨a',z,U,O⟩:=wI j l o (by lia) M A k.back;have ea:a'=a:=O.o.uniq q.o.back
 have lv:z.length=v.length:=by
  have e1:(co (nE (bG w h W) E) one v).2=v.length:=rfl;have e2:(co (nE (bG w h W) E) (fin one u) z).2=z.length:=rfl;rw [q.c]at e1;rw [O.c,ea]at e2;lia
 obtain⟨Z,p0,p1⟩:=jK ns hn 73 ((bF w h W).length:Int) J;obtain⟨K,m1⟩:=yA p0 p1;generalize mR (bF w h W) (dr ns 73 ((bF w h W).length:Int)).toNat=c at K m1;obtain⟨Y,p2,p3⟩:=jK ns hn 74 4 (by decide);obtain⟨x,hx,ex⟩:=yE p2 p3
 have oM:∀ e∈E++[(c,x,3)],jM w h W e:=fun e r=>by
  rcases Qv.mp r with r | r
  ·exact o e r
  ·rw [Qd.mp r];exact⟨m1,hx,by dsimp only;lia⟩
 obtain⟨N,G,em,qm⟩:=wI j l oM (by rw [Qm,QH];lia) A M k;obtain⟨a0,v0,e0,q0⟩:=wI j l (E:=[]) (fun e r=>(nomatch r)) (by decide) A M k;obtain⟨vh,eh,g1,g2,g3⟩:=OQ j l A M k;obtain⟨z1,z2⟩:=Rz (fun _=>rfl) q0 g1 g2 g3;subst z2;have ot:=Fl j l o (by lia) (HM q.p.i) (by rw [p8];have:=q.n;lia);have Q:=Fl j l o (by lia) (HM uv) (by rw [p8];lia)
 have s1:(((vis one v).map (nE (bG w h W) E)).sum:Nat)=a.1:=by rw [<- q.c];rfl
 rw [s1]at ot;have lw:=Gn (u:=v) (by have:=q.n;lia);have S:=Gn (u:=z) (by have:=O.n;lia);have le:=q.o.m u k
 have a3:a.1<=N.1:=by
  have t1:=q.o.m G qm.p;have t2:=GE (Om (bG w h W) E (c,x,3)) (vis one G)
  have t3:((vis one G).map (nE (bG w h W) (E++[(c,x,3)]))).sum=N.1:=by rw [<- qm.c];rfl
  have t4:(co (nE (bG w h W) E) one G).1=((vis one G).map (nE (bG w h W) E)).sum:=rfl;unfold cS at t1;lia
 have a2:a.2=v.length:=by rw [<- q.c];rfl
 obtain⟨dw,a4⟩:∃ dw:D,dw=.list ((vis one u).map aC):=⟨_,rfl⟩;unfold rest;refine AX (aX (ρ':=ev ns w h W (bF w h W) E (.dat (.list ((vis one u).map aC))) s5 s6 (.dat (.int ((a.1:Nat):Int))) (.dat (.str (cB v))) .no .no .no .no) (Ru (aT (bA rfl (bA rfl (bA (oo rfl rfl F) (bA (oo rfl rfl B) rfl)))) eq) rfl) ?_);refine AX (aX (ρ':=ev ns w h W (bF w h W) E (.dat (.list ((vis one u).map aC))) s5 s6 (.dat (.int ((a.1:Nat):Int))) (.dat (.str (cB v))) (.own ((vis one []).map aC)) .no .no .no) ?_ ?_)
 ·show((aB (aE aK (eV 4) (eC (.int 0))) aG _).bind _)=_
  rw [bA (gr:=aG) (oo (ga:=eV 4) (gb:=eC (.int 0)) rfl rfl F) rfl];rfl
 obtain⟨ρ',X,d,rfl⟩:=m7 (s:=bM 10) (g:=aO (nK 9 (aJ kD (aB (eV 1) (aB (aE aK (eV 9) (dJ dF (eC (.int 1)))) (aB (eV 10) aG)))))
  (cG (eB (aE qH (aE aK (eV 9) (dJ dF (eC (.int 1)))) (eC .none))) (bN (eC (.bool false))) cR)) (fun x=>.str (ws x))
  (fun b ρ=>∃ d,ρ=ev ns w h W (bF w h W) E (.dat (.list ((vis one u).map aC))) s5 s6 (.dat (.int ((a.1:Nat):Int))) (.dat (.str (cB v))) (.own ((vis one b).map aC)) d .no .no) v (by
   rintro b y f t ρ ⟨d,rfl⟩;have hy:y∈bS:=q.p.w y (by rw [t];exact Qk _ Qe)
   have nx:aH (fin one b) y∈bF w h W:=q.p.i _ (by
    rw [t,show b++y::f=(b++[y])++f by simp];refine HN one (b++[y]) f _ ?_
    rw [<- qZ];exact zQ _ _)
   have ok:kS w h W (aH (fin one b) y)=true:=by
    obtain⟨r1,r2⟩:=gC.mp nx;unfold kS;rw [r1,r2];rfl
   have lb:=Gj (w:=w) (h:=h) (W:=W) (a:=fin one b) hy;rw [ok,if_pos rfl]at lb;have af:=rX one b;have a1:=rX one (b++[y])
   have hl:b.length<=25:=by have:=q.n;rw [t]at this;rw [Qm]at this;lia
   refine⟨ev ns w h W (bF w h W) E (.dat (.list ((vis one u).map aC))) s5 s6 (.dat (.int ((a.1:Nat):Int))) (.dat (.str (cB v))) (.own ((vis one b).map aC)) (.dat (.str (ws y))) .no .no,ev ns w h W (bF w h W) E (.dat (.list ((vis one u).map aC))) s5 s6 (.dat (.int ((a.1:Nat):Int))) (.dat (.str (cB v))) (.own ((vis one (b++[y])).map aC)) (.dat (.str (ws y))) .no .no,rfl,aX ((Rt (i:=9) (c:=aH (fin one b) y) rfl (aT (bA rfl (bA (oo rfl rfl af) rfl)) lb) (by rw [Qo,p8];lia)).trans ?_) (dS (oB (oo (oo rfl rfl a1) rfl rfl))),⟨_,rfl⟩⟩
   rw [nP,Yb]
   rfl) v [] (ev ns w h W (bF w h W) E (.dat (.list ((vis one u).map aC))) s5 s6 (.dat (.int ((a.1:Nat):Int))) (.dat (.str (cB v))) (.own ((vis one []).map aC)) .no .no .no) rfl ⟨_,rfl⟩
 refine aX (jG (O0 rfl (LR v)) X) ?_;have fv:=rX one v;rw [q.p.e]at fv;have I:=yD (fin one u) (fin one u);rw [beq_self_eq_true]at I;have H:=IZ ((a.1:Nat):Int) ((a.1:Nat):Int);rw [beq_self_eq_true]at H;refine aX (dS (Cz (oB (oo (oo rfl rfl fv) (oo rfl rfl B) I)) (oB (oo (aT rfl ot) rfl H)))) ?_
 have lu:dO [.list ((vis one u).map aC)]=some (.int ((u.length+1:Nat):Int)):=by rw [nA,Qo,p8]
 have gt:qG (.tuple [.int ((a.1:Nat):Int),.int (v.length:Int)]) (.tuple [.int ((((vis one u).map (nE (bG w h W) E)).sum:Nat):Int),.int (((u.length+1:Nat):Int)-1)])=some (.bool false):=by
  rw [show((u.length+1:Nat):Int)-1=((u.length:Nat):Int) by lia]
  show some (Zb (HT.lexLt (rw2 (co (nE (bG w h W) E) one u)) [((a.1:Nat):Int),(v.length:Int)]))=_
  rw [<- a2,show [((a.1:Nat):Int),((a.2:Nat):Int)]=rw2 a from rfl,uZ,decide_eq_false (by unfold cS at le;lia)]
 refine aX (dS (oB (oo (iS rfl (aT rfl lw)) (iS (aT rfl Q) (oo (aT rfl lu) rfl rfl)) gt))) ?_;refine AX (aX (ρ':=ev ns w h W (bF w h W) E (.dat (.list ((vis one u).map aC))) s5 s6 (.dat (.int ((a.1:Nat):Int))) (.dat (.str (cB v))) (.own ((vis one v).map aC)) d (.dat (.tuple [.int ((a'.1:Nat):Int),.str (cB z)])) .no) (cQ (aT (bA rfl (bA rfl (bA (oo rfl rfl B) (bA (oo rfl rfl F) rfl)))) U)) ?_);have R:=Rf ((a.1:Nat):Int) (v.length:Int);rw [ea];refine aX (dS (oB (oo (iS (oo rfl rfl rfl) (aT (bA (oo rfl rfl rfl) rfl) (show _=some (J3 (v.length:Int))from by rw [S,lv]))) (iS rfl (aT rfl lw)) R))) ?_;refine aX (ρ':=ev ns w h W (bF w h W) E (.dat (.list ((vis one u).map aC))) s5 s6 (.dat (.int ((a.1:Nat):Int))) (.dat (.str (cB v))) (.own ((vis one v).map aC)) d (.dat (.tuple [.int ((a.1:Nat):Int),.str (cB z)])) (.dat (.list ((E++[(c,x,3)]).map cA)))) (cQ (oo rfl (ME.trans (by rw [bA (CA (oo rfl (aT (bA rfl (bA rfl (bA (aT rfl ln) rfl))) Z) K) (oo rfl (aT (bA rfl (bA rfl (bA rfl rfl))) Y) ex) rfl) rfl];rfl)) (Il E [(c,x,3)] (by rw [QH];lia)))) ?_
 have T:hX (.int ((N.1:Nat):Int)) (.int ((a.1:Nat):Int))=some (.bool false):=by
  show some (Zb (decide (((N.1:Nat):Int)<((a.1:Nat):Int))))=_
  rw [decide_eq_false (by lia)]
 refine aX (dS (oB (oo (oo (aT (bA rfl (bA rfl (bA (oo rfl rfl F) (bA (oo rfl rfl B) rfl)))) em) rfl rfl) rfl T))) ?_;have ep:=ND (u:=v0) 0 q0.p.w;refine cE (oo (aT (bA rfl (bA rfl (bA (oo rfl rfl F) (bA (oo rfl rfl B) rfl)))) e0) (iS rfl (aT (bA rfl (bA rfl (bA (oo rfl rfl F) (bA (oo rfl rfl B) rfl)))) eh)) ?_);rw [z1];exact ep
theorem main(ns:List Int)(m:ns.length<=63):mL [.list (ns.map J3)]=some (.bool true):=by
 obtain⟨w,h,W,I,w1,w4,S,h4⟩:=Nc ns m 0 4 (by decide) (by decide);have I:pA [dA ns,.int 0,.int 4]=some (bK w h W):=I
 have p:w<=5:=by lia
 have v:h<=5:=by lia
 have lo:=Fw (W:=W) p S v;have ol:=nI p v W;refine cL ?_;unfold x5
 show _=some (aP.rt (.bool true))
 rw [show eU 13 [Uq (ns.map J3)]=[.dat (dA ns),.no,.no,.no,.no,.no,.no,.no,.no,.no,.no,.no,.no]from rfl];refine aX (cQ (aT rfl I)) (aX (cQ (aT rfl lo)) ?_);have A:=IF (bF w h W) [];by_cases B:bF w h W=[]
 ·rw [decide_eq_true B]at A;exact pZ (iI (b:=true) (oB (oo rfl rfl A)) (fun _=>cE rfl) fun z=>by cases z)
 rw [decide_eq_false B]at A;refine aX (dS (oB (oo rfl rfl A))) ?_;obtain⟨E,eE,oE,H⟩:=OI p S v ns m B;refine aX (ρ':=ev ns w h W (bF w h W) E .no .no .no .no .no .no .no .no .no) (cQ (aT rfl eE)) ?_
 have Z:0<((bF w h W).length:Int):=by
  cases q:bF w h W with
  | nil=>exact absurd q B
  | cons a l=>rw [QE];lia
 have ln:dO [.list ((bF w h W).map aC)]=some (.int ((bF w h W).length:Int)):=by rw [nA,Qo]
 obtain⟨J,Y,X⟩:=jK ns m 72 ((bF w h W).length:Int) Z;obtain⟨j,N⟩:=yA Y X;generalize mR (bF w h W) (dr ns 72 ((bF w h W).length:Int)).toNat=one at j N;refine aX (ρ':=ev ns w h W (bF w h W) E (.own ((vis one []).map aC)) .no .no .no .no .no .no .no .no) ?_ ?_
 ·show((aB (aE aK (eV 2) (aJ dB (aB (eV 0) (aB (eC (.int 72)) (aB (aJ dO (aB (eV 2) aG)) aG))))) aG _).bind _)=_
  rw [bA (gr:=aG) (oo (ga:=eV 2) (gb:=aJ dB (aB (eV 0) (aB (eC (.int 72)) (aB (aJ dO (aB (eV 2) aG)) aG)))) rfl (aT (bA rfl (bA rfl (bA (aT rfl ln) rfl))) J) j) rfl];rfl
 obtain⟨n,R,en⟩:∃ n:Nat,n<=12/\aB (aJ Ag (aB (eC (.int 1)) (aB (aJ Ah (aB (eC (.int 12)) (aB (aJ dO (aB (eV 0) aG)) aG))) aG))) aG (ev ns w h W (bF w h W) E (.own ((vis one []).map aC)) .no .no .no .no .no .no .no .no)=some [.int (n:Int)]:=by
  have ls:dO [dA ns]=some (.int (ns.length:Int)):=by unfold dA;rw [nA,Qo]
  obtain⟨y,c⟩:∃ y:Int,y=if(ns.length:Int)<12 then(ns.length:Int)else 12:=⟨_,rfl⟩
  obtain⟨z,O⟩:∃ z:Int,z=if y > 1 then y else 1:=⟨_,rfl⟩
  have U:y<=12/\0<=y:=by rw [c];split <;> lia
  have T:z<=12/\0<=z:=by rw [O];split <;> lia
  refine⟨z.toNat,by lia,bA (aT (bA rfl (bA (aT (bA rfl (bA (aT rfl ls) rfl)) (show _=some (J3 y)from by rw [c];rfl)) rfl)) (show _=some (J3 ((z.toNat:Nat):Int))from ?_)) rfl⟩
  rw [show((z.toNat:Nat):Int)=z by lia,O];rfl
 obtain⟨ρ',ef,u,G,f,er,r,t,F⟩:=m7 (s:=bM 5) (g:=aO (nL 6 (aJ kD (aB (eV 1) (aB (aE aK (eV 4) (dJ dF (eC (.int 1)))) (aB (aE j6 (eC (.str "nesw")) (aJ dB (aB (eV 0) (aB (aE bP (eC (.int 80)) (eV 5)) (aB (eC (.int 4)) aG))))) aG))))) (cG (eB (aE rZ (eV 6) (eC .none))) (jF 4 (eV 6)) cR)) (fun(k:Nat)=>.int (k:Int))
  (fun e K=>BE (fun u G f=>ev ns w h W (bF w h W) E u G f .no .no .no .no .no .no) (bF w h W) one e.length K) (J5 n) (by
   rintro e k M o K ⟨u,G,f,rfl,r,t,F⟩
   have pl:e.length<=12:=by
    have:=congrArg U6 o
    rw [QX,Qm]at this;lia
   obtain⟨dk,k0,k1⟩:=jK ns m (80+(k:Int)) 4 (by decide);obtain⟨x,Q,ex⟩:=yE k0 k1;have lb:=Gj (w:=w) (h:=h) (W:=W) (a:=fin one u) Q;have af:=rX one u
   refine⟨(ev ns w h W (bF w h W) E (.own ((vis one u).map aC)) (.dat (.int (k:Int))) f .no .no .no .no .no .no),?_⟩
   have gb:aJ kD (aB (eV 1) (aB (aE aK (eV 4) (dJ dF (eC (.int 1)))) (aB (aE j6 (eC (.str "nesw")) (aJ dB (aB (eV 0) (aB (aE bP (eC (.int 80)) (eV 5)) (aB (eC (.int 4)) aG))))) aG))) (ev ns w h W (bF w h W) E (.dat (.list ((vis one u).map aC))) (.dat (.int (k:Int))) (frz f) .no .no .no .no .no .no)=some (if kS w h W (aH (fin one u) x)=true then aC (aH (fin one u) x)else .none):=
    aT (bA rfl (bA (oo rfl rfl af) (bA (oo rfl (aT (bA rfl (bA rfl (bA rfl rfl))) dk) ex) rfl))) lb
   cases ok:kS w h W (aH (fin one u) x)with
   | true=>
    rw [ok,if_pos rfl]at gb
    have nO:aH (fin one u) x∈bF w h W:=by
     unfold kS at ok;rw [QO,Y1]at ok;exact gC.mpr ok
    refine⟨(ev ns w h W (bF w h W) E (.own ((vis one (u++[x])).map aC)) (.dat (.int (k:Int))) (.dat (aC (aH (fin one u) x))) .no .no .no .no .no .no),rfl,aX (AZ gb rfl) (iI (b:=true) (oB (oo rfl rfl (Ka _))) (fun _=>?_) fun z=>by cases z),u++[x],_,_,rfl,fun y c=>?_,fun y c=>?_,?_⟩
    ·refine(sX (i:=4) (d:=aC (aH (fin one u) x)) rfl rfl (by rw [Qo,p8];lia)).trans ?_
     rw [show(vis one (u++[x])).map aC=(vis one u).map aC++[aC (aH (fin one u) x)]from by rw [nP,Yb];rfl];rfl
    ·rcases Qv.mp c with c | c
     ·exact r y c
     ·rw [Qd.mp c];exact Q
    ·rw [nP]at c;rcases Qv.mp c with c | c
     ·exact t y c
     ·rw [Qd.mp c];exact nO
    ·rw [Qm,Qm];exact Nat.add_le_add_right F _
   | false=>
    rw [ok,if_neg Qx]at gb
    exact⟨_,rfl,aX (AZ gb rfl) (dS rfl),u,_,_,rfl,r,t,by rw [Qm];lia⟩) (J5 n) [] (ev ns w h W (bF w h W) E (.own ((vis one []).map aC)) .no .no .no .no .no .no .no .no) rfl ⟨[],.no,.no,rfl,fun _ z=>(nomatch z),fun y c=>by rw [Qd.mp c];exact N,Ql _⟩
 subst er;rw [QX]at F;exact aX (wL en (by lia) ef) (R6 p v ns m oE H r t (by lia))
end My
namespace My
open PySem.Spec PySem.SeqAt L2 CL DL SD ZL SL EL DC EX TX TB TX MN LM
theorem us1{p:List Value->Prop}{us:List Value}(h:us.length=1)(q:∀ a,p [a]):p us:=by
 rcases us with _ | ⟨a,_ | ⟨b,r⟩⟩
 ·cases h
 ·exact q a
 ·simp at h
theorem us2{p:List Value->Prop}{us:List Value}(h:us.length=2)(q:∀ a b,p [a,b]):p us:=by
 rcases us with _ | ⟨a,r⟩
 ·cases h
 ·exact us1 (p:=fun r=>p (a::r)) (us:=r) (by simpa using h) fun b=>q a b
theorem CN{p:List Value->Prop}{us:List Value}(h:us.length=3)(q:∀ a b c,p [a,b,c]):p us:=by
 rcases us with _ | ⟨a,r⟩
 ·cases h
 ·exact us2 (p:=fun r=>p (a::r)) (us:=r) (by simpa using h) fun b c=>q a b c
theorem Mp{p:List Value->Prop}{us:List Value}(h:us.length=4)(q:∀ a b c d,p [a,b,c,d]):p us:=by
 rcases us with _ | ⟨a,r⟩
 ·cases h
 ·exact CN (p:=fun r=>p (a::r)) (us:=r) (by simpa using h) fun b c d=>q a b c d
theorem all_mk(main:∀ ns:List Int,ns.length<=63->mL [.list (ns.map J3)]=some (.bool true)){l:PySem.W.OpenLaw}{w:J4}{K:PySem.W.Frag}{mg:Str->Option Value}{fa:JY}(a6:mg "law"=some (.ref fa))(T:∃ a d ta tc,xX K mg a d w ta tc):
  (∃ tc,PySem.W.codeHdIn K tc iC=true)/\∃ fd:Zu,(∀(s:YP) (v:Value),BindsTo s fd ⟨[v],[]⟩ [("_law_script",v)])/\∀ base:Heap,K.In base->base.Ns Za mg->Bm mg base->aQ l.prog w K mg base aR 11 fa fd ["_law_script"] (tE K mL iC lZ):=by
 obtain⟨a,d,ta,tc,T⟩:=T;have e:=T.F_p4.m.symm.trans a6;cases e;obtain⟨oc,od,kV,a8,pm,an,a9,ct,a7,e,_⟩:=T.F_p4.F.ex
 refine⟨⟨tc,T.cdh⟩,d 40,fun s v=>by rw [e];exact .of_eq rfl,fun base hK _ hB=>?_⟩
 have x:=KQ (P:=l.prog) (w:=w) (base:=base) T;have G:=KH (P:=l.prog) (w:=w) (base:=base) T;have f:=Kf (P:=l.prog) (w:=w) (base:=base) T;have r:=KT (P:=l.prog) (w:=w) (base:=base) T;have a0:=Kl (P:=l.prog) (w:=w) (base:=base) T;have Y:=Kn (P:=l.prog) (w:=w) (base:=base) T;have h:=Ke (P:=l.prog) (w:=w) (base:=base) T;have H:=KF (P:=l.prog) (w:=w) (base:=base) T;have R:=Ks (P:=l.prog) (w:=w) (base:=base) T;have q:=KU (P:=l.prog) (w:=w) (base:=base) T;have a2:=Ki (P:=l.prog) (w:=w) (base:=base) T x;have b:=Kv (P:=l.prog) (w:=w) (base:=base) T G;have i:=KO (P:=l.prog) (w:=w) (base:=base) T r a0;have O:=Kw (P:=l.prog) (w:=w) (base:=base) T h;have n:=Kt (P:=l.prog) (w:=w) (base:=base) T h;have t:=KS (P:=l.prog) (w:=w) (base:=base) T h;have g:=KA (P:=l.prog) (w:=w) (base:=base) T H;have j:=KI (P:=l.prog) (w:=w) (base:=base) T R;have U:=Kq (P:=l.prog) (w:=w) (base:=base) T q;have a4:=Kd (P:=l.prog) (w:=w) (base:=base) T a2;have a1:=Kk (P:=l.prog) (w:=w) (base:=base) T i;have I:=KC (P:=l.prog) (w:=w) (base:=base) T n;have z:=KN (P:=l.prog) (w:=w) (base:=base) T O;have y:=KP (P:=l.prog) (w:=w) (base:=base) T n hK hB;have N:=Ky (P:=l.prog) (w:=w) (base:=base) T g;have E:=KJ (P:=l.prog) (w:=w) (base:=base) T j g;have p:=Kh (P:=l.prog) (w:=w) (base:=base) T a4;have J:=KB (P:=l.prog) (w:=w) (base:=base) T a1 t Y;have u:=KR (P:=l.prog) (w:=w) (base:=base) T p;have k:=Kx (P:=l.prog) (w:=w) (base:=base) T J;have c:=Kj (P:=l.prog) (w:=w) (base:=base) T u;have Z:=Km (P:=l.prog) (w:=w) (base:=base) T f b k;have A:=KM (P:=l.prog) (w:=w) (base:=base) T c f b i;have o:=Ko (P:=l.prog) (w:=w) (base:=base) T c;have S:=Kr (P:=l.prog) (w:=w) (base:=base) T A b;have a5:=Kc (P:=l.prog) (w:=w) (base:=base) T o p k f;have B:=KL (P:=l.prog) (w:=w) (base:=base) T c o z Z y hK hB;have X:=Kp (P:=l.prog) (w:=w) (base:=base) T S;have Q:=Ku (P:=l.prog) (w:=w) (base:=base) T a5;have M:=Kz (P:=l.prog) (w:=w) (base:=base) T c f I X b;have a3:=Kg (P:=l.prog) (w:=w) (base:=base) T N j E B U g Q M hK hB;exact OB a3 main
theorem fo1{K:PySem.W.Frag}{h:Heap}{mg:Str->Option Value}{n:Str}{b:Zj}{g:List Str}{f:JY}{od m:Option JY}{o:Array (Option Value)}{q kV j i d ct:Value}(X:K.In h)(G:h.Ns Za mg)(s:g.length=1)(t:∀ x0,Z8 (PySem.W.fnOf n n (gZ b) (fM b) (bB b) .none kV j i m d ct) ⟨[x0],[]⟩=pure (UQ g [x0]))
  (a:PySem.W.nsIn K Za n=some (some (.ref f))) (l:K.lookup f=some ⟨q,od,.func (PySem.W.fnOf n n (gZ b) (fM b) (bB b) .none kV j i m d ct),o⟩) (c:PySem.W.codeIn K d n=true) (k:PySem.W.keepIn K (.ref f)=true):Fo K mg n b g f (PySem.W.fnOf n n (gZ b) (fM b) (bB b) .none kV j i m d ct):=
 ⟨vU l c k,PySem.W.mg_of X G a,.all fun e r=>us1 (p:=fun e=>Z8 _ ⟨e,[]⟩=pure (UQ _ e)) (r.trans s) t⟩
theorem fo2{K:PySem.W.Frag}{h:Heap}{mg:Str->Option Value}{n:Str}{b:Zj}{g:List Str}{f:JY}{od m:Option JY}{o:Array (Option Value)}{q kV j i d ct:Value}(X:K.In h)(G:h.Ns Za mg)(s:g.length=2)(t:∀ x0 x1,Z8 (PySem.W.fnOf n n (gZ b) (fM b) (bB b) .none kV j i m d ct) ⟨[x0,x1],[]⟩=pure (UQ g [x0,x1]))
  (a:PySem.W.nsIn K Za n=some (some (.ref f))) (l:K.lookup f=some ⟨q,od,.func (PySem.W.fnOf n n (gZ b) (fM b) (bB b) .none kV j i m d ct),o⟩) (c:PySem.W.codeIn K d n=true) (k:PySem.W.keepIn K (.ref f)=true):Fo K mg n b g f (PySem.W.fnOf n n (gZ b) (fM b) (bB b) .none kV j i m d ct):=
 ⟨vU l c k,PySem.W.mg_of X G a,.all fun e r=>us2 (p:=fun e=>Z8 _ ⟨e,[]⟩=pure (UQ _ e)) (r.trans s) t⟩
theorem fo3{K:PySem.W.Frag}{h:Heap}{mg:Str->Option Value}{n:Str}{b:Zj}{g:List Str}{f:JY}{od m:Option JY}{o:Array (Option Value)}{q kV j i d ct:Value}(X:K.In h)(G:h.Ns Za mg)(s:g.length=3)(t:∀ x0 x1 x2,Z8 (PySem.W.fnOf n n (gZ b) (fM b) (bB b) .none kV j i m d ct) ⟨[x0,x1,x2],[]⟩=pure (UQ g [x0,x1,x2]))
  (a:PySem.W.nsIn K Za n=some (some (.ref f))) (l:K.lookup f=some ⟨q,od,.func (PySem.W.fnOf n n (gZ b) (fM b) (bB b) .none kV j i m d ct),o⟩) (c:PySem.W.codeIn K d n=true) (k:PySem.W.keepIn K (.ref f)=true):Fo K mg n b g f (PySem.W.fnOf n n (gZ b) (fM b) (bB b) .none kV j i m d ct):=
 ⟨vU l c k,PySem.W.mg_of X G a,.all fun e r=>CN (p:=fun e=>Z8 _ ⟨e,[]⟩=pure (UQ _ e)) (r.trans s) t⟩
theorem fo4{K:PySem.W.Frag}{h:Heap}{mg:Str->Option Value}{n:Str}{b:Zj}{g:List Str}{f:JY}{od m:Option JY}{o:Array (Option Value)}{q kV j i d ct:Value}(X:K.In h)(G:h.Ns Za mg)(s:g.length=4)(t:∀ x0 x1 x2 x3,Z8 (PySem.W.fnOf n n (gZ b) (fM b) (bB b) .none kV j i m d ct) ⟨[x0,x1,x2,x3],[]⟩=pure (UQ g [x0,x1,x2,x3]))
  (a:PySem.W.nsIn K Za n=some (some (.ref f))) (l:K.lookup f=some ⟨q,od,.func (PySem.W.fnOf n n (gZ b) (fM b) (bB b) .none kV j i m d ct),o⟩) (c:PySem.W.codeIn K d n=true) (k:PySem.W.keepIn K (.ref f)=true):Fo K mg n b g f (PySem.W.fnOf n n (gZ b) (fM b) (bB b) .none kV j i m d ct):=
 ⟨vU l c k,PySem.W.mg_of X G a,.all fun e r=>Mp (p:=fun e=>Z8 _ ⟨e,[]⟩=pure (UQ _ e)) (r.trans s) t⟩
def cn{a:Type}(x:a)(f:Nat->a):Nat->a
 | 0=>x
 | n+1=>f n
theorem tab_STEPS{K:PySem.W.Frag}{h:Heap}{mg:Str->Option Value}{w:J4}{j a4:Nat}{i:Int}{N:Tok}{d Z:Nat}{a3:Option JY}{S:Array (Option Value)}{r:Tok}{q:Tok}{g:Int}{M:Tok}{c Y:Nat}{a2:Option JY}{R:Array (Option Value)}{p:Tok}{o:Tok}{f:Int}{J:Tok}{b U:Nat}{a1:Option JY}{Q:Array (Option Value)}{n:Tok}{m:Tok}{e:Int}{I:Tok}{a T:Nat}{a0:Option JY}{O:Array (Option Value)}{l:Tok}{k:Tok}(X:K.In h)(G:h.Ns Za mg)(a6:PySem.W.nsIn K Za "STEPS"=some (some (.ref j)))(a5:K.lookup j=some ⟨.type "dict",none,.dict #[⟨i,.str "n" N,.ref d⟩,⟨g,.str "e" M,.ref c⟩,⟨f,.str "s" J,.ref b⟩,⟨e,.str "w" I,.ref a⟩] a4,#[]⟩)(E:K.lookup d=some ⟨.type "tuple",a3,.seq #[.int 0 r,.int (-1) q] Z,S⟩)(y:i=PySem.hashStr w "n")(B:K.lookup c=some ⟨.type "tuple",a2,.seq #[.int 1 p,.int 0 o] Y,R⟩)(u:g=PySem.hashStr w "e")(A:K.lookup b=some ⟨.type "tuple",a1,.seq #[.int 0 n,.int 1 m] U,Q⟩)(t:f=PySem.hashStr w "s")(z:K.lookup a=some ⟨.type "tuple",a0,.seq #[.int (-1) l,.int 0 k] T,O⟩)(s:e=PySem.hashStr w "w")(a7:(j == Zg)=false):∃ x,mg "STEPS"=some (.ref x)/\oA K w x i4/\(x == Zg)=false:=⟨_,PySem.W.mg_of X G a6,⟨_,_,a5,(hU.cons (v:=.ref d) y rfl (fun F H=>aV.tup (vs:=[.int 0,.int (-1)]) (.inr ⟨_,_,_,E,rfl,rfl,gE (show 2<=1000 by decide),(.cons ⟨_,rfl⟩ (.cons ⟨_,rfl⟩ .nil))⟩) (.cons (.int _) (.cons (.int _) .nil))) (hU.cons (v:=.ref c) u rfl (fun F H=>aV.tup (vs:=[.int 1,.int 0]) (.inr ⟨_,_,_,B,rfl,rfl,gE (show 2<=1000 by decide),(.cons ⟨_,rfl⟩ (.cons ⟨_,rfl⟩ .nil))⟩) (.cons (.int _) (.cons (.int _) .nil))) (hU.cons (v:=.ref b) t rfl (fun F H=>aV.tup (vs:=[.int 0,.int 1]) (.inr ⟨_,_,_,A,rfl,rfl,gE (show 2<=1000 by decide),(.cons ⟨_,rfl⟩ (.cons ⟨_,rfl⟩ .nil))⟩) (.cons (.int _) (.cons (.int _) .nil))) (hU.cons (v:=.ref a) s rfl (fun F H=>aV.tup (vs:=[.int (-1),.int 0]) (.inr ⟨_,_,_,z,rfl,rfl,gE (show 2<=1000 by decide),(.cons ⟨_,rfl⟩ (.cons ⟨_,rfl⟩ .nil))⟩) (.cons (.int _) (.cons (.int _) .nil))) hU.nil))))⟩,a7⟩
theorem mk_txt{K:PySem.W.Frag}{mg:Str->Option Value}{w:J4}{f0 f1 f2 f3 f4 f5 f6 f7 f8 f9 N M J I H G F E B A z y v u t s r q p o n m l k j i h g f e c:JY}{d0 d1 d2 d3 d4 d5 d6 d7 d8 d9 c0 b9 b8 b7 b6 b5 b4 b3 b2 b1 b0 a9 a8 b a7 a6 a5 a4 a3 a2 a1 a0 Z Y X U T S R Q O:Zu}(F0:Fo K mg "is_whole" y9 ["thing"] f0 d0)(F1:Fo K mg "all_cells" uL ["floor"] f1 d1)(F2:Fo K mg "marked" uA ["things"] f2 d2)(F3:Fo K mg "crossed" zC ["one","other"] f3 d3)(F4:Fo K mg "couples_beside" yS ["cells"] f4 d4)(F5:Fo K mg "square_apart" yT ["one","other"] f5 d5)(F6:Fo K mg "beside" yM ["cell","word"] f6 d6)(F7:Fo K mg "_law_cell" y3 ["_law_script","_law_k"] f7 d7)(F8:Fo K mg "_law_cells" uE ["_law_floor_here"] f8 d8)(F9:Fo K mg "_law_at" zD ["_law_cell_here","_law_step"] f9 d9)(h9:Fo K mg "is_whole_couple" yP ["thing"] N c0)(h8:Fo K mg "open_cells" yW ["floor"] M b9)(h7:Fo K mg "lets_see" y8 ["solids","one","other"] J b8)(h6:Fo K mg "all_beside" uH ["cell"] I b7)(h5:Fo K mg "steps_over" uF ["ground","cell"] H b6)(h4:Fo K mg "is_ahead" zB ["eye","cell"] G b5)(h3:Fo K mg "_law_drawn" yX ["_law_script","_law_k","_law_many"] F b4)(h2:Fo K mg "_law_open" uM ["_law_floor_here"] E b3)(h1:Fo K mg "_law_beside" yV ["_law_floor_here","_law_cell_here","_law_word"] B b2)(h0:Fo K mg "is_cell" yL ["floor","thing"] A b1)(g9:Fo K mg "see_each_other" yR ["solids","one","other"] z b0)(g8:Fo K mg "ways_over" yZ ["ground","start"] y a9)(g7:Fo K mg "loads_to" uO ["times","goal"] v a8)(g6:Fo K mg "way_down" uP ["loads","one","other"] u b)(g5:Fo K mg "_law_floor" uJ ["_law_script","_law_at_here","_law_most"] t a7)(g4:Fo K mg "_law_eyes" y4 ["_law_script","_law_at_here","_law_floor_here"] s a6)(g3:Fo K mg "refuse_off_floor" yO ["floor","cell"] r a5)(g2:Fo K mg "does_spot" yY ["solids","eye","cell"] q a4)(g1:Fo K mg "is_solid" zA ["floor","cell"] p a3)(g0:Fo K mg "numbers_on" uI ["solids","eyes","cell"] o a2)(e9:Fo K mg "refuse_not_open" yQ ["floor","cell"] n a1)(e8:Fo K mg "times_spotted" uB ["floor","eyes"] m a0)(e7:Fo K mg "field_of" uN ["floor","cell"] l Z)(e6:Fo K mg "refuse_eyes" yU ["floor","eyes"] k Y)(e5:Fo K mg "times_seen" uD ["floor","cells"] j X)(e4:Fo K mg "eyes_on" yK ["floor","eyes","cell"] i U)(e3:Fo K mg "quiet_way" y7 ["floor","eyes","one","other"] h T)(e2:Fo K mg "seen_by_any" uC ["floor","cells"] g S)(e1:Fo K mg "_law_often" uG ["_law_floor_here","_law_eyes_here","_law_cells_here"] f R)(e0:Fo K mg "hidden_way" uK ["floor","watchers","one","other"] e Q)(c9:Fo K mg "law" yN ["_law_script"] c O)(z0:mg "isinstance"=none)(z1:mg "int"=none)(z2:mg "bool"=none)(z3:mg "range"=none)(z4:mg "dict"=none)(z5:mg "abs"=none)(z6:mg "zip"=none)(z7:mg "sorted"=none)(z8:mg "tuple"=none)(z9:mg "len"=none)(c5:mg "set"=none)(c4:mg "min"=none)(c3:mg "enumerate"=none)(c2:mg "sum"=none)(c1:mg "max"=none)(t0:∃ x,mg "STEPS"=some (.ref x)/\oA K w x i4/\(x == Zg)=false){tc:JY}(c8:b.code=.ref tc)(c7:PySem.W.codeHdIn K tc iC=true):∃ a d ta tc,xX K mg a d w ta tc:=by
 obtain⟨x0,u0,v0,c6⟩:=t0
 exact⟨(cn f0 (cn f1 (cn f2 (cn f3 (cn f4 (cn f5 (cn f6 (cn f7 (cn f8 (cn f9 (cn N (cn M (cn J (cn I (cn H (cn G (cn F (cn E (cn B (cn A (cn z (cn y (cn v (cn u (cn t (cn s (cn r (cn q (cn p (cn o (cn n (cn m (cn l (cn k (cn j (cn i (cn h (cn g (cn f (cn e (fun _=>c))))))))))))))))))))))))))))))))))))))))),(cn d0 (cn d1 (cn d2 (cn d3 (cn d4 (cn d5 (cn d6 (cn d7 (cn d8 (cn d9 (cn c0 (cn b9 (cn b8 (cn b7 (cn b6 (cn b5 (cn b4 (cn b3 (cn b2 (cn b1 (cn b0 (cn a9 (cn a8 (cn b (cn a7 (cn a6 (cn a5 (cn a4 (cn a3 (cn a2 (cn a1 (cn a0 (cn Z (cn Y (cn X (cn U (cn T (cn S (cn R (cn Q (fun _=>O))))))))))))))))))))))))))))))))))))))))),(fun _=>x0),tc,F0,F1,F2,F3,F4,F5,F6,F7,F8,F9,h9,h8,h7,h6,h5,h4,h3,h2,h1,h0,g9,g8,g7,g6,g5,g4,g3,g2,g1,g0,e9,e8,e7,e6,e5,e4,e3,e2,e1,e0,c9,z0,z1,z2,z3,z4,z5,z6,z7,z8,z9,c5,c4,c3,c2,c1,u0,v0,c6,c8,c7⟩
theorem walk{l:PySem.W.OpenLaw}{q:J2}{a:List Str}{i:(Str->Option Value)->Heap->Prop}{c:J4->Heap->Prop}{d:DefRec}{K:Params->PySem.W.Frag}(e:l.most=some 63)(b:d.params.defaults=[])
  (g:∀(w:J4) (h:Heap),c w h->(K w.params).In h/\h.get? iC=some (PySem.W.tabObj #[]))
  (F:∀(w:J4) (mg:Str->Option Value) (fa:JY) (h:Heap),(K w.params).In h->h.Ns Za mg->mg d.name=some (.ref fa)->
   (K w.params).lookup iC=none/\(∃ tc,PySem.W.codeHdIn (K w.params) tc iC=true)/\∃ fd:Zu,(∀(s:YP) (u:Value),BindsTo s fd ⟨[u],[]⟩ [("_law_script",u)])/\∀ base:Heap,(K w.params).In base->base.Ns Za mg->Bm mg base->aQ l.prog w (K w.params) mg base aR 11 fa fd ["_law_script"] (tE (K w.params) mL iC lZ)):
  PySem.W.WalkO q a i c l.row.toRowW d [] (fun f vs=>PySem.call f vs):=
 Tt (k:=11) (x:="_law_script") (G:=mL) (TP:=iC) (tp:=lZ) e b ⟨rfl,by decide,by decide,rfl⟩ g F
end My
open PySem.W
namespace PySem.W.Fast
def tw3174418740181429938:=0
def tw13555310416555389796:=0
def tw4894135000889379028:=0
def tw16283272421137947920:=0
def tw17342663205303977812:=0
def tw11472496776548586756:=0
def tw6477637636068047912:=0
def tw17223541053633811780:=0
def tw6732534760196754254:=0
def tw8801071690461296160:=0
def tw5561639344541425348:=0
def tw815265687867101645:=0
def tw8627813565122037691:=0
def tw13964197705372232938:=0
def tw15365625141293380264:=0
def tw15642276951536143199:=0
def tw485589240010993390:=0
def tw4636753338327657415:=0
def tw15715503111768998672:=0
def tw11798609278456856295:=0
def tw9275151337261747091:=0
def tw5521408008617871132:=0
def tw17944160161876649909:=0
def tw2447887530433201571:=0
def tw16860099833729525515:=0
def tw16230610455631542410:=0
def tw9365099221012261380:=0
def tw13046960554312109844:=0
def tw36287726850381346:=0
def tw15173327649896924168:=0
def tw17910401773577358668:=0
def tw1653407029617578511:=0
def tw17027850691263223382:=0
def tw14207158598757377299:=0
def tw6949863168751021174:=0
def tw1042278448428412588:=0
def tw14824087952033323921:=0
def tw8611494148850914338:=0
def tw14269951457269991009:=0
def tw16842286530171267907:=0
def tw1735448582784106856:=0
def tw8696716365356534490:=0
def tw4222614669518463988:=0
def tw12873899082245654067:=0
def tw4327581071944349888:=0
def tw634792914193955192:=0
def tw16452999885771213456:=0
def tw16730122196700116967:=0
def tw14779363077404160499:=0
def tw6727031079689546254:=0
def tw16576254555877599675:=0
def tw8817044008090000391:=0
def tw14262065247042532448:=0
def tw11548666463325795107:=0
def tw16856081794373130943:=0
def tw7633223193274113142:=0
def tw591686722118872235:=0
def tw15693449584791968395:=0
def tw13258195367163105036:=0
def tw13356744202362977127:=0
def tw18268608508258787731:=0
def tw12843700129270160634:=0
def tw1764286465831765399:=0
def tw906351430077850409:=0
def tw2075646909988716795:=0
def tw14330669120698670545:=0
def tw13923024831857390685:=0
def tw867550365637688976:=0
def tw11999580218122724429:=0
def tw13679529274290604748:=0
def tw13335723514629926725:=0
def tw4861520000756554960:=0
def tw14581345268550854599:=0
def tw16532558413693151027:=0
def tw209243659937456656:=0
def tw16184774412750074654:=0
def tw3052670660883241338:=0
def tw1303828593857460832:=0
def tw2695555797451769867:=0
def tw8269831440264427404:=0
def tw16265175242953530523:=0
def tw5369551469401631276:=0
def tw15122719734840383420:=0
def tw2181432668021234964:=0
def tw9029849216951905737:=0
def tw5478705723190751951:=0
def tw9621114564319501989:=0
def tw1670698505417204083:=0
def tw14044944827068824211:=0
def tw15614425238230715863:=0
def tw6001971947836129732:=0
def tw2152557117630930144:=0
def tw2131636848323938167:=0
def tw9435908356420054149:=0
def tw11725964182657634361:=0
def tw12477735382825610234:=0
def tw15103024935356192831:=0
def tw1951658174193086009:=0
def tw17667856316141619428:=0
def tw736765081056707998:=0
def tw6784901489138193656:=0
def tw6453540522972923781:=0
def tw13961458853827531222:=0
def tw18054698844195318191:=0
def tw13285094983966879253:=0
def tw750996844167786016:=0
def tw11763090515102550584:=0
def tw6703258325079750355:=0
def tw7881632688104047760:=0
def tw10908948570488934885:=0
def tw10462136703390903400:=0
def tw16806279238768508239:=0
def tw2548613899818553154:=0
def tw379914708130042911:=0
def tw10020650623459930187:=0
def tw11900669811267816101:=0
def tw14155158611615354691:=0
def tw12420746969327474553:=0
def tw18084620717795971708:=0
def tw11148934552218094275:=0
def tw16609414674172323709:=0
def tw3876796432397355272:=0
def tw12720370685011031980:=0
def tw626337021733142109:=0
def tw10789214210988809773:=0
def tw15034532771166244925:=0
def tw11242475855899448654:=0
def tw11468421238627816537:=0
def tw3592467609279010537:=0
def tw11037462529640727775:=0
def tw4411255963081631588:=0
def tw10708371240284062975:=0
def tw12418648186488018224:=0
def tw5223259317307114973:=0
def tw9251133822798887427:=0
def tw1685172909741501646:=0
def tw7177494579623888171:=0
def tw8620335939636160287:=0
def tw2700766901306625778:=0
def tw16893266075861015763:=0
def tw16754062921791761322:=0
def tw16115966985300769297:=0
def tw18360220358349966253:=0
def tw7751086808188064718:=0
def tw1450096852873502381:=0
def tw11090806518059713642:=0
def tw15481878052048342041:=0
def tw36707470036051141:=0
def tw9937803337701691296:=0
def tw13384767613218705251:=0
def tw15078993130676552646:=0
def tw9289960550238624773:=0
def tw15263898969921462398:=0
def tw8119130068724006487:=0
def tw18134234231508499193:=0
def tw17004663294239198216:=0
def tw6307742737668484771:=0
def tw8738916263718559887:=0
def tw12070477918426145675:=0
def tw4197382265686627910:=0
def tw14755060523013953120:=0
def tw680127981196394975:=0
def tw15947056665772971012:=0
def tw1485297824081176639:=0
def tw881402103342825619:=0
def tw17667186969462394716:=0
def tw1017055812311996888:=0
def tw13773526005529503777:=0
def tw11647366207016873657:=0
def tw14416018517042237619:=0
def tw8870165220876910286:=0
def tw4743977737773070296:=0
def tw15725930074707368548:=0
def tw4862625723871281748:=0
def tw5749826596964982876:=0
def tw860323800754484418:=0
def tw13779276472181304817:=0
def tw16513622083970714638:=0
def tw5168289493258114648:=0
def tw16485194267486530156:=0
def tw5932873849156169364:=0
def tw5840781820171955525:=0
def tw11121112983776367449:=0
def tw7129992350053412305:=0
def tw9965829867793718085:=0
def tw12239275922203199569:=0
def tw1237850372318323589:=0
def tw7846229739162982236:=0
def tw11633328930932315121:=0
def tw6620491966719478841:=0
def tw2600912968438882727:=0
def tw9848536774437038284:=0
def tw10716748918135984269:=0
def tw5850406599633915830:=0
def tw11362942769818937923:=0
def tw3873416215653129682:=0
def tw13584941661082412738:=0
def tw9655062591424253317:=0
def tw16378629697717342660:=0
def tw5191225745847657020:=0
def tw3772819179971566377:=0
def tw10625841791840039381:=0
def tw12161695937590936005:=0
def tw15464780435978582346:=0
def tw5716544018684317048:=0
def tw9194795267182065853:=0
def tw3176285056617432576:=0
def tw4369961325307311762:=0
def tw17116108474585614681:=0
def tw15639415565466518585:=0
def tw6902481877355117166:=0
def tw1691248370042814632:=0
def tw13948545297296797459:=0
def tw10919950965326634559:=0
def tw18207479077714501820:=0
def tw3635457541179613208:=0
def tw8380210633230895351:=0
def tw10878690807047816987:=0
def tw16224299925370854464:=0
def tw9658050235691605468:=0
def tw12322206172744590288:=0
def tw5459167388075882676:=0
def tw22963626529837869:=0
def tw14939410114254327731:=0
def tw17374814035196413267:=0
def tw3474561990957604307:=0
def tw4541230795629940987:=0
def tw4094606017322762893:=0
def tw9483395332704241774:=0
def tw11761600802246820094:=0
def tw15286459396391668270:=0
def tw4581334586873077542:=0
def tw8296149061553558246:=0
def tw1651559163174460662:=0
def tw7712861269049944428:=0
def tw11961490181232879678:=0
def tw17747080572549837065:=0
def tw6121437706815896326:=0
def tw10490358360530437051:=0
def tw15321351246022121996:=0
def tw15935569366545145757:=0
def tw6474273063640636445:=0
def tw15163666734484220892:=0
def tw13283998608814441082:=0
def tw16065305911779153781:=0
def tw3009460005276585924:=0
def tw11767465624391998812:=0
def tw1119609119757189537:=0
def tw5631349198855624752:=0
def tw16329038086507807257:=0
def tw8979538599732452150:=0
def tw7205174076816762474:=0
def tw16153309811804529600:=0
def tw4710045146046747890:=0
def tw17121616665575213746:=0
def tw15636564259562146778:=0
def tw580587303954658356:=0
def tw9647530337946081240:=0
def tw6416819468839595418:=0
def tw7117507170868203279:=0
def tw8748996449533732109:=0
def tw15729125806987858060:=0
def tw7434290114081010957:=0
def tw5918175292699939570:=0
def tw14868801119606431297:=0
def tw10307263205334924722:=0
def tw15362986042921669926:=0
def tw9123936557034030148:=0
def tw5743865221286971466:=0
def tw9694186946325061497:=0
def tw10636091384467292240:=0
def tw6688735853171119645:=0
def tw13924805787794141301:=0
def tw2464805726856852755:=0
def tw9871055406777212423:=0
def tw18267511456769475604:=0
def tw15601610042740484389:=0
def tw15326068386266397013:=0
def tw1553740890992423070:=0
def tw16406754739379517989:=0
def tw3755980643230483272:=0
def tw3337216133578754361:=0
def tw12764104958860082372:=0
def tw3267128561926171390:=0
def tw4827263838914195342:=0
def tw16377075149182957358:=0
def tw5778371241603303372:=0
def tw10788631978689765847:=0
def tw17528658511974097162:=0
def tw2549952679320097615:=0
def tw10074423996504236380:=0
def tw3583042375578666181:=0
def tw9085275070061982976:=0
def tw9752614623872517398:=0
def tw13682026737742654402:=0
def tw16227312991298489105:=0
def tw13265235340639772473:=0
def tw693859319598406675:=0
def tw12684639871163617357:=0
def tw16185531343649749033:=0
def tw16152579212471991077:=0
def tw6578500027029595789:=0
def tw3877535621554304117:=0
def tw2228821149097618370:=0
def tw5628355841321405156:=0
def tw12782847282383598183:=0
def tw6780894970779397669:=0
def tw1334778819344228981:=0
def tw15557052436352784493:=0
def tw15175167615480722870:=0
def tw13711673926353887623:=0
def tw10956425355341975931:=0
def tw2626247159877279818:=0
def tw4410452999204789973:=0
def tw1774408609047416571:=0
def tw901226688368334631:=0
end PySem.W.Fast
set_option maxRecDepth 100000 in
set_option maxHeartbeats 0 in
theorem PySem.Challenge.cw_lampfloor_k83_whole_quiet_holds : PySem.Challenge.rw_lampfloor_k83_whole_quiet.Holds := by
 w_on;o_law;km_head;(case hw=>w_witness2)
 k_fill
 refine My.walk (l:=PySem.Challenge.rw_lampfloor_k83_whole_quiet) rfl rfl (fun w h Y=>⟨Y.1,Y.2 251 (List.Mem.head _)⟩) ?F
 case F=>
  intro w mg fa h KX G hmg
  refine⟨?n0,?_⟩
  (case n0=>rfl)
  refine' My.all_mk My.main hmg (My.mk_txt (My.fo1 KX G rfl (fun _=>rfl) ?_ ?_ ?_ ?_) (My.fo1 KX G rfl (fun _=>rfl) ?_ ?_ ?_ ?_) (My.fo1 KX G rfl (fun _=>rfl) ?_ ?_ ?_ ?_) (My.fo2 KX G rfl (fun _ _=>rfl) ?_ ?_ ?_ ?_) (My.fo1 KX G rfl (fun _=>rfl) ?_ ?_ ?_ ?_) (My.fo2 KX G rfl (fun _ _=>rfl) ?_ ?_ ?_ ?_) (My.fo2 KX G rfl (fun _ _=>rfl) ?_ ?_ ?_ ?_) (My.fo2 KX G rfl (fun _ _=>rfl) ?_ ?_ ?_ ?_) (My.fo1 KX G rfl (fun _=>rfl) ?_ ?_ ?_ ?_) (My.fo2 KX G rfl (fun _ _=>rfl) ?_ ?_ ?_ ?_) (My.fo1 KX G rfl (fun _=>rfl) ?_ ?_ ?_ ?_) (My.fo1 KX G rfl (fun _=>rfl) ?_ ?_ ?_ ?_) (My.fo3 KX G rfl (fun _ _ _=>rfl) ?_ ?_ ?_ ?_) (My.fo1 KX G rfl (fun _=>rfl) ?_ ?_ ?_ ?_) (My.fo2 KX G rfl (fun _ _=>rfl) ?_ ?_ ?_ ?_) (My.fo2 KX G rfl (fun _ _=>rfl) ?_ ?_ ?_ ?_) (My.fo3 KX G rfl (fun _ _ _=>rfl) ?_ ?_ ?_ ?_) (My.fo1 KX G rfl (fun _=>rfl) ?_ ?_ ?_ ?_) (My.fo3 KX G rfl (fun _ _ _=>rfl) ?_ ?_ ?_ ?_) (My.fo2 KX G rfl (fun _ _=>rfl) ?_ ?_ ?_ ?_) (My.fo3 KX G rfl (fun _ _ _=>rfl) ?_ ?_ ?_ ?_) (My.fo2 KX G rfl (fun _ _=>rfl) ?_ ?_ ?_ ?_) (My.fo2 KX G rfl (fun _ _=>rfl) ?_ ?_ ?_ ?_) (My.fo3 KX G rfl (fun _ _ _=>rfl) ?_ ?_ ?_ ?_) (My.fo3 KX G rfl (fun _ _ _=>rfl) ?_ ?_ ?_ ?_) (My.fo3 KX G rfl (fun _ _ _=>rfl) ?_ ?_ ?_ ?_) (My.fo2 KX G rfl (fun _ _=>rfl) ?_ ?_ ?_ ?_) (My.fo3 KX G rfl (fun _ _ _=>rfl) ?_ ?_ ?_ ?_) (My.fo2 KX G rfl (fun _ _=>rfl) ?_ ?_ ?_ ?_) (My.fo3 KX G rfl (fun _ _ _=>rfl) ?_ ?_ ?_ ?_) (My.fo2 KX G rfl (fun _ _=>rfl) ?_ ?_ ?_ ?_) (My.fo2 KX G rfl (fun _ _=>rfl) ?_ ?_ ?_ ?_) (My.fo2 KX G rfl (fun _ _=>rfl) ?_ ?_ ?_ ?_) (My.fo2 KX G rfl (fun _ _=>rfl) ?_ ?_ ?_ ?_) (My.fo2 KX G rfl (fun _ _=>rfl) ?_ ?_ ?_ ?_) (My.fo3 KX G rfl (fun _ _ _=>rfl) ?_ ?_ ?_ ?_) (My.fo4 KX G rfl (fun _ _ _ _=>rfl) ?_ ?_ ?_ ?_) (My.fo2 KX G rfl (fun _ _=>rfl) ?_ ?_ ?_ ?_) (My.fo3 KX G rfl (fun _ _ _=>rfl) ?_ ?_ ?_ ?_) (My.fo4 KX G rfl (fun _ _ _ _=>rfl) ?_ ?_ ?_ ?_) (My.fo1 KX G rfl (fun _=>rfl) ?_ ?_ ?_ ?_) (mg_none_of KX G ?_) (mg_none_of KX G ?_) (mg_none_of KX G ?_) (mg_none_of KX G ?_) (mg_none_of KX G ?_) (mg_none_of KX G ?_) (mg_none_of KX G ?_) (mg_none_of KX G ?_) (mg_none_of KX G ?_) (mg_none_of KX G ?_) (mg_none_of KX G ?_) (mg_none_of KX G ?_) (mg_none_of KX G ?_) (mg_none_of KX G ?_) (mg_none_of KX G ?_) (My.tab_STEPS KX G ?_ ?_ ?_ ?_ ?_ ?_ ?_ ?_ ?_ ?_ ?_) ?_ ?_)
  any_goals k_is
  any_goals rfl
  all_goals k_is
