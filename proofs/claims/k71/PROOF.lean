import PyProof.Rows.All
import Wide.All
import OpenK.AllK
import Wide.FinOn
import PySem.Challenge.RW_lampfloor_k71_whole_walker
noncomputable section
open PySem renaming wpAny_bind->Qa,wpAny_pure->Qb,wpAny_setState_of->QS,sizeLine_eq->QW,wpAny_holding->Q6,wpAny_call_entry->Yi,wpAny_newObj_type->Yj,wpAny_callSpecial?_slot->YG,wpAny_Call_Name_kw->YM,wpAny_typeOf->YO,wpAny_setField->YR,wpAny_typeNameOfWhole_keyiter->YS,wpAny_dictEntries->YU,wpAny_getItem_str_slice->YV,wpAny_mono->YW,codeAny_mono->Y1,wpAny_forIn_list->Y3,wpAny_passesOwn->Ja,codeAny_builtin->Jc,wpAny_truthy_bool->Jd,wpAny_field->Jg,wpAny_storeSet_of->Jh,putSet_of->Jm,wpAny_isInstance->Jo,wpAny_execs_nil->Jw,wpAny_specialOf->Jx,wpAny_setEntries_of->JJ,wpAny_dictEpoch->JP,post_val_or_str->JQ,typeIs_str->JR
open Option renaming bind_some->Qc
open List renaming length_map->Qd,getElem?_eq_some_iff->Qe,mem_cons_of_mem->Qg,mem_cons_self->Qh,getElem?_eq_getElem->Qi,map_cons->Qk,mem_cons->Ql,length_append->Qm,length_cons->Qo,getElem?_set_ne->Qq,append_assoc->Qw,getElem?_set_self->Qx,mem_singleton->Qy,mem_append_right->Qz,contains_iff_mem->QC,mem_of_getElem?->QD,mem_append->QE,append_nil->QG,getElem?_map->QH,size_toArray->QI,length_range->QM,mem_map->QO,mem_range->QP,lookup_cons->QQ,all_eq_true->QT,getElem?_append_left->QV,map_append->QX,getElem?_of_mem->QY,drop_eq_getElem_cons->Q0,length_take->Q2,map_map->Q3,length_filter_le->Q7,mem_filter->Q8,nodup_cons->Q9,pairwise_map->Yb,getElem?_append_right->Yc,length_drop->Ye,mem_append_left->Yf,pairwise_cons->Yg,take_append_drop->Yh,foldl_cons->Ym,length_singleton->Yo,getElem_mem->Ys,getElem?_zip_eq_some->Yw,nil_append->YD,getElem?_replicate->YF,drop_eq_nil_of_le->YH,getD_eq_getElem?_getD->YI,nodup_append->YJ,filterMap_cons->YK,find?_cons->YX,getElem?_drop->Y7,nodup_nil->Y8,filter_congr->Jk,all_eq_not_any_not->Jp,eq_nil_of_length_eq_zero->Jq,take_of_length_le->Jt,contains_cons->Ju,filter_filter->Jv,any_cons->Jy,getElem?_eq_none->Jz,getElem?_set->JC,not_mem_nil->JH,mem_map_of_mem->JI,length_nil->JM
open PySem.Heap renaming get?_push_of_some->Qf,lt_size->Qs,get?_push_size->Qu,get?_update_self->Q1,get?_update_other->Yk,size_push->YQ
open Nat renaming le_refl->Qj,le_trans->Qr,ne_of_lt->QB,lt_of_lt_of_le->QJ,zero_le->QR,le_of_not_lt->Ya,lt_of_le_of_lt->Yl,le_of_lt->Yr,le_add_right->Yt,mul_le_mul->YA,not_lt_zero->YC,le_of_lt_succ->YT,ne_of_gt->YZ,eq_or_lt_of_le->Y5,le_antisymm->Jb,lt_irrefl->Jl,lt_succ_self->JD,lt_or_ge->JE
open Bool renaming false_eq_true->Qp,false_ne_true->Qv,and_eq_true->QF,and_eq_true_iff->QN,not_true->Yy,true_and->Yz,eq_iff_iff->YE,not_eq_true'->JB,not_eq_true->JG,and_self->JL,or_eq_true->JO
open Array renaming length_toList->Qt,getElem?_eq_getElem->QK,getElem?_toList->QL,getElem?_eq_some_iff->Q5,getElem?_eq_none->Yu,size_map->Y6,toList_filterMap->Js
open Option.some renaming inj->QA
open PySem.SeqAt renaming canLay_of_shaped->QU
open PySem.Heap.SameBut renaming update->QZ,refl->JA
open PyProof.Rows renaming wpS_bind->Yd,wpS_pure->Yx,slot_tuple_getitem->YL,callWith_type1->Y0,pairsOf_size->JF,KK_mirror_equal->JN
open PySem.PassesOwn renaming never->Yn
open LawfulBEq renaming eq_of_beq->Yp
open PySem.Obj renaming data_mapFields->Yq,isFreed_of_fields->Y9
open Classical renaming byContradiction->Yv
open PyProof.Rows.KeyOrd renaming kle_refl->YB
open List.Nodup renaming length_le_of_subset->YN
open PySem.List renaming filterMap_getElem?_range_length->YY
open PySem.SetTable renaming insertAt_perm->Y2
open Int renaming natCast_nonneg->Y4,toNat_natCast->Je,ofNat_lt->Jj,emod_lt_of_pos->Jr,toNat_of_nonneg->JK
open Prod renaming ext->Jf
open PySem.Around renaming under_plainId->Ji
open PyProof.Rows.F renaming plain_set_update_loop->Jn
open PySem renaming Addr->YP,Value->JS,Shared->JT,starEach->JU,wpAny->JW,model->JX,Program->JY,World->J1,mainGlobals->J4,FuncData->J5,eval->Za,backTo->Zb,compareOp->Zf,cLine->Zg,Stmt->Zj,bootBuiltins->Zn,attributeBase->Zo,sysModules->Zp,foldedSetIterable->Zq,strIterType->Zv,binaryOp->Zy,keywordEach->Zz,swapsWith->ZC,assignEach->ZE,behindInMarks->ZH,Keyword->ZJ,DictEntry->ZM,backToKw->ZU,Scope->ZY,bindArgs->ZZ,rawInt->Z2,holding->Uh,codeAny->Ui,sliceBounds->Ur,wpAny_pyIter_list->Uz,isSubtype_type->UC,builtinLookup_eq_fast->UE,wpAny_notOrdered_dict->UF,getitemInPython_of_ne->UG,pyNext->UI,wpAny_rule->UK,wpAny_askSetting->UM,wpAny_attempt->UN,plainId_quiet->UO,NameKind->UQ,wpAny_letTemporaryGo->UT,letOwnedTupleGo->UU,wpAny_loadPart'->UW,getMethod->U2,call_meets->U4,wpAny_fieldsOf->U7,firstArgMember->U8,subscripted->Vc,wpAny_of_eq->Ve,GenState->Vg,IsPart->Vh,atKey->Vj
open And renaming intro->JV
open List renaming range->JZ,Perm->Zd,replicate->ZA,lookup->ZN,length->ZO,zip->Z5,getElem?_take_of_lt->Z9,filterMap_cons_some->Ud,zip_cons_cons->Ul,getElem?_take->Uo,take_sublist->Ut,drop_drop->UD,Nodup->UL,of_mem_zip->UV,drop_zero->U9
open PySem.PyData renaming int->J0,bool->J6,str->J8,depthAll->Zk,canLayAll0->Zl,list->ZD,tuple->ZG,eqv->ZR,eqvAll->Z1,canLay0->Z3,depth->UA,shownAll->UX
open PySem.Value renaming ref->J2,none->J9,type->ZW,isStrOf->Z8,isInt_shape->Us,int->U1,bool->U3
open PyProof.Rows renaming arrOf->J3,SortedToK->Zu,pendingOf->Z0,subscriptTail->Ua,IntsAre->Uu,wpS_forRange->Uv,seqObj->Ux,AllBare->UZ,room_in_shaped->U5,pairsOf->Vd,boot_sorted->Vf
open PySem.NameKind renaming free->J7,cell->Uc
open Or renaming inr->Zc,inl->Ze
open PySem.SetTable renaming sizeAbove->Zh,below->Zm,insertAt->Zs,runEnd->ZS,eraseAt->ZX,fits->Ue,fill->Uf,turns->Vi
open PySem.Heap renaming SameBut->Zi,get?_none_of_le->UP
open PySem.Str renaming ofString->Zr
open PySem.Obj renaming mapFields->Zt,putSet->ZB,mapSeq->Um,cls_mapFields->Uy
open PySem.SeqAt renaming shaped->Zw
open False renaming elim->Zx
open ForInStep renaming yield->ZF
open Ne renaming symm->ZI
open PySem.Builtin.Slice renaming slicePlaces->ZK,sliceAdjust->Z6
open List.Pairwise renaming nil->ZP
open PySem.Builtin.Tuple renaming tupleExact->ZQ
open PySem.Builtin.Frozenset renaming addrOf->ZT,isAnySet->Z4,sizeOf->Ug
open PySem.Builtin.Dict renaming updateFrom->ZV,showsAll->UH
open PySem.Builtin.Str renaming strKind->Z7
open PySem.Builtin.List renaming listTooLong->Ub
open Array renaming replicate->Uj,forIn_toList->Uq,getD->U6
open True renaming intro->Uk
open PyProof.Rows.KeyOrd renaming kle_of_klt->Uw,kle_trans->UJ
open Bool renaming not_false->UB
open PySem.Calls renaming evalArgs_plain->UR
open PySem.SetTable.probe renaming go->US
open Int renaming emod_nonneg->UY,toNat_lt->U0
set_option Elab.async false
set_option linter.all false
set_option maxRecDepth 100000
set_option maxHeartbeats 4000000
set_option compiler.extract_closed false
set_option genInjectivity false
set_option genSizeOf false
set_option genSizeOfSpec false
set_option bootstrap.genMatcherCode false
open PySem PyProof.Rows
noncomputable section
namespace L2
open PySem.Spec
abbrev gA:=Sum Int Str
def Hm:gA->JS->Bool
 | .inl k,v=>Value.isInt k v
 | .inr x,v=>Z8 x v
def MS(w:J1):gA->Int
 | .inl k=>hashInt k
 | .inr x=>hashStr w x
theorem lB:∀{k:gA}{v:JS},Hm k v=true->(∃ i t,k=Sum.inl i/\v=U1 i t) ∨ (∃ x t,k=Sum.inr x/\v=Value.str x t)
 | .inl i,v,h=>by
  obtain⟨t,e⟩:=Us (k:=i) (v:=v) h;exact .inl ⟨i,t,rfl,e⟩
 | .inr x,v,h=>by
  obtain⟨t,e⟩:=Value.isStrOf_shape (x:=x) (v:=v) h;exact .inr ⟨x,t,rfl,e⟩
theorem Sm(a b:Int):decide ((Sum.inl a:gA)=Sum.inl b)=(a == b):=by
 by_cases e:a=b
 ·subst e;simp
 ·have h:¬ (Sum.inl a:gA)=Sum.inl b:=fun q=>e (Sum.inl.inj q);rw [decide_eq_false h]
  exact(beq_eq_false_iff_ne.mpr e).symm
theorem Sq(a b:Str):decide ((Sum.inr a:gA)=Sum.inr b)=decide (a=b):=by
 by_cases e:a=b
 ·subst e;simp
 ·have h:¬ (Sum.inr a:gA)=Sum.inr b:=fun q=>e (Sum.inr.inj q);rw [decide_eq_false h,decide_eq_false e]
theorem Sn(a:Int)(b:Str):decide ((Sum.inl a:gA)=Sum.inr b)=false:=decide_eq_false (fun q=>nomatch q)
theorem So(a:Str)(b:Int):decide ((Sum.inr a:gA)=Sum.inl b)=false:=decide_eq_false (fun q=>nomatch q)
def GZ(prog:JY)(w:J1):PySem.KeyKind prog w gA where
 is:=Hm
 hash:=MS w
 inj:=fun v a b g d=>by
  rcases lB g with⟨i,t,rfl,rfl⟩ | ⟨x,t,rfl,rfl⟩
  ·rcases lB d with⟨j,u,rfl,e⟩ | ⟨y,u,rfl,e⟩
   ·injection e with e1 _;rw [e1]
   ·exact nomatch e
  ·rcases lB d with⟨j,u,rfl,e⟩ | ⟨y,u,rfl,e⟩
   ·exact nomatch e
   ·injection e with e1 _;rw [e1]
 byValue:=fun k v h=>by
  rcases lB h with⟨i,t,rfl,rfl⟩ | ⟨x,t,rfl,rfl⟩ <;> rfl
 pyHash:=fun c h=>by
  rcases lB c with⟨i,t,rfl,rfl⟩ | ⟨x,t,rfl,rfl⟩
  ·exact wpAny_pyHash_int h
  ·exact wpAny_pyHash_str h
 eqBool:=fun f c h=>by
  rcases lB f with⟨i,t,rfl,rfl⟩ | ⟨x,t,rfl,rfl⟩
  ·rcases lB c with⟨j,u,rfl,rfl⟩ | ⟨y,u,rfl,rfl⟩
   ·rw [Sm]at h;exact wpAny_eqBool_int h
   ·rw [Sn]at h;exact SeqAt.EqAt.int_str i t y u _ _ _ _ h
  ·rcases lB c with⟨j,u,rfl,rfl⟩ | ⟨y,u,rfl,rfl⟩
   ·rw [So]at h;exact SeqAt.EqAt.str_int x t j u _ _ _ _ h
   ·rw [Sq]at h;exact wpAny_eqBool_str h
 «strs»:=fun k x t v h=>by
  rcases lB h with⟨i,u,rfl,e⟩ | ⟨y,u,rfl,e⟩
  ·exact nomatch e
  ·injection e with e1 _
   subst e1
   cases v <;> rfl
inductive V where
 | non | bl (b:Bool) | int (i:Int) | str (x:Str) | byt (b:Array UInt8) | flt (b:UInt64) | ref (a:YP) | ty (n:String)
 deriving DecidableEq
def RelV:V->JS->Prop
 | .non,u=>u=J9
 | .bl b,u=>u=U3 b
 | .int i,u=>∃ t,u=U1 i t
 | .str x,u=>∃ t,u=Value.str x t
 | .byt b,u=>∃ t,u=Value.bytes b t
 | .flt b,u=>∃ t,u=Value.float b t
 | .ref a,u=>u=J2 a
 | .ty n,u=>u=ZW n
abbrev Vals:List V->List JS->Prop:=Paired RelV
theorem Vals.length{xs:List V}{us:List JS}(r:Vals xs us):xs.length=us.length:=Paired.length r
theorem Vals.get:∀{xs:List V}{us:List JS}{i:Nat}{x:V},Vals xs us->xs[i]?=some x->∃ u,us[i]?=some u/\RelV x u
 | _,_,_,_,.nil,e=>by simp at e
 | _,_,0,_,.cons r _,e=>by simp at e;subst e;exact⟨_,rfl,r⟩
 | _,_,i+1,x,.cons _ t,e=>by
  obtain⟨u,b,a⟩:=Vals.get (i:=i) (x:=x) t (by simpa using e)
  exact⟨u,by simpa using b,a⟩
theorem Vals.append:∀{xs ys:List V}{us ws:List JS},Vals xs us->Vals ys ws->Vals (xs++ys) (us++ws)
 | _,_,_,_,.nil,s=>s
 | _,_,_,_,.cons r t,s=>.cons r (Vals.append t s)
theorem Vals.take:∀{xs:List V}{us:List JS} (n:Nat),Vals xs us->Vals (xs.take n) (us.take n)
 | _,_,0,_=>.nil
 | _,_,_+1,.nil=>.nil
 | _,_,n+1,.cons r t=>.cons r (Vals.take n t)
theorem Vals.drop:∀{xs:List V}{us:List JS} (n:Nat),Vals xs us->Vals (xs.drop n) (us.drop n)
 | _,_,0,r=>r
 | _,_,_+1,.nil=>.nil
 | _,_,n+1,.cons _ t=>Vals.drop n t
def jS:Option V->Option JS->Prop
 | some v,some u=>RelV v u
 | none,none=>True
 | _,_=>False
def KV{κ:Type}:List (κ × V)->List (κ × JS)->Prop:=Paired fun(p:κ × V) (q:κ × JS)=>p.1=q.1/\RelV p.2 q.2
def kV:gA->V
 | .inl i=>.int i
 | .inr x=>.str x
inductive HO where
 | lst (xs:List V)
 | tup (xs:List V)
 | dK (kvs:List (gA × V)) | dT (kvs:List (List gA × V))
 | set (S:Int->Bool) (n:Nat)
 | ins (C dx:YP) (fs:List (Str × V))
 | own (x:YP)
 | xd (fs:List (Str × V))
 | met (f x:YP)
 | rng (lo hi:Int)
 | frz (o:Obj) (u:HO)
 | tbl (ps:Array JS)
 | ext (φ:Heap->Prop)
abbrev Hp:=YP->Option HO
def aJ(H:Hp)(a:YP)(o:HO):Hp:=fun b=>if b=a then some o else H b
theorem cN{H:Hp}{a:YP}{o:HO}:aJ H a o a=some o:=by unfold aJ;rw [if_pos rfl]
theorem aV{H:Hp}{a b:YP}{o:HO}(h:b≠a):aJ H a o b=H b:=by unfold aJ;rw [if_neg h]
theorem p3{H:Hp}{a b:YP}{o u:HO}(h:H a=some o)(h':H b=some u)(d:o≠u):a≠b:=by
 intro e;subst e;rw [h]at h';exact d (QA h')
theorem kE{H:Hp}{a b:YP}{o:HO}(h:H a=some o)(h':H b=none):a≠b:=by
 intro e;subst e;rw [h]at h';cases h'
section
variable (P:JY)(w:J1)
def dS(H:Hp)(h:Heap)(a:YP):HO->Prop
 | .lst c=>c.length<=sizeLine/\∃(its:List JS) (n:Nat),Vals c its/\h.get? a=some { cls:=.type "list",data:=.seq its.toArray n }
 | .tup c=>c.length<=sizeLine/\∃ its:List JS,Vals c its/\IsTup h a its.toArray
 | .dK b=>b.length<=sizeLine/\(a == Zp)=false/\∃ vs,KV b vs/\h.DictOf (GZ P w) a vs
 | .dT b=>b.length<=sizeLine/\(a == Zp)=false/\∃ c:List (List gA × YP × JS),
   Paired (fun(p:List gA × V) (q:List gA × YP × JS)=>p.1=q.1/\H q.2.1=some (.tup (p.1.map kV))/\RelV p.2 q.2.2) b c /\
   ∃ o es ep,h.get? a=some o/\o.ExactDict/\o.data=.dict es ep/\es.toList=c.map (entryOfKey (tupleKind (GZ P w)))/\(c.map (·.1)).Nodup
 | .set S n=>h.SetOf (intKind P w) a S n
 | .ins C d fs=>H d=some (.own a)/\fs.length<=1000/\d≠a/\h.get? a=some (PySem.W.instObj C d) /\
   ∃ mA,h.Ns1 d mA/\(∀ f,jS (fs.lookup f) (mA f))/\PySem.Within mA (fs.map (·.1))
 | .own _=>∃ o,h.get? a=some o
 | .xd fs=>∃ mA,h.Ns1 a mA/\∀ f,jS (fs.lookup f) (mA f)
 | .rng g i=>∃ t u v,h.get? a=some { cls:=.type "range",data:=.fields #[.int g t,.int i u,.int 1 v] }
 | .frz o u=>h.get? a=some o/\dS H h a u
 | .tbl e=>h.get? a=some { cls:=.none,data:=.fields e }
 | .met f x=>h.get? a=some (PySem.W.methodObj (.ref f) (.ref x))
 | .ext φ=>φ h/\(∃ o,h.get? a=some o)/\∀ h1 h2:Heap,φ h1->(∀ o,h1.get? a=some o->h2.get? a=some o)->φ h2
def cX(H:Hp)(h:Heap):Prop:=∀ a o,H a=some o->dS P w H h a o
end
section
variable {P:JY}{w:J1}{H H':Hp}{h h':Heap}{a:YP}{o:HO}
theorem dS.lt(x:dS P w H h a o):a<h.objs.size:=by
 cases o with
 | lst c=>obtain⟨_,_,_,_,e⟩:=x;exact Qs e
 | tup c=>obtain⟨_,_,_,p⟩:=x;exact p.lt
 | dK b=>obtain⟨_,_,_,_,o,_,_,e,_⟩:=x;exact Qs e
 | dT b=>obtain⟨_,_,_,_,o,_,_,e,_⟩:=x;exact Qs e
 | set S n=>obtain⟨o,_,_,_,e,_⟩:=x;exact Qs e
 | ins C k fs=>obtain⟨_,_,_,e,_⟩:=x;exact Qs e
 | own y=>obtain⟨_,e⟩:=x;exact Qs e
 | xd fs=>obtain⟨_,⟨_,_,_,e,_⟩,_⟩:=x;exact Qs e
 | rng i j=>obtain⟨_,_,_,e⟩:=x;exact Qs e
 | frz g u=>obtain⟨e,_⟩:=x;exact Qs e
 | tbl d=>exact Qs (show h.get? a=some _ from x)
 | met f y=>exact Qs (show h.get? a=some _ from x)
 | ext φ=>obtain⟨_,⟨_,e⟩,_⟩:=x;exact Qs e
theorem Paired.mapP{d c:Type}{F G:d->c->Prop}:∀{l₁:List d}{l₂:List c},Paired F l₁ l₂->(∀ a b,F a b->G a b)->Paired G l₁ l₂
 | _,_,.nil,_=>.nil
 | _,_,.cons r t,f=>.cons (f _ _ r) (Paired.mapP t f)
theorem dS.stay(x:dS P w H h a o)(k:∀ b u,(b=a ∨ H b=some (.own a))->h.get? b=some u->h'.get? b=some u)
  (K:∀ b,H b=some (.own a)->H' b=some (.own a)) (J:∀ b xs,H b=some (.tup xs)->H' b=some (.tup xs)):dS P w H' h' a o:=by
 induction o with
 | lst xs=>obtain⟨z,l,n,r,e⟩:=x;exact⟨z,l,n,r,k _ _ (.inl rfl) e⟩
 | tup xs=>obtain⟨z,l,r,g,e,c⟩:=x;exact⟨z,l,r,g,k _ _ (.inl rfl) e,c⟩
 | dK A=>obtain⟨z,y,F,r,g,i,j,e,c⟩:=x;exact⟨z,y,F,r,g,i,j,k _ _ (.inl rfl) e,c⟩
 | dT A=>
  obtain⟨z,y,xs,r,g,i,j,e,c⟩:=x
  exact⟨z,y,xs,Paired.mapP r fun p q z=>⟨z.1,J _ _ z.2.1,z.2.2⟩,g,i,j,k _ _ (.inl rfl) e,c⟩
 | set S n=>obtain⟨g,i,j,t,e,c⟩:=x;exact⟨g,i,j,t,k _ _ (.inl rfl) e,c⟩
 | ins C Q fs=>
  obtain⟨d,z,G,e,s,⟨m,i,j,M,c⟩,r⟩:=x
  exact⟨K _ d,z,G,k _ _ (.inl rfl) e,s,⟨m,i,j,k _ _ (.inr d) M,c⟩,r⟩
 | own y=>obtain⟨g,e⟩:=x;exact⟨g,k _ _ (.inl rfl) e⟩
 | xd fs=>obtain⟨s,⟨m,i,j,e,c⟩,r⟩:=x;exact⟨s,⟨m,i,j,k _ _ (.inl rfl) e,c⟩,r⟩
 | rng N O=>obtain⟨t,u,v,e⟩:=x;exact⟨t,u,v,k _ _ (.inl rfl) e⟩
 | frz g u I=>obtain⟨e,q⟩:=x;exact⟨k _ _ (.inl rfl) e,I q⟩
 | tbl E=>
  have e:h.get? a=some { cls:=.none,data:=.fields E }:=x
  show h'.get? a=some { cls:=.none,data:=.fields E }
  exact k a _ (.inl rfl) e
 | met f y=>
  have e:h.get? a=some (PySem.W.methodObj (.ref f) (.ref y)):=x
  show h'.get? a=some (PySem.W.methodObj (.ref f) (.ref y))
  exact k a _ (.inl rfl) e
 | ext φ=>obtain⟨p,⟨o,e⟩,B⟩:=x;exact⟨B _ _ p fun o q=>k _ _ (.inl rfl) q,⟨o,k _ _ (.inl rfl) e⟩,B⟩
theorem cX.lt(x:cX P w H h)(e:H a=some o):a<h.objs.size:=(x a o e).lt
theorem cX.fresh(x:cX P w H h)(e:h.objs.size<=a):H a=none:=by
 cases q:H a with
 | none=>rfl
 | some u=>exact absurd (QJ (x.lt q) e) (Jl _)
theorem cX.kept(x:cX P w H h)(k:∀ b u,h.get? b=some u->h'.get? b=some u):cX P w H h':=fun a o e=>
 (x a o e).stay (fun b u _ q=>k b u q) (fun _ q=>q) fun _ _ q=>q
theorem cX.laid(x:cX P w H h)(k:∀ b u,h.get? b=some u->h'.get? b=some u)(i:h.objs.size<=a)(d:dS P w (aJ H a o) h' a o):cX P w (aJ H a o) h':=fun b u e=>by
 have f:=x.fresh i;by_cases g:b=a
 ·subst g;rw [cN]at e;cases e;exact d
 ·rw [aV g]at e
  exact(x b u e).stay (fun c v _ q=>k c v q) (fun c q=>by rw [aV (kE q f)];exact q) fun c j q=>by rw [aV (kE q f)];exact q
end
def Rd(H:Hp)(a:YP)(u:HO):Prop:=H a=some u ∨ ∃ o,H a=some (.frz o u)
theorem Rd.ok{P:JY}{w:J1}{H:Hp}{h:Heap}{a:YP}{u:HO}(r:Rd H a u)(x:cX P w H h):dS P w H h a u:=by
 rcases r with r | ⟨o,r⟩
 ·exact x a u r
 ·obtain⟨_,q⟩:=x a _ r;exact q
def uS:Option HO->Prop
 | some (.lst _)=>True
 | some (.dK _)=>True
 | some (.dT _)=>True
 | some (.set _ _)=>True
 | some (.ins _ _ _)=>True
 | some (.ext _)=>True
 | _=>False
section
variable {P:JY}{w:J1}{H:Hp}{h h':Heap}{x e:YP}{o':HO}
theorem cX.write(ok:cX P w H h)(i:uS (H x))(he:e=x ∨ H e=some (.own x))(k:∀ b u,b≠e->h.get? b=some u->h'.get? b=some u)(n:∃ u,h'.get? e=some u)
  (m:dS P w (aJ H x o') h' x o'):cX P w (aJ H x o') h':=fun b u q=>by
 have d:∀ c y,H c=some (.own y)->c≠x:=fun c y r z=>by subst z;rw [r]at i;exact i
 have f:∀ c g,H c=some (.tup g)->c≠x:=fun c g r z=>by subst z;rw [r]at i;exact i
 by_cases l:b=x
 ·subst l;rw [cN]at q;cases q;exact m
 ·rw [aV l]at q;by_cases a:b=e
  ·have o:H b=some (.own x):=by
    rcases he with z | z
    ·exact absurd (a.trans z) l
    ·rw [a];exact z
   rw [q]at o;cases o;obtain⟨v,p⟩:=n
   exact⟨v,by rw [a];exact p⟩
  ·refine(ok b u q).stay (fun c v j r=>k c v ?_ r) (fun c r=>by rw [aV (d c b r)];exact r) fun c g r=>by rw [aV (f c g r)];exact r
   rcases j with rfl | j
   ·exact a
   ·rintro rfl;rcases he with z | z
    ·exact d c b j z
    ·rw [j]at z;cases z;exact l rfl
end
structure Un(fs ex:List YP)(H H':Hp)(h h':Heap):Prop where
 keep:∀ b o,h.get? b=some o->H b=none->b∉fs->b∉ex->h'.get? b=some o
 slot:∀ b o,h.get? b=some o->H b=none->b∈fs->b∉ex->∃ sl,h'.get? b=some { o with slots:=sl }
 free:∀ b o,h.get? b=some o->H b=none->b∉ex->H' b=none
 there:∀ b o,h.get? b=some o->b∉ex->∃ o',h'.get? b=some o'
 tups:∀ b xs,H b=some (.tup xs)->H' b=some (.tup xs)
 frzs:∀ b o u,H b=some (.frz o u)->H' b=some (.frz o u)
 tbls:∀ b ps,H b=some (.tbl ps)->∃ more,H' b=some (.tbl (ps++more))
section
variable {fs fs' ex ex':List YP}{H H1 H2:Hp}{h h1 h2 h':Heap}{a x e:YP}{o:HO}
theorem Un.any(u:Un fs ex H H1 h h1){b:YP}{a:Obj}(q:h.get? b=some a)(n:H b=none)(c:b∉ex):∃ sl,h1.get? b=some { a with slots:=sl }:=by
 by_cases d:b∈fs
 ·exact u.slot b a q n d c
 ·exact⟨a.slots,u.keep b a q n d c⟩
theorem Un.kept(k:∀ b u,h.get? b=some u->h'.get? b=some u):Un fs ex H H h h':=
 ⟨fun b a q _ _ _=>k b a q,fun b a q _ _ _=>⟨a.slots,k b a q⟩,fun _ _ _ n _=>n,fun b a q _=>⟨a,k b a q⟩,fun _ _ q=>q,fun _ _ _ q=>q,fun _ c q=>⟨#[],by rw [q];simp⟩⟩
theorem Un.refl:Un fs ex H H h h:=Un.kept fun _ _ q=>q
theorem Un.laid(k:∀ b u,h.get? b=some u->h'.get? b=some u)(e:h.objs.size<=a)(c:H a=none):Un fs ex H (aJ H a o) h h' where
 keep:=fun b u q _ _ _=>k b u q
 slot:=fun b u q _ _ _=>⟨u.slots,k b u q⟩
 free:=fun b u q n _=>by rw [aV (QB (QJ (Qs q) e))];exact n
 there:=fun b u q _=>⟨u,k b u q⟩
 tups:=fun b d q=>by rw [aV (kE q c)];exact q
 frzs:=fun b u d q=>by rw [aV (kE q c)];exact q
 tbls:=fun b f q=>⟨#[],by rw [aV (kE q c),q];simp⟩
theorem Un.write(c:uS (H x))(he:e=x ∨ H e=some (.own x))(k:∀ b u,b≠e->h.get? b=some u->h'.get? b=some u)(f:∃ u,h'.get? e=some u):Un fs ex H (aJ H x o) h h':=by
 have g:∀ b,H b=none->b≠x:=fun b n z=>by subst z;rw [n]at c;exact c
 have i:∀ b,H b=none->b≠e:=fun b n z=>by
  subst z;rcases he with r | r
  ·exact g b n r
  ·rw [n]at r;cases r
 have d:∀ b u,H b=some u->¬ uS (some u)->b≠x:=fun b u q l z=>by subst z;rw [q]at c;exact l c
 refine⟨fun b u q n _ _=>k b u (i b n) q,fun b u q n _ _=>⟨u.slots,k b u (i b n) q⟩,fun b u q n _=>by rw [aV (g b n)];exact n,fun b u q _=>?_,
  fun b j q=>by rw [aV (d b _ q fun z=>z)];exact q,fun b u j q=>by rw [aV (d b _ q fun z=>z)];exact q,fun b m q=>⟨#[],by rw [aV (d b _ q fun z=>z),q];simp⟩⟩
 by_cases a:b=e
 ·subst a;exact f
 ·exact⟨u,k b u a q⟩
end
def vP(h:Heap)(H:Hp):List YP:=(JZ h.objs.size).filter fun a=>(H a).isSome
def kR(h:Heap)(H:Hp):Heap:=PySem.W.hideAll h (vP h H)
theorem TU(h:Heap)(H:Hp):(kR h H).objs.size=h.objs.size:=PySem.W.hideAll_size _ _
theorem TQ(e:h.get? b=some o)(n:H b=none):(kR h H).get? b=some o:=
 PySem.W.hideAll_get _ e fun a=>by
  have q:(H b).isSome=true:=(Q8.mp a).2;rw [n]at q;simp at q
theorem VL(e:(kR h H).get? b=some o):h.get? b=some o/\H b=none:=by
 have a:h.get? b=some o:=PySem.W.of_hideAll (vP h H) e
 refine⟨a,?_⟩
 cases q:H b with
 | none=>rfl
 | some x=>
  have c:b∈vP h H:=Q8.mpr ⟨QP.mpr (Qs a),by simp [q]⟩;have z:(kR h H).get? b=none:=PySem.W.hideAll_none (vP h H) c;rw [z]at e;cases e
structure Mod(K:PySem.W.Frag)(mg:Str->Option JS)(base:Heap):Prop where
 kin:K.In base
 glob:base.Ns J4 mg
 blt:∃ mb,base.Ns builtinsNs mb/\∀ x:Str,x≠"__name__"->mb x=Zn x
 nolimit:base.NoLimit
structure Cx where
 prog:JY
 w:J1
 K:PySem.W.Frag
 mg:Str->Option JS
 base:Heap
 A:Around
 N:List Str
 s₀:JT
 H₀:Hp
 env:Env
 outer:List Env
 stack:List Env
 ex:List YP
 fn:Str->Bool
 calm:Bool
 pn:List (YP × Obj)
 xe:JS->JT->Prop
def dN(l:List Env):List YP:=l.filterMap (·.frame)
abbrev Cx.fs(X:Cx):List YP:=dN X.outer
def gG(a:ZY)(x:Str):Prop:=a.names.lookup x=some .local ∨ a.names.lookup x=some .cell ∨ a.names.lookup x=some .free
def Loc(a:ZY)(x:Str):Prop:=a.names.lookup x=some .local ∨ a.names.lookup x=some .cell
def LH(env:Env)(h:Heap)(m:Str->Option JS)(x:Str)(u:JS):Prop:=
 (env.kindOf x=some .local/\m x=some u) ∨ ((env.kindOf x=some .cell ∨ env.kindOf x=some .free)/\∃ c,env.cells.lookup x=some c/\h.IsCell c (some u))
structure Cx.Ok(X:Cx):Prop where
 mod:Mod X.K X.mg X.base
 kind:X.env.scope.kind=.function
 glob:X.env.globals=J4
 blt:X.env.builtins=builtinsNs
 above:X.s₀.heap.objs.size<=X.env.locals
 inj:∀ x y c,X.env.cells.lookup x=some c->X.env.cells.lookup y=some c->x=y
 has:∀ x,(X.env.kindOf x=some .cell ∨ X.env.kindOf x=some .free)->∃ c,X.env.cells.lookup x=some c
 cab:∀ x c,X.fn x=true->X.env.cells.lookup x=some c->X.s₀.heap.objs.size<=c
 hd:X.calm=true->X.A.handled=none
 frames:X.A.frames=some X.stack
 stk:X.stack=X.outer ∨ (X.stack=X.env::X.outer/\X.env.frame=some X.env.locals)
 exf:∀ b∈X.ex,b≠X.env.locals/\∀ x c,X.env.cells.lookup x=some c->c≠b
 bs:∀ b o,X.base.get? b=some o->X.s₀.heap.get? b=some o/\X.H₀ b=none
 bsz:X.base.objs.size<=X.s₀.heap.objs.size
 noex:∀ b o,X.base.get? b=some o->b∉X.ex
 exfs:∀ b∈X.ex,b∉X.fs
 funs:X.s₀.heap.FunFrames X.base X.outer
 frf:∀ b∈X.fs,X.H₀ b=none
structure Inv(X:Cx)(pins:List (YP × Obj))(σ:List (Option V))(H:Hp)(s:JT):Prop where
 ok:X.Ok
 os:s.os=X.s₀.os
 bare:UZ s.gens
 base:Un X.fs X.ex X.H₀ H X.s₀.heap s.heap
 loc:∃ m,s.heap.Ns X.env.locals m/\∀(i:Nat) (x:Str) (v:V),X.N[i]?=some x->σ[i]?=some (some v)->gG X.env.scope x->∃ u,RelV v u/\LH X.env s.heap m x u
 cell:∀ x c,X.env.cells.lookup x=some c->∃ v,s.heap.IsCell c v
 free:H X.env.locals=none
 freeC:∀ x c,X.env.cells.lookup x=some c->H c=none
 pin:∀ p∈X.pn++pins,s.heap.get? p.1=some p.2/\H p.1=none/\p.1≠X.env.locals/\p.1∉X.fs/\∀ v,p.2.data≠.cell v
 hok:cX X.prog X.w H s.heap
 len:σ.length=X.N.length
section
variable {X:Cx}{pins:List (YP × Obj)}{σ:List (Option V)}{H H':Hp}{s:JT}{h':Heap}
theorem Cx.Ok.nofr(ok:X.Ok)(e:X.base.get? b=some o):b∉X.fs:=fun a=>by
 have:=(ok.funs.mem a).1
 rw [e]at this;cases this
theorem Inv.bs(I:Inv X pins σ H s):∀ b o,X.base.get? b=some o->s.heap.get? b=some o/\H b=none:=fun b o e=>
 ⟨I.base.keep b o (I.ok.bs b o e).1 (I.ok.bs b o e).2 (I.ok.nofr e) (I.ok.noex b o e),I.base.free b o (I.ok.bs b o e).1 (I.ok.bs b o e).2 (I.ok.noex b o e)⟩
theorem Inv.bk(I:Inv X pins σ H s):∀ b o,X.base.get? b=some o->s.heap.get? b=some o:=fun b o e=>(I.bs b o e).1
theorem Inv.mod(I:Inv X pins σ H s):Mod X.K X.mg X.base:=I.ok.mod
theorem Inv.kIn(I:Inv X pins σ H s):X.K.In s.heap:=I.ok.mod.kin.keeps I.bk
theorem Inv.lt(I:Inv X pins σ H s):X.env.locals<s.heap.objs.size:=let⟨_,hn,_⟩:=I.loc;hn.lt
theorem Inv.sz(I:Inv X pins σ H s):X.s₀.heap.objs.size<=s.heap.objs.size:=Qr I.ok.above (Yr I.lt)
theorem Inv.nofs(I:Inv X pins σ H s)(h:s.heap.objs.size<=a):a∉X.fs:=fun c=>by
 obtain⟨_,o,b,_⟩:=I.ok.funs.mem c;exact absurd (QJ (Qs b) (Qr I.sz h)) (Jl _)
theorem Inv.cne(I:Inv X pins σ H s):∀ x c,X.env.cells.lookup x=some c->c≠X.env.locals:=fun x c e z=>by
 obtain⟨v,o,d,f⟩:=I.cell x c e;obtain⟨m,⟨g,h,i,a,b,_⟩,_⟩:=I.loc;rw [z,a]at d;cases d;rw [b]at f;cases f
theorem Inv.funs(I:Inv X pins σ H s):s.heap.FunFrames X.base X.outer:=by
 have all:∀(l:List Env),(∀ b∈dN l,b∈X.fs)->X.s₀.heap.FunFrames X.base l->s.heap.FunFrames X.base l:=by
  intro l
  induction l with
  | nil=>intro _ _;trivial
  | cons p r g=>
   intro f k;obtain⟨m,⟨L,o,a,j,i,n⟩,h⟩:=k;have d:L∈X.fs:=f L (by unfold dN;rw [YK,a];exact Qh);obtain⟨q,e⟩:=I.base.slot L o i (I.ok.frf L d) d fun z=>I.ok.exfs L z d
   exact⟨m,⟨L,_,a,j,e,n⟩,g (fun b c=>f b (by unfold dN;rw [YK,a];exact Qg _ c)) h⟩
 exact all X.outer (fun _ c=>c) I.ok.funs
theorem Inv.stack(I:Inv X pins σ H s):s.heap.FunFrames X.base X.stack:=by
 rcases I.ok.stk with e | ⟨e,b⟩
 ·rw [e];exact I.funs
 ·rw [e];obtain⟨m,a,_⟩:=I.loc;refine .cons (by rw [I.ok.kind];decide) b a ?_ I.funs;exact UP (Qr I.ok.bsz I.ok.above)
theorem Inv.stkSub(I:Inv X pins σ H s):∀ b∈dN X.stack,b∈X.env.locals::X.fs:=fun b a=>by
 rcases I.ok.stk with e | ⟨e,c⟩
 ·rw [e]at a;exact Qg _ a
 ·rw [e]at a;unfold dN at a;rw [YK,c]at a;exact a
theorem Inv.stkFree(I:Inv X pins σ H s):∀ b∈dN X.stack,H b=none:=fun b a=>by
 rcases Ql.mp (I.stkSub b a)with e | a
 ·rw [e];exact I.free
 ·obtain⟨_,o,c,_⟩:=I.ok.funs.mem a;exact I.base.free b o c (I.ok.frf b a) fun z=>I.ok.exfs b z a
theorem Inv.step{g':Array Vg}{t':Nat}{d':Drawn}{ch:List YP}(I:Inv X pins σ H s)
  (g:∀ b∈ch,(b∈X.ex ∨ X.s₀.heap.objs.size<=b)/\b≠X.env.locals/\(∀ x c,X.env.cells.lookup x=some c->c≠b)/\∀ p∈X.pn++pins,p.1≠b)
  (keep:∀ b o,b≠X.env.locals->b∉X.fs->b∉ch->s.heap.get? b=some o->H b=none->h'.get? b=some o)
  (slot:∀ b o,b≠X.env.locals->b∈X.fs->b∉ch->s.heap.get? b=some o->H b=none->∃ sl,h'.get? b=some { o with slots:=sl }) (free:∀ b o,b∉ch->s.heap.get? b=some o->H b=none->H' b=none)
  (y:∀ b o,b∉ch->s.heap.get? b=some o->∃ o',h'.get? b=some o')
  (E:∀ b xs,H b=some (.tup xs)->H' b=some (.tup xs)) (J:∀ b o u,H b=some (.frz o u)->H' b=some (.frz o u)) (F:∀ b ps,H b=some (.tbl ps)->∃ more,H' b=some (.tbl (ps++more)))
  (ns:∀ m,s.heap.Ns X.env.locals m->h'.Ns X.env.locals m) (N:cX X.prog X.w H' h') (hg:UZ g'):
  Inv X pins σ H' { s with heap:=h',gens:=g',drawn:=d',toks:=t' }:=by
 have G:∀ b o,X.s₀.heap.get? b=some o->b≠X.env.locals:=fun b o e=>QB (QJ (Qs e) I.ok.above)
 have j:∀ b o,X.s₀.heap.get? b=some o->b∉X.ex->b∉ch:=fun b o e a A=>by
  rcases(g b A).1 with z | z
  ·exact a z
  ·exact absurd (QJ (Qs e) z) (Jl _)
 have h:∀ x c,X.env.cells.lookup x=some c->∀ v,s.heap.IsCell c v->h'.IsCell c v:=fun x c e v W=>by
  obtain⟨o,B,O⟩:=W;have f:c∉ch:=fun z=>(g c z).2.2.1 x c e rfl;by_cases U:c∈X.fs
  ·obtain⟨sl,q⟩:=slot c o (I.cne x c e) U f B (I.freeC x c e)
   exact⟨_,q,O⟩
  ·exact⟨o,keep c o (I.cne x c e) U f B (I.freeC x c e),O⟩
 refine⟨I.ok,I.os,hg,⟨fun b o e n A a=>?_,fun b o e n A a=>?_,fun b o e n a=>?_,fun b o e a=>?_,fun b xs e=>E b xs (I.base.tups b xs e),fun b o xs e=>J b o xs (I.base.frzs b o xs e),fun b ps e=>?_⟩,?_,fun x c e=>?_,?_,fun x c e=>?_,fun p T=>?_,N,I.len⟩
 ·exact keep b o (G b o e) A (j b o e a) (I.base.keep b o e n A a) (I.base.free b o e n a)
 ·obtain⟨sl,t⟩:=I.base.slot b o e n A a;obtain⟨M,K⟩:=slot b _ (G b o e) A (j b o e a) t (I.base.free b o e n a)
  exact⟨M,K⟩
 ·obtain⟨o',t⟩:=I.base.there b o e a;exact free b o' (j b o e a) t (I.base.free b o e n a)
 ·obtain⟨o',t⟩:=I.base.there b o e a;exact y b o' (j b o e a) t
 ·obtain⟨Z,t⟩:=I.base.tbls b ps e;obtain⟨Y,K⟩:=F b _ t
  exact⟨Z++Y,by rw [K,Array.append_assoc]⟩
 ·obtain⟨m,hn,hl⟩:=I.loc
  refine⟨m,ns m hn,fun i x v t K e3=>?_⟩
  obtain⟨u,r,l⟩:=hl i x v t K e3
  refine⟨u,r,?_⟩
  rcases l with l | ⟨k,c,e,z⟩
  ·exact .inl l
  ·exact .inr ⟨k,c,e,h x c e _ z⟩
 ·obtain⟨v,z⟩:=I.cell x c e
  exact⟨v,h x c e v z⟩
 ·obtain⟨m,⟨o,_,_,B,_⟩,_⟩:=I.loc;exact free _ o (fun z=>(g _ z).2.1 rfl) B I.free
 ·obtain⟨v,o,B,O⟩:=I.cell x c e;exact free c o (fun z=>(g c z).2.2.1 x c e rfl) B (I.freeC x c e)
 ·obtain⟨e,n,S,Q,d⟩:=I.pin p T;have f:p.1∉ch:=fun z=>(g p.1 z).2.2.2 p T rfl
  exact⟨keep p.1 p.2 S Q f e n,free p.1 p.2 f e n,S,Q,d⟩
theorem Inv.un{t':Nat}(I:Inv X pins σ H s)(u:Un X.fs [] H H' s.heap h')(c:cX X.prog X.w H' h'):Inv X pins σ H' { s with heap:=h',toks:=t' }:=by
 obtain⟨m,⟨o,t,v,h,r⟩,_⟩:=id I.loc;obtain⟨l,k⟩:=u.any h I.free (by simp)
 exact I.step (g':=s.gens) (d':=s.drawn) (ch:=[]) (fun _ z=>nomatch z) (fun b o _ d _ e n=>u.keep b o e n d (by simp)) (fun b o _ d _ e n=>u.slot b o e n d (by simp)) (fun b o _ e n=>u.free b o e n (by simp)) (fun b o _ e=>u.there b o e (by simp)) u.tups u.frzs u.tbls (fun q j=>by
  obtain⟨p,f,g,a,i⟩:=j;rw [h]at a;cases a
  exact⟨_,f,g,k,i⟩) c I.bare
theorem Inv.call{g':Array Vg}{t':Nat}{d':Drawn}{ch:List YP}(I:Inv X pins σ H s)(u:Un (dN X.stack) ch H H' s.heap h')(g:cX X.prog X.w H' h')(t:UZ g')
  (f:∀ b∈ch,(b∈X.ex ∨ X.s₀.heap.objs.size<=b)/\b≠X.env.locals/\(∀ x c,X.env.cells.lookup x=some c->c≠b)/\∀ p∈X.pn++pins,p.1≠b):
  Inv X pins σ H' { s with heap:=h',gens:=g',drawn:=d',toks:=t' }:=by
 obtain⟨m,⟨o,E,F,k,r⟩,_⟩:=id I.loc;obtain⟨y,h⟩:=u.any k I.free fun z=>(f _ z).2.1 rfl
 exact I.step (ch:=ch) f (fun b o h v a e n=>u.keep b o e n (fun z=>(Ql.mp (I.stkSub b z)).elim h v) a) (fun b o _ _ a e n=>u.any e n a) (fun b o a e n=>u.free b o e n a) (fun b o a e=>u.there b o e a) u.tups u.frzs u.tbls (fun B q=>by
  obtain⟨A,i,j,d,l⟩:=q;rw [k]at d;cases d
  exact⟨_,i,j,h,l⟩) g t
theorem Inv.turned{t':Nat}{it:YP}(I:Inv X pins σ H s)(k:∀ b o,b≠it->s.heap.get? b=some o->h'.get? b=some o)(h:H it=none)(f:it≠X.env.locals)
  (w:it∈X.ex ∨ X.s₀.heap.objs.size<=it) (t:∀ x c,X.env.cells.lookup x=some c->c≠it) (l:∀ p∈X.pn++pins,p.1≠it):Inv X pins σ H { s with heap:=h',toks:=t' }:=by
 have d:∀ b u,H b=some u->b≠it:=fun b u e z=>by rw [z,h]at e;cases e
 refine I.step (g':=s.gens) (d':=s.drawn) (ch:=[it]) (fun b j=>?_) (fun b o _ _ a e _=>k b o (fun z=>a (by simp [z])) e) (fun b o _ _ a e _=>⟨o.slots,k b o (fun z=>a (by simp [z])) e⟩) (fun _ _ _ _ n=>n)
  (fun b o a e=>⟨o,k b o (fun z=>a (by simp [z])) e⟩) (fun _ _ e=>e) (fun _ _ _ e=>e) (fun b B e=>⟨#[],by rw [e];simp⟩) (fun m i=>?_) (fun b u e=>?_) I.bare
 ·have e:b=it:=by simpa using j
  subst e
  exact⟨w,f,t,l⟩
 ·obtain⟨o,y,A,g,r⟩:=i
  exact⟨o,y,A,k _ o (ZI f) g,r⟩
 ·refine(I.hok b u e).stay (fun c v a q=>k c v ?_ q) (fun _ q=>q) fun _ _ q=>q
  rcases a with z | z
  ·rw [z];exact d b u e
  ·exact d c _ z
theorem Inv.tok(I:Inv X pins σ H s)(t:Nat):Inv X pins σ H { s with toks:=t }:=I.un (h':=s.heap) (t':=t) Un.refl I.hok
theorem Inv.kept(I:Inv X pins σ H s)(k:∀ b u,s.heap.get? b=some u->h'.get? b=some u):Inv X pins σ H { s with heap:=h',toks:=t' }:=I.un (Un.kept k) (I.hok.kept k)
theorem Inv.laid{a:YP}{o:HO}{t':Nat}(I:Inv X pins σ H s)(k:∀ b u,s.heap.get? b=some u->h'.get? b=some u)(d:s.heap.objs.size<=a)(c:dS X.prog X.w (aJ H a o) h' a o):
  Inv X pins σ (aJ H a o) { s with heap:=h',toks:=t' }:=I.un (Un.laid k d (I.hok.fresh d)) (I.hok.laid k d c)
theorem Inv.write(I:Inv X pins σ H s)(d:uS (H x))(he:e=x ∨ H e=some (.own x))(k:∀ b u,b≠e->s.heap.get? b=some u->h'.get? b=some u)(a:∃ u,h'.get? e=some u)
  (c:dS X.prog X.w (aJ H x o) h' x o):Inv X pins σ (aJ H x o) { s with heap:=h',toks:=t' }:=I.un (Un.write d he k a) (I.hok.write d he k a c)
theorem Inv.pins_of(I:Inv X pins σ H s)(h:∀ p∈pins',s.heap.get? p.1=some p.2/\H p.1=none/\p.1≠X.env.locals/\p.1∉X.fs/\∀ v,p.2.data≠.cell v):Inv X pins' σ H s:=
 ⟨I.ok,I.os,I.bare,I.base,I.loc,I.cell,I.free,I.freeC,fun p a=>(QE.mp a).elim (fun z=>I.pin p (Yf _ z)) (h p),I.hok,I.len⟩
theorem Gz{N:List Str}(c:N.Nodup){i j:Nat}{x:Str}(a:N[i]?=some x)(b:N[j]?=some x):i=j:=by
 obtain⟨g,e⟩:=Qe.mp a;obtain⟨f,d⟩:=Qe.mp b
 exact(List.getElem_inj c).mp (e.trans d.symm)
theorem KI{M:Model}{A:Around}{E:JS->JT->Prop}{i:Nat}{x:Str}{v:V}{u:JS}{Q:Unit->JT->Prop}(I:Inv X pins σ H s)(hN:X.N.Nodup)(Y:X.N[i]?=some x)(B:Loc X.env.scope x)(r:RelV v u)
  (h:∀ s',Inv X pins (σ.set i (some v)) H s'->(∃ a,Zi a s.heap s'.heap/\(a=X.env.locals ∨ X.env.cells.lookup x=some a))->Q () s') (hf:X.fn x=true ∨ X.env.scope.names.lookup x=some .local:=by first | exact .inl rfl | exact .inr rfl | assumption):JW M A (storeName X.env x u) Q E s:=by
 obtain⟨m,hn,hl⟩:=id I.loc
 have Z:(X.env.scope.kind == .class || (X.env.scope.kind == .module && X.env.locals != X.env.globals))=false:=by rw [I.ok.kind];rfl
 have K:i<σ.length:=by rw [I.len];exact(Qe.mp Y).1
 have cne:=I.cne
 have g:∀{a:YP}{h':Heap},(∃ o,s.heap.get? a=some o/\H a=none)->Zi a s.heap h'->cX X.prog X.w H h':=fun{a h'} ha f b ob e=>by
  obtain⟨_,_,F⟩:=ha
  refine(I.hok b ob e).stay (fun c w' t q=>(f.2 c ?_).trans q) (fun _ q=>q) fun _ _ q=>q
  rintro rfl;rcases t with rfl | t
  ·rw [F]at e;cases e
  ·rw [F]at t;cases t
 rcases B with J | J
 ·refine wpAny_storeName_local J hn (fun h' a3 f=>?_) Z;obtain⟨oL,_,_,a2,_⟩:=id hn;refine h _ ⟨I.ok,I.os,I.bare,⟨fun b o e n T B=>?_,fun b o e n T B=>?_,I.base.free,fun b o e B=>?_,I.base.tups,I.base.frzs,I.base.tbls⟩,⟨_,a3,fun j y v' l G e3=>?_⟩,fun y c e=>?_,I.free,I.freeC,fun p hp=>?_,g ⟨oL,a2,I.free⟩ f,by simpa using I.len⟩ ⟨_,f,.inl rfl⟩
  ·exact(f.2 b (QB (QJ (Qs e) I.ok.above))).trans (I.base.keep b o e n T B)
  ·obtain⟨sl,l⟩:=I.base.slot b o e n T B
   exact⟨sl,(f.2 b (QB (QJ (Qs e) I.ok.above))).trans l⟩
  ·obtain⟨o',l⟩:=I.base.there b o e B
   exact⟨o',(f.2 b (QB (QJ (Qs e) I.ok.above))).trans l⟩
  ·by_cases O:j=i
   ·subst O;rw [Y]at l;cases l;rw [Qx K]at G;cases G
    exact⟨u,r,.inl ⟨J,by simp⟩⟩
   ·rw [Qq (ZI O)]at G;obtain⟨u',r',q⟩:=hl j y v' l G e3
    refine⟨u',r',?_⟩
    rcases q with⟨k,e⟩ | ⟨k,c,e,z⟩
    ·refine .inl ⟨k,?_⟩
     have:y≠x:=fun e=>O (Gz hN l (e ▸ Y))
     simp [this,e]
    ·exact .inr ⟨k,c,e,z.sameBut f (cne y c e)⟩
  ·obtain⟨w',z⟩:=I.cell y c e
   exact⟨w',z.sameBut f (cne y c e)⟩
  ·obtain⟨e,n,ne,nf,d⟩:=I.pin p hp
   exact⟨(f.2 p.1 ne).trans e,n,ne,nf,d⟩
 ·have S:X.fn x=true:=by
   rcases hf with z | z
   ·exact z
   ·rw [z]at J;cases J
  obtain⟨c,t⟩:=I.ok.has x (.inl J);obtain⟨w',z⟩:=I.cell x c t;refine wpAny_storeName_cell I.ok.kind J t z (fun h' a1 f=>?_);obtain⟨oc,W,U⟩:=id z;refine h { s with heap:=h' } ⟨I.ok,I.os,I.bare,⟨fun b o e n T B=>?_,fun b o e n T B=>?_,I.base.free,fun b o e B=>?_,I.base.tups,I.base.frzs,I.base.tbls⟩,⟨m,hn.sameBut f (ZI (cne x c t)),fun j y v' l G e3=>?_⟩,fun y c' e=>?_,I.free,I.freeC,fun p hp=>?_,g ⟨oc,W,I.freeC x c t⟩ f,by simpa using I.len⟩ ⟨c,f,.inr t⟩
  ·exact(f.2 b (QB (QJ (Qs e) (I.ok.cab x c S t)))).trans (I.base.keep b o e n T B)
  ·obtain⟨sl,l⟩:=I.base.slot b o e n T B
   exact⟨sl,(f.2 b (QB (QJ (Qs e) (I.ok.cab x c S t)))).trans l⟩
  ·obtain⟨o',l⟩:=I.base.there b o e B
   exact⟨o',(f.2 b (QB (QJ (Qs e) (I.ok.cab x c S t)))).trans l⟩
  ·by_cases O:j=i
   ·subst O;rw [Y]at l;cases l;rw [Qx K]at G;cases G
    exact⟨u,r,.inr ⟨.inl J,c,t,a1⟩⟩
   ·rw [Qq (ZI O)]at G;obtain⟨u',r',q⟩:=hl j y v' l G e3
    refine⟨u',r',?_⟩
    rcases q with q | ⟨k,c',e,z'⟩
    ·exact .inl q
    ·refine .inr ⟨k,c',e,z'.sameBut f ?_⟩;rintro rfl;exact O (Gz hN l (I.ok.inj _ _ _ e t ▸ Y))
  ·by_cases a0:c'=c
   ·subst a0;exact⟨_,a1⟩
   ·obtain⟨w2,z2⟩:=I.cell y c' e
    exact⟨w2,z2.sameBut f a0⟩
  ·obtain⟨e,n,ne,nf,d⟩:=I.pin p hp
   refine⟨(f.2 p.1 ?_).trans e,n,ne,nf,d⟩
   intro q;rw [q,W]at e;have q':oc=p.2:=QA e;exact d w' (by rw [<- q'];exact U)
theorem KH(I:Inv X pins σ H s)(d:X.N.Nodup)(b:X.N[i]?=some x)(a:Loc X.env.scope x)(r:RelV v u)
  (h:∀ s',Inv X pins (σ.set i (some v)) H s'->Q () s') (c:X.fn x=true ∨ X.env.scope.names.lookup x=some .local:=by first | exact .inl rfl | exact .inr rfl | assumption):JW M A (storeName X.env x u) Q E s:=
 KI I d b a r (fun s' e _=>h s' e) c
theorem Inv.call'(I:Inv X pins σ H s)(g:s'.os=s.os)(u:Un (dN X.stack) ch H H' s.heap s'.heap)(a:cX X.prog X.w H' s'.heap)(h:UZ s'.gens)
  (d:∀ b∈ch,(b∈X.ex ∨ X.s₀.heap.objs.size<=b)/\b≠X.env.locals/\(∀ x c,X.env.cells.lookup x=some c->c≠b)/\∀ p∈X.pn++pins,p.1≠b):Inv X pins σ H' s':=by
 obtain⟨i,g',d',t',f⟩:=s';have e:f=s.os:=g;subst e;exact I.call (g':=g') (t':=t') (d':=d') u a h d
end
abbrev XK:=JS->Option YP->Hp->Prop
abbrev St:=List (Option V)
abbrev VK:=V->Hp->Prop
abbrev TE:=St->Hp->VK->Prop
abbrev TT:=St->Hp->(Bool->Hp->Prop)->Prop
abbrev TA:=St->Hp->(List V->Hp->Prop)->Prop
structure jR where
 nx:St->Hp->Prop
 rt:VK
 bk:St->Hp->Prop:=fun _ _=>False
 ct:St->Hp->Prop:=fun _ _=>False
abbrev TS:=jR->St->Hp->Prop
def EP(X:Cx)(pins:List (YP × Obj))(a:St)(Q:VK)(u:JS)(b:JT):Prop:=∃ v H',Inv X pins a H' b/\RelV v u/\Q v H'
def TP(X:Cx)(pins:List (YP × Obj))(a:St)(Q:Bool->Hp->Prop)(b:Bool)(c:JT):Prop:=∃ H',Inv X pins a H' c/\Q b H'
def AP(X:Cx)(pins:List (YP × Obj))(a:St)(Q:List V->Hp->Prop)(us:List JS)(b:JT):Prop:=∃ vs H',Inv X pins a H' b/\Vals vs us/\Q vs H'
def SP(X:Cx)(pins:List (YP × Obj))(D:jR)(f:Flow)(a:JT):Prop:=
 match f with
 | .next=>∃ σ' H',Inv X pins σ' H' a/\D.nx σ' H'
 | .brk=>∃ σ' H',Inv X pins σ' H' a/\D.bk σ' H'
 | .cont=>∃ σ' H',Inv X pins σ' H' a/\D.ct σ' H'
 | .ret u=>∃ v σ' H',Inv X pins σ' H' a/\RelV v u/\D.rt v H'
def PE(X:Cx)(e:Expr)(t:TE):Prop:=
 ∀(pins:List (YP × Obj)) (s:JT) (σ:St) (H:Hp) (Q:VK),Inv X pins σ H s->t σ H Q->JW (JX X.prog X.w) X.A (Za e X.env) (EP X pins σ Q) X.xe s
def PT(X:Cx)(e:Expr)(t:TT):Prop:=
 ∀(pins:List (YP × Obj)) (s:JT) (σ:St) (H:Hp) (Q:Bool->Hp->Prop),Inv X pins σ H s->t σ H Q->JW (JX X.prog X.w) X.A (isTrue e X.env (Za e X.env)) (TP X pins σ Q) X.xe s
def PW(X:Cx)(e:Expr)(t:TT):Prop:=
 ∀(whole:Sem JS) (pins:List (YP × Obj)) (s:JT) (σ:St) (H:Hp) (Q:Bool->Hp->Prop),Inv X pins σ H s->t σ H Q->JW (JX X.prog X.w) X.A (isTrue e X.env whole) (TP X pins σ Q) X.xe s
theorem PW.pt(h:PW X e t):PT X e t:=h _
def PA(X:Cx)(es:List Expr)(t:TA):Prop:=
 ∀(pos:Pos) (pins:List (YP × Obj)) (s:JT) (σ:St) (H:Hp) (Q:List V->Hp->Prop),Inv X pins σ H s->t σ H Q->JW (JX X.prog X.w) X.A (spliced (Zb pos (JU es X.env))) (AP X pins σ Q) X.xe s
def PS(X:Cx)(st:Zj)(t:TS):Prop:=
 ∀(pins:List (YP × Obj)) (s:JT) (σ:St) (H:Hp) (D:jR),Inv X pins σ H s->t D σ H->JW (JX X.prog X.w) X.A (exec st X.env) (SP X pins D) X.xe s
def eX(X:Cx)(st:List Zj)(t:TS):Prop:=
 ∀(pins:List (YP × Obj)) (s:JT) (σ:St) (H:Hp) (D:jR),Inv X pins σ H s->t D σ H->JW (JX X.prog X.w) X.A (execs st X.env) (SP X pins D) X.xe s
theorem aU{b:Type}{t:Sem b}{Q c:b->JT->Prop}{M:Model}{A:Around}{E:JS->JT->Prop}{s:JT}(h:JW M A t Q E s)(d:∀ a s,Q a s->c a s):JW M A t c E s:=YW h d fun _ _ x=>x
section
variable {X:Cx}
def DZ(i:Nat):TE:=fun a H Q=>∃ v,a[i]?=some (some v)/\Q v H
def tC(v:V):TE:=fun _ H Q=>Q v H
theorem pe_var(t:X.N[i]?=some x)(n:gG X.env.scope x)(f:(x == ("__debug__":Str))=false:=by decide)(g:(x == ("__classdict__":Str))=false:=by decide):PE X (.Name x pos) (DZ i):=by
 intro d s k H Q I h;obtain⟨v,e,h⟩:=h;obtain⟨m,o,q⟩:=I.loc;obtain⟨u,r,l⟩:=q i x v t e n;have fin:EP X d k Q u s:=⟨v,H,I,r,h⟩;rcases l with⟨b,p⟩ | ⟨b,c,j,a⟩
 ·exact wpAny_Name (wpAny_loadName_local I.ok.kind b o p fin) f
 ·rcases b with b | b
  ·exact wpAny_Name (wpAny_loadName_cell I.ok.kind b j a fin) f
  ·exact wpAny_Name (wpAny_loadName_free I.ok.kind b j a fin g) f
theorem Xj{i j pos}:PE X (.Constant (.int i) j pos) (tC (.int i)):=fun _ _ _ H _ I h=>wpAny_Constant_int ⟨.int i,H,I.tok _,⟨_,rfl⟩,h⟩
theorem NH{b j pos}:PE X (.Constant (.bool b) j pos) (tC (.bl b)):=fun _ _ _ H _ I h=>Constant_bool ⟨.bl b,H,I,rfl,h⟩
theorem Wt{j pos}:PE X (.Constant .none j pos) (tC .non):=fun _ _ _ H _ I h=>Constant_none ⟨.non,H,I,rfl,h⟩
theorem IK{x j pos}:PE X (.Constant (.str x) j pos) (tC (.str x)):=fun _ _ _ H _ I h=>Calls.Constant_str ⟨.str x,H,I.tok _,⟨_,rfl⟩,h⟩
def Gl(X:Cx)(x:Str):Prop:=X.env.kindOf x=some .globalImplicit
theorem pU(I:Inv X pins σ H s)(b:Gl X x)(a:X.mg x=some u)(h:Q u s)
  (c:(x == ("__debug__":Str))=false:=by decide):JW (JX X.prog X.w) X.A (Za (.Name x pos) X.env) Q E s:=
 Calls.Name_function_global I.ok.kind b (Calls.loadGlobal_global (by rw [I.ok.glob];exact I.mod.glob.keeps I.bk) a h) c
theorem oS(I:Inv X pins σ H s)(d:Gl X x)(c:X.mg x=none)(a:Zn x=some u)(h:Q u s)
  (b:x≠"__name__":=by decide) (e:(x == ("__debug__":Str))=false:=by decide):JW (JX X.prog X.w) X.A (Za (.Name x pos) X.env) Q E s:=by
 obtain⟨i,g,f⟩:=I.mod.blt;exact Calls.Name_function_global I.ok.kind d (Calls.loadGlobal_builtin (by rw [I.ok.glob];exact I.mod.glob.keeps I.bk) c (by rw [I.ok.blt];exact g.keeps I.bk) ((f x b).trans a) h) e
theorem IG(b:Gl X x)(a:X.mg x=some u)(r:RelV v u)(c:(x == ("__debug__":Str))=false:=by decide):PE X (.Name x pos) (tC v):=
 fun _ _ _ H _ I h=>pU I b a ⟨v,H,I,r,h⟩ c
theorem Xe(d:Gl X x)(c:X.mg x=none)(a:Zn x=some u)(r:RelV v u)(b:x≠"__name__":=by decide)(e:(x == ("__debug__":Str))=false:=by decide):PE X (.Name x pos) (tC v):=
 fun _ _ _ H _ I h=>oS I d c a ⟨v,H,I,r,h⟩ b e
variable {a b:Expr}{ta tb:TE}{pos:Pos}
def tB(t:TE):TT:=fun a H Q=>t a H fun x b=>∃ c,x=.bl c/\Q c b
theorem HS{e:Expr}{t:TE}(h:PE X e t)(he:∀ whole,isTrue e X.env whole=(do let v <- whole;standAt e.pos;Uh [v] (truthy v)):=by intro _;rfl):PT X e (tB t):=by
 intro a s b H Q I g;refine isTrue_plain (aU (h a s b H _ I g) fun v k ⟨x,j,i,c,f⟩=>?_) (he _);obtain⟨d,rfl,q⟩:=f;cases c;exact Jd ⟨j,i,q⟩
variable {tA tB':TT}{rest:List Expr}
def Oo(t u:TT):TT:=fun a H Q=>t a H fun c b=>if c=true then u a b Q else Q false b
def OJ(t u:TT):TT:=fun a H Q=>t a H fun c b=>if c=true then Q true b else u a b Q
def OH(t:TT):TT:=fun a H Q=>t a H fun c b=>Q (!c) b
theorem Wn(f:PT X a tA):PW X (.BoolOp .And [a] pos) tA:=by
 intro g b s d H Q I h;refine isTrue_and (aU (f b s d H Q I h) fun c i e=>?_)
 cases c with
 | true=>exact isTrue_and_nil e
 | false=>exact e
theorem HV(f:PT X a tA):PW X (.BoolOp .Or [a] pos) tA:=by
 intro g b s d H Q I h;refine isTrue_or (aU (f b s d H Q I h) fun c i e=>?_)
 cases c with
 | false=>exact isTrue_or_nil e
 | true=>exact e
theorem Wm(n:PT X a tA)(m:PW X (.BoolOp .And (b::rest) pos) tB'):PW X (.BoolOp .And (a::b::rest) pos) (Oo tA tB'):=by
 intro k d s e H Q I h;refine isTrue_and (aU (n d s e H _ I h) fun c l j=>?_);obtain⟨i,g,f⟩:=j
 cases c with
 | true=>exact m k d l e i Q g f
 | false=>exact⟨i,g,f⟩
theorem HU(n:PT X a tA)(m:PW X (.BoolOp .Or (b::rest) pos) tB'):PW X (.BoolOp .Or (a::b::rest) pos) (OJ tA tB'):=by
 intro k d s e H Q I h;refine isTrue_or (aU (n d s e H _ I h) fun c l j=>?_);obtain⟨i,g,f⟩:=j
 cases c with
 | true=>exact⟨i,g,f⟩
 | false=>exact m k d l e i Q g f
theorem WO(e:PT X a tA):PT X (.UnaryOp .Not a pos) (OH tA):=by
 intro b s d H Q I h;exact isTrue_not (e b s d H (fun c f=>Q (!c) f) I h)
def Op(e d:TE):TE:=fun a H Q=>e a H fun x b=>∃ c,x=.bl c/\if c=true then d a b Q else Q (.bl false) b
def OI(b:TE):TE:=fun a H Q=>b a H fun x d=>∃ c,x=.bl c/\Q (.bl (!c)) d
theorem Wv{op}(h:PE X a t):PE X (.BoolOp op [a] pos) t:=fun b s c H Q I d=>BoolOp_one (h b s c H Q I d)
theorem Xd(n:PE X a ta)(m:PE X (.BoolOp .And (b::rest) pos) tb):PE X (.BoolOp .And (a::b::rest) pos) (Op ta tb):=by
 intro d s f H Q I h;refine BoolOp_and (aU (n d s f H _ I h) fun v k j=>?_);obtain⟨x,i,g,l,e⟩:=j;obtain⟨c,rfl,e⟩:=e;cases l;refine Jd ?_
 cases c with
 | true=>exact m d k f i Q g e
 | false=>exact⟨.bl false,i,g,rfl,e⟩
theorem Wu(i:PE X a ta):PE X (.UnaryOp .Not a pos) (OI ta):=by
 intro b s e H Q I h;refine UnaryOp_ (aU (i b s e H _ I h) fun v l f=>?_);obtain⟨x,k,j,g,d⟩:=f;obtain⟨c,rfl,d⟩:=d;cases g;exact not_of (Jd ⟨.bl (!c),k,j,rfl,d⟩)
def OC(t:TT)(e d:TE):TE:=fun a H Q=>t a H fun c b=>if c=true then e a b Q else d a b Q
theorem IH{c:Expr}(m:PT X c tA)(o:PE X a ta)(n:PE X b tb):PE X (.IfExp c a b pos) (OC tA ta tb):=by
 intro e s f H Q I h;refine wpAny_IfExp (aU (m e s f H _ I h) fun d g l=>?_);obtain⟨k,j,i⟩:=l
 cases d with
 | true=>exact o e g f k Q j i
 | false=>exact n e g f k Q j i
end
def bY(K:PySem.W.Frag)(H:Hp)(a:YP)(xs:List V):Prop:=
 Rd H a (.lst xs) ∨
  ∃(o:Obj) (its:Array JS) (n:Nat),K.lookup a=some o/\o.cls=.type "list"/\o.dict=none/\o.data=.seq its n/\its.size<=sizeLine/\Vals xs its.toList
def bJ(K:PySem.W.Frag)(H:Hp)(a:YP)(xs:List V):Prop:=
 Rd H a (.tup xs) ∨
  ∃(o:Obj) (its:Array JS) (n:Nat),K.lookup a=some o/\o.cls=.type "tuple"/\o.data=.seq its n/\its.size<=sizeLine/\Vals xs its.toList
def LP:JS->Option V
 | .none=>some .non
 | .bool b=>some (.bl b)
 | .int i _=>some (.int i)
 | .str x _=>some (.str x)
 | .bytes b _=>some (.byt b)
 | .float b _=>some (.flt b)
 | .ref a=>some (.ref a)
 | .type n=>some (.ty n)
 | _=>none
theorem RelV.abs(r:RelV x u):LP u=some x:=by
 cases x with
 | non=>cases r;rfl
 | bl _=>cases r;rfl
 | int _=>obtain⟨t,rfl⟩:=r;rfl
 | str _=>obtain⟨t,rfl⟩:=r;rfl
 | byt _=>obtain⟨t,rfl⟩:=r;rfl
 | flt _=>obtain⟨t,rfl⟩:=r;rfl
 | ref _=>cases r;rfl
 | ty _=>cases r;rfl
theorem RelV.inj{x y:V}{u:JS}(r:RelV x u)(q:RelV y u):x=y:=QA (r.abs.symm.trans q.abs)
theorem Vals.inj{xs ys:List V}{us:List JS}(h:Vals xs us)(h':Vals ys us):xs=ys:=by
 induction h generalizing ys with
 | nil=>cases h';rfl
 | cons r t c=>
  cases h' with
  | cons b a=>rw [r.inj b,c a]
section
variable {X:Cx}{pins:List (YP × Obj)}{σ:St}{H:Hp}{s:JT}{a:YP}{xs ys:List V}
theorem bY.of{K:PySem.W.Frag}(h:H a=some (.lst xs)):bY K H a xs:=.inl (.inl h)
theorem Inv.list(I:Inv X pins σ H s)(h:bY X.K H a xs):∃ its:List JS,Vals xs its/\PlainL s.heap a its.toArray/\xs.length<=sizeLine:=by
 rcases h with h | ⟨o,its,n,c,f,d,b,g,r⟩
 ·obtain⟨z,its,n,r,e⟩:=h.ok I.hok
  exact⟨its,r,⟨_,n,e,rfl,rfl,rfl⟩,z⟩
 ·refine⟨its.toList,r,⟨o,n,I.kIn a o c,f,d,by simpa using b⟩,?_⟩
  have e:=r.length;simp only [Qt]at e;lia
theorem Inv.tuple(I:Inv X pins σ H s)(h:bJ X.K H a xs):∃ its:List JS,Vals xs its/\IsTup s.heap a its.toArray/\xs.length<=sizeLine:=by
 rcases h with h | ⟨o,its,n,c,d,b,f,r⟩
 ·obtain⟨z,its,r,p⟩:=h.ok I.hok
  exact⟨its,r,p,z⟩
 ·refine⟨its.toList,r,⟨o,I.kIn a o c,d,n,by simpa using b⟩,?_⟩
  have e:=r.length;simp only [Qt]at e;lia
theorem Inv.list_inj(I:Inv X pins σ H s)(h:bY X.K H a xs)(h':bY X.K H a ys):xs=ys:=by
 obtain⟨b,r,⟨o,n,e,_,_,d⟩,_⟩:=I.list h;obtain⟨its',g,⟨i,j,c,_,_,f⟩,_⟩:=I.list h';rw [e]at c;cases c;rw [d]at f
 injection f with d1 _
 have:b=its':=by simpa using congrArg Array.toList d1
 subst this;exact r.inj g
theorem Inv.tuple_inj(I:Inv X pins σ H s)(h:bJ X.K H a xs)(h':bJ X.K H a ys):xs=ys:=by
 obtain⟨b,r,⟨o,e,_,n,d⟩,_⟩:=I.tuple h;obtain⟨its',g,⟨i,c,_,j,f⟩,_⟩:=I.tuple h';rw [e]at c;cases c;rw [d]at f
 injection f with d1 _
 have:b=its':=by simpa using congrArg Array.toList d1
 subst this;exact r.inj g
end
abbrev Cx.wish(X:Cx)(E:JS->JT->Prop):Cx:={ X with xe:=E }
abbrev Cx.nox(X:Cx):Cx:=X.wish fun _ _=>False
theorem Cx.Ok.wish{X:Cx}(ok:X.Ok)(E:JS->JT->Prop):(X.wish E).Ok:=
 ⟨ok.mod,ok.kind,ok.glob,ok.blt,ok.above,ok.inj,ok.has,ok.cab,ok.hd,ok.frames,ok.stk,ok.exf,ok.bs,ok.bsz,ok.noex,ok.exfs,ok.funs,ok.frf⟩
theorem Cx.Ok.unwish{X:Cx}{E:JS->JT->Prop}(ok:(X.wish E).Ok):X.Ok:=
 ⟨ok.mod,ok.kind,ok.glob,ok.blt,ok.above,ok.inj,ok.has,ok.cab,ok.hd,ok.frames,ok.stk,ok.exf,ok.bs,ok.bsz,ok.noex,ok.exfs,ok.funs,ok.frf⟩
section
variable {X:Cx}{pins:List (YP × Obj)}{σ:St}{H:Hp}{s:JT}{E:JS->JT->Prop}
theorem Inv.wish(I:Inv X pins σ H s)(E:JS->JT->Prop):Inv (X.wish E) pins σ H s:=⟨I.ok.wish E,I.os,I.bare,I.base,I.loc,I.cell,I.free,I.freeC,I.pin,I.hok,I.len⟩
theorem Inv.unwish(I:Inv (X.wish E) pins σ H s):Inv X pins σ H s:=⟨I.ok.unwish,I.os,I.bare,I.base,I.loc,I.cell,I.free,I.freeC,I.pin,I.hok,I.len⟩
theorem SP.unwish{D:jR}{f:Flow}{s':JT}(h:SP (X.wish E) pins D f s'):SP X pins D f s':=by
 cases f with
 | next=>obtain⟨a,b,I,q⟩:=h;exact⟨a,b,I.unwish,q⟩
 | brk=>obtain⟨a,b,I,q⟩:=h;exact⟨a,b,I.unwish,q⟩
 | cont=>obtain⟨a,b,I,q⟩:=h;exact⟨a,b,I.unwish,q⟩
 | ret u=>obtain⟨v,a,b,I,r,q⟩:=h;exact⟨v,a,b,I.unwish,r,q⟩
theorem eX.nox{st:List Zj}{t:TS}(h:eX X.nox st t):eX X st t:=fun a s b H D I c=>
 YW (h a s b H D (I.wish _) c) (fun _ _ q=>q.unwish) fun _ _ z=>Zx z
end
section
variable {X:Cx}{st:Zj}{rest:List Zj}{t u:TS}{e:Expr}{te:TE}{pos:Pos}
def OG:TS:=fun D a H=>D.nx a H
def OM(t u:TS):TS:=fun D a H=>t { D with nx:=u D } a H
theorem HR:eX X [] OG:=fun _ _ a H _ I h=>Jw ⟨a,H,I,h⟩
theorem sZ(g:PS X st t)(e:eX X rest u):eX X (st::rest) (OM t u):=by
 intro a s c H D I h;refine wpAny_execs_cons (aU (g a s c H { D with nx:=u D } I h) fun f d q=>?_)
 cases f with
 | next=>
  obtain⟨b,j,i,q⟩:=q;exact e a d b j D i q
 | ret v=>exact q
 | brk=>exact q
 | cont=>exact q
theorem qB(c:PS X st t):eX X [st] t:=by
 intro a s b H D I h;refine wpAny_execs_cons (aU (c a s b H D I h) fun f d q=>?_)
 cases f with
 | next=>exact Jw q
 | ret v=>exact q
 | brk=>exact q
 | cont=>exact q
theorem Inv.quiet{pins:List (YP × Obj)}{a:St}{H:Hp}{s:JT}(I:Inv X pins a H s):interactive X.env=false:=by simp [interactive,I.ok.kind]
def Oy(te:TE):TS:=fun D a H=>te a H fun _ b=>D.nx a b
theorem sY(he:PE X e te)(hs:ZC e none pos.line X.env=pure false:=by rfl):PS X (.Expr e pos) (Oy te):=by
 intro a s b H D I h;exact wpAny_Expr_any (aU (he a s b H _ I h) fun v g ⟨x,f,d,i,c⟩=>⟨b,f,d,c⟩) I.quiet hs
def OL(te:TE):TS:=fun D a H=>te a H D.rt
theorem wU(he:PE X e te):PS X (.Return (some e) pos) (OL te):=by
 intro a s b H D I h;exact wpAny_Return_some (aU (he a s b H _ I h) fun v i ⟨x,g,f,c,d⟩=>⟨x,b,g,f,c,d⟩)
def OD(c:TT)(t u:TS):TS:=fun D a H=>c a H fun b d=>if b=true then t D a d else u D a d
theorem HQ{c:Expr}{a b:List Zj}{g:TT}(n:PT X c g)(p:eX X a t)(o:eX X b u):PS X (.If c a b pos) (OD g t u):=by
 intro e s f H D I h;refine wpAny_If (aU (n e s f H _ I h) fun d i m=>?_);obtain⟨l,k,j⟩:=m
 cases d with
 | true=>exact p e i f l D k j
 | false=>exact o e i f l D k j
end
abbrev TG:=V->St->Hp->(St->Hp->Prop)->Prop
abbrev nA:=List V->St->Hp->(St->Hp->Prop)->Prop
def PG(X:Cx)(a:Expr)(t:TG):Prop:=
 ∀(pins:List (YP × Obj)) (s:JT) (σ:St) (H:Hp) (v:V) (u:JS) (Q:St->Hp->Prop),Inv X pins σ H s->RelV v u->t v σ H Q->
  JW (JX X.prog X.w) X.A (assign a X.env u) (fun _ b=>∃ σ' H',Inv X pins σ' H' b/\Q σ' H') X.xe s
def lL(X:Cx)(ts:List Expr)(t:nA):Prop:=
 ∀(pins:List (YP × Obj)) (s:JT) (σ:St) (H:Hp) (vs:List V) (us:List JS) (Q:St->Hp->Prop),Inv X pins σ H s->Vals vs us->t vs σ H Q->
  JW (JX X.prog X.w) X.A (assignInOrder ((ZE ts X.env).map (·.2)) us) (fun _ a=>∃ σ' H',Inv X pins σ' H' a/\Q σ' H') X.xe s
section
variable {X:Cx}{pos:Pos}
def gY(i:Nat):TG:=fun v a H Q=>Q (a.set i (some v)) H
theorem mT(e:X.N.Nodup)(c:X.N[i]?=some x)(b:Loc X.env.scope x)(d:X.fn x=true ∨ X.env.scope.names.lookup x=some .local:=by first | exact .inl rfl | exact .inr rfl | assumption):PG X (.Name x pos) (gY i):=by
 intro a s g H v u Q I r h;exact wpAny_assign_Name (KH I e c b r (fun j f=>⟨_,H,f,h⟩) d)
def MB:nA:=fun b a H Q=>b=[]/\Q a H
def MA(t:TG)(u:nA):nA:=fun c b H Q=>∃ v r,c=v::r/\t v b H fun a d=>u r a d Q
theorem IN:lL X [] MB:=by
 intro a s b H c d Q I r h;obtain⟨e,h⟩:=h;subst e;cases r;exact assignInOrder_nil ⟨b,H,I,h⟩
theorem IM{e:Expr}{es:List Expr}{t:TG}{u:nA}(k:PG X e t)(j:lL X es u)
  (hs:(ZE (e::es) X.env).map (·.2)=assign e X.env::(ZE es X.env).map (·.2):=by rfl):lL X (e::es) (MA t u):=by
 intro a s c H o q Q I r h;obtain⟨v,p,l,h⟩:=h;subst l
 cases r with
 | cons r g=>
  rw [hs];refine assignInOrder_cons (aU (k a s c H _ _ _ I r h) fun _ f d=>?_);obtain⟨b,n,m,i⟩:=d;exact j a f b n _ _ Q m g i
def MC(K:PySem.W.Frag)(n:Nat)(t:nA):TG:=fun v b H Q=>∃ a xs,v=.ref a/\bJ K H a xs/\xs.length=n/\t xs b H Q
theorem IL(y:X.calm=true)(h:lL X es t)
  (w:(ZE es X.env).length=n:=by rfl) (f:(ZE es X.env).findIdx? (·.1)=none:=by rfl):PG X (.Tuple es k pos) (MC X.K n t):=by
 intro c s g H v u Q I r d;obtain⟨a,j,A,q,x,d⟩:=d;subst A;cases r;obtain⟨l,i,p,E⟩:=I.tuple q;refine assign_Tuple_tuple (I.ok.hd y) p (by simp [w,<- x,i.length]) f fun z m=>?_;have B:Inv X c g H { s with heap:=z }:=I.kept (t':=s.toks) fun b o e=>m b o (QB (Qs e)) e;exact h c _ g H j _ Q B (by simpa using i) d
def DU(te:TE)(g:TG):TS:=fun D a H=>te a H fun x b=>g x a b D.nx
theorem ps_set{i:Nat}{x:Str}{e:Expr}{te:TE}{a:Pos}(l:X.N.Nodup)(j:X.N[i]?=some x)(g:Loc X.env.scope x)(he:PE X e te)(hs:ZC e (some (.Name x a)) pos.line X.env=pure false:=by rfl)(k:X.fn x=true ∨ X.env.scope.names.lookup x=some .local:=by first | exact .inl rfl | exact .inr rfl | assumption):
  PS X (.Assign [.Name x a] e pos) (DU te (gY i)):=by
 intro b s c H D I h;refine wpAny_Assign_Name (aU (he b s c H _ I h) fun v q ⟨y,o,n,d,f⟩=>?_) hs;exact KH n l j g d (fun p m=>⟨_,o,m,f⟩) k
def Xk(c:TT)(e:TS):TS:=fun D a H=>∃ W:Nat->St->Hp->Prop,(∃ m,W m a H)/\∀ m a H,W m a H->
 c a H fun b d=>if b=true then ∃ N:St->Hp->Prop,(∀ σ' H',N σ' H'->∃ m',m'<m/\W m' σ' H')/\e { D with nx:=N,ct:=N,bk:=D.nx } a d else D.nx a d
theorem WM(q:PassesOwn (JX X.prog X.w) X.A X.env X.xe)(M:PT X c tc)(O:eX X body tb):PS X (.While c body [] pos) (Xk tc tb):=by
 intro d s y H D I h;obtain⟨W,⟨K,E⟩,turn⟩:=h;refine wpAny_While (codeAny_whileLoop (fun n J=>∃ σ' H',Inv X d σ' H' J/\W n σ' H') ?_ K ⟨y,H,I,E⟩);rintro n G ⟨e,x,Q,B⟩;refine Ja q (aU (M d G e x _ Q (turn n e x B)) fun b F z=>?_);obtain⟨u,t,j⟩:=z
 cases b with
 | true=>
  obtain⟨N,r,j⟩:=j;rw [if_pos rfl];refine Ja q (aU (O d F e u _ t j) fun f S i=>?_)
  cases f with
  | next=>
   obtain⟨a,g,p,l⟩:=i;obtain⟨m,o,k⟩:=r a g l
   exact⟨m,o,a,g,p,k⟩
  | cont=>
   obtain⟨a,g,p,l⟩:=i;obtain⟨m,o,k⟩:=r a g l
   exact⟨m,o,a,g,p,k⟩
  | brk=>exact i
  | ret v=>exact i
 | false=>
  rw [if_neg Qv];exact Jw ⟨e,u,t,j⟩
end
structure It where
 go:Nat->Hp->Prop
 yld:Nat->Hp->V->Hp->Prop
 stop:Nat->Hp->Prop
def g9(X:Cx)(pins:List (YP × Obj))(H:Hp)(b:YP):Prop:=
 H b=none/\b≠X.env.locals/\b∉X.fs/\(b∈X.ex ∨ X.s₀.heap.objs.size<=b)/\(∀ x c,X.env.cells.lookup x=some c->c≠b)/\∀ p∈X.pn++pins,p.1≠b
theorem Inv.fpOk(I:Inv X pins σ H s)(a:s.heap.objs.size<=b)(f:H' b=none):g9 X pins H' b:=by
 refine⟨f,YZ (QJ I.lt a),I.nofs a,.inr (Qr I.sz a),fun x c e z=>?_,fun p d z=>?_⟩
 ·obtain⟨v,q⟩:=I.cell x c e;exact absurd (QJ q.lt (by rw [z];exact a)) (Jl _)
 ·exact absurd (QJ (Qs (I.pin p d).1) (by rw [z];exact a)) (Jl _)
structure kO(P:JY)(w:J1)(K:PySem.W.Frag)(tg:Expr)(J:It)(fp:List YP)(it:YP)(tn:Nat->Heap->Prop):Prop where
 mem:it∈fp
 obj:∀ i h,tn i h->∀ b∈fp,∃ o,h.get? b=some o/\∀ v,o.data≠.cell v
 keep:∀ i h h',tn i h->(∀ b∈fp,∀ o,h.get? b=some o->h'.get? b=some o)->tn i h'
 item:∀(X:Cx),X.prog=P->X.w=w->X.K=K->X.calm=true->∀(i:Nat) (pins:List (YP × Obj)) (s:JT) (σ:St) (H:Hp) (E:JS->JT->Prop),Inv X pins σ H s->(∀ b∈fp,g9 X pins H b)->tn i s.heap->J.go i H->
  JW (JX P w) X.A (UI (.ref it)) (fun r s1=>∃ u,r=some u /\
   JW (JX P w) X.A (UU tg (.ref it) u) (fun _ s2=>∃ x H',Inv X pins σ H' s2/\RelV x u/\J.yld i H x H'/\tn (i+1) s2.heap/\∀ b∈fp,H' b=none) E s1) E s
 done:∀(X:Cx),X.prog=P->X.w=w->X.K=K->X.calm=true->∀(i:Nat) (pins:List (YP × Obj)) (s:JT) (σ:St) (H:Hp) (E:JS->JT->Prop),Inv X pins σ H s->(∀ b∈fp,g9 X pins H b)->tn i s.heap->J.stop i H->
  JW (JX P w) X.A (UI (.ref it)) (fun r s1=>r=none/\Inv X pins σ H s1) E s
 self:∀(A:Around) (i:Nat) (s:JT) (Q:JS->JT->Prop) (E:JS->JT->Prop),tn i s.heap->Q (.ref it) s->JW (JX P w) A (pyIter (.ref it)) Q E s
abbrev TI:=St->Hp->(It->Hp->Prop)->Prop
def Db(X:Cx)(pins:List (YP × Obj))(d:St)(e:Expr)(R:It->Hp->Prop)(a:JS)(c:JT):Prop:=
 ∃(it:YP) (fp:List YP) (tn:Nat->Heap->Prop) (J:It) (H':Hp),a=.ref it/\Inv X pins d H' c/\kO X.prog X.w X.K e J fp it tn/\tn 0 c.heap/\(∀ b∈fp,g9 X pins H' b)/\R J H'
def PI(X:Cx)(c a:Expr)(b:TI):Prop:=
 ∀(pins:List (YP × Obj)) (s:JT) (σ:St) (H:Hp) (R:It->Hp->Prop),Inv X pins σ H s->b σ H R->
  JW (JX X.prog X.w) X.A (Za a X.env) (fun v d=>JW (JX X.prog X.w) X.A (pyIter v) (Db X pins σ c R) X.xe d) X.xe s
theorem uB(b:s.heap.get? it=some o)(e:o.cls=.type n)(d:o.data=.fields vs)
  (c:["enumerate","zip","dict_itemiterator","dict_reverseitemiterator","odict_iterator","itertools.zip_longest","itertools.pairwise"].contains n=false) (a:Q () s):JW M A (UU tg (.ref it) u) Q E s:=by
 unfold UU
 cases tg <;> first
  | exact Qb a
  | (cases u <;> first
    | exact Qb a
    | (refine Qa (wpAny_load b ?_)
       rw [e,d]
       show JW M A (if(["enumerate","zip","dict_itemiterator","dict_reverseitemiterator","odict_iterator","itertools.zip_longest","itertools.pairwise"].contains n && vs[0]? == some (Z2 _))=true then _ else _) Q E s
       rw [if_neg (by intro h;rw [c,Bool.false_and]at h;cases h)]
       exact Qb a))
def CO(K:PySem.W.Frag)(a:YP):It:=
 ⟨fun i H=>∃ xs x,bY K H a xs/\xs[i]?=some x,fun i H x b=>b=H/\∀ xs,bY K H a xs->xs[i]?=some x,fun i H=>∃ xs,bY K H a xs/\xs.length<=i⟩
def CP(K:PySem.W.Frag)(a:YP):It:=
 ⟨fun i H=>∃ xs x,bJ K H a xs/\xs[i]?=some x,fun i H x b=>b=H/\∀ xs,bJ K H a xs->xs[i]?=some x,fun i H=>∃ xs,bJ K H a xs/\xs.length<=i⟩
def uQ(a:Int)(n:Nat):It:=⟨fun i _=>i<n,fun i H x b=>b=H/\x=.int (a+i),fun i _=>n<=i⟩
theorem Kd{P:JY}{w:J1}{K:PySem.W.Frag}{Y:Expr}(a it:YP):kO P w K Y (CO K a) [it] it (fun i h=>h.IsListIter it a i) where
 mem:=by simp
 obj:=fun i h f b j=>by
  have e:b=it:=by simpa using j
  subst e;obtain⟨o,e,c,d⟩:=f
  exact⟨o,e,fun v z=>by rw [d]at z;cases z⟩
 keep:=fun i h q f k=>f.at fun o e=>k it (by simp) o e
 item:=by
  intro X F A G T i g s S H E I n f B;subst F A G;obtain⟨U,x,m,y⟩:=B;obtain⟨t,r,p,hz⟩:=I.list m;obtain⟨u,hu,ru⟩:=r.get y;obtain⟨Q,O,f2,N,M,J⟩:=n it (by simp);refine wpAny_pyNext_list_item f p.isList (x:=u) (by simpa using hu) fun q l Z=>?_;have I1:Inv X g S H { s with heap:=q }:=I.turned (t':=s.toks) (fun b o j e=>(Z.2 b j).trans e) Q O N M J;obtain⟨o,e,c,d⟩:=id l
  exact⟨u,rfl,uB (s:={ s with heap:=q }) e c d (by decide) ⟨x,H,I1,ru,⟨rfl,fun ys hy=>by rw [I.list_inj hy m];exact y⟩,l,fun b j=>(n b j).1⟩⟩
 done:=by
  intro X F A G T i g s S H E I n f B;subst F A G;obtain⟨U,m,y⟩:=B;obtain⟨t,r,p,hz⟩:=I.list m;obtain⟨Q,O,f2,N,M,J⟩:=n it (by simp);have hl:=r.length;exact wpAny_pyNext_list_end (I.ok.hd T) f p.isList (by simp;lia) fun q eb=>⟨rfl,I.turned (t':=s.toks) (fun b o j e=>eb b o j e) Q O N M J⟩
 self:=fun _ _ _ _ _ f h=>wpAny_pyIter_listiter f h
theorem Ke{P:JY}{w:J1}{K:PySem.W.Frag}{Y:Expr}(a it:YP):kO P w K Y (CP K a) [it] it (fun i h=>h.IsTupleIter it a i) where
 mem:=by simp
 obj:=fun i h f b l=>by
  have e:b=it:=by simpa using l
  subst e;obtain⟨o,e,c,d⟩:=f
  exact⟨o,e,fun v z=>by rw [d]at z;cases z⟩
 keep:=fun i h r f k=>f.at fun o e=>k it (by simp) o e
 item:=by
  intro X F A G T i g s S H E I q f B;subst F A G;obtain⟨U,x,n,y⟩:=B;obtain⟨j,t,p,hz⟩:=I.tuple n;obtain⟨u,hu,ru⟩:=t.get y;obtain⟨Q,O,f2,N,M,J⟩:=q it (by simp);refine wpAny_pyNext_tuple_item f (show s.heap.IsTuple a j.toArray from p) (x:=u) (by simpa using hu) fun r m Z=>?_;have I1:Inv X g S H { s with heap:=r }:=I.turned (t':=s.toks) (fun b o l e=>(Z.2 b l).trans e) Q O N M J;obtain⟨o,e,c,d⟩:=id m
  exact⟨u,rfl,uB (s:={ s with heap:=r }) e c d (by decide) ⟨x,H,I1,ru,⟨rfl,fun ys hy=>by rw [I.tuple_inj hy n];exact y⟩,m,fun b l=>(q b l).1⟩⟩
 done:=by
  intro X F A G T i g s S H E I q f B;subst F A G;obtain⟨U,n,y⟩:=B;obtain⟨j,t,p,hz⟩:=I.tuple n;obtain⟨Q,O,f2,N,M,J⟩:=q it (by simp);have hl:=t.length;exact wpAny_pyNext_tuple_end (I.ok.hd T) f (show s.heap.IsTuple a j.toArray from p) (by simp;lia) fun r eb=>⟨rfl,I.turned (t':=s.toks) (fun b o l e=>eb b o l e) Q O N M J⟩
 self:=fun _ _ _ _ _ f h=>wpAny_pyIter_tupleiter f h
theorem zTd{P:JY}{w:J1}{K:PySem.W.Frag}{N:Expr}(it:YP)(g:Int)(n:Nat):kO P w K N (uQ g n) [it] it (fun i h=>IsRangeIter h it (g+(i:Nat) * 1) ((n:Int)-(i:Nat)) 1) where
 mem:=by simp
 obj:=fun i h a b d=>by
  have e:b=it:=by simpa using d
  subst e
  exact⟨_,a,fun v z=>by
   have M:Data.fields _=Data.cell v:=z
   cases M⟩
 keep:=fun i h l a k=>k it (by simp) _ a
 item:=by
  intro X r m u q i c s G H E I j a p;subst r m u;obtain⟨F,B,S,A,y,x⟩:=j it (by simp);have W:=Walks.range (prog:=X.prog) (w:=X.w) (I.ok.hd q) it g 1 n;refine W.item i s _ _ p a fun v l J Q f O=>?_;obtain⟨t,rfl⟩:=Q;have U:Inv X c G H { s with heap:=l,toks:=J }:=I.turned (fun b o d e=>O b o (by simpa using d) e) F B A y x
  refine⟨_,rfl,uB (s:={ s with heap:=l,toks:=J }) (n:="range_iterator") f rfl rfl (by decide) ⟨.int (g+i),H,U,⟨t,?_⟩,⟨rfl,rfl⟩,f,fun b d=>(j b d).1⟩⟩
  rw [Int.mul_one]
 done:=by
  intro X r m u q i c s G H E I j a p;subst r m u;obtain⟨F,B,S,A,y,x⟩:=j it (by simp);exact wpAny_pyNext_range_end (I.ok.hd q) a (by have:n<=i:=p;lia) fun l T=>⟨rfl,I.turned (t':=s.toks) (fun b o d e=>T b o d e) F B A y x⟩
 self:=fun _ _ _ _ _ a h=>wpAny_pyIter_rangeiter a h
section
variable {X:Cx}{tg:Expr}
theorem zSc{pins:List (YP × Obj)}{c:St}{H:Hp}{s:JT}{R:It->Hp->Prop}{E:JS->JT->Prop}{lo a:Int}{t u v:Tok}{tk:Nat}(I:Inv X pins c H s)(i:-(2 ^ 62)<=lo)(h:lo<2 ^ 62)(g:-(2 ^ 62)<=a)(f:a<2 ^ 62)
  (q:R (uQ lo (a-lo).toNat) H):JW (JX X.prog X.w) X.A (pyIter (.ref s.heap.objs.size)) (Db X pins c tg R) E { s with heap:=s.heap.push { cls:=.type "range",data:=.fields #[.int lo t,.int a u,.int 1 v] },toks:=tk }:=by
 refine wpAny_pyIter_range (IsRange.new ..) (small_one i h g f) ?_;have I1:Inv X pins c H { s with heap:=s.heap.push { cls:=.type "range",data:=.fields #[.int lo t,.int a u,.int 1 v] },toks:=tk }:=I.kept fun b o e=>Qf _ e
 refine⟨(s.heap.push { cls:=.type "range",data:=.fields #[.int lo t,.int a u,.int 1 v] }).objs.size,[(s.heap.push { cls:=.type "range",data:=.fields #[.int lo t,.int a u,.int 1 v] }).objs.size],_,_,H,rfl,
  I1.kept (t':=tk) fun b o e=>Qf _ e,zTd _ lo (a-lo).toNat,?_,fun b d=>?_,q⟩
 ·have k:lo+((0:Nat):Int) * 1=lo:=by simp
  have j:(((a-lo).toNat:Nat):Int)-((0:Nat):Int)=Builtin.Range.rangeSize lo a 1:=by rw [rangeSize_one];split <;> lia
  show IsRangeIter _ _ (lo+((0:Nat):Int) * 1) ((((a-lo).toNat:Nat):Int)-((0:Nat):Int)) 1
  rw [k,j];exact Qu _ rfl
 ·have e:b=(s.heap.push { cls:=.type "range",data:=.fields #[.int lo t,.int a u,.int 1 v] }).objs.size:=by simpa using d
  subst e;exact I1.fpOk (Qj _) (I1.hok.fresh (Qj _))
def iT(c:TA):TI:=fun a H R=>c a H fun b d=>∃ j:Int,b=[.int j]/\-(2 ^ 62)<=j/\j<2 ^ 62/\R (uQ 0 j.toNat) d
theorem IO{a:Expr}{f:TA}{p b:Pos}(n:Gl X "range")(m:X.mg "range"=none)(o:PA X [a] f)(hs:JU [a] X.env=[(false,Za a X.env)]:=by rfl):PI X tg (.Call (.Name "range" p) [a] [] b) (iT f):=by
 intro c s g H R I h;refine Call_ (oS I n m boot_range (Y0 (aU (o b c s g H _ I h) fun w x ⟨v,y,u,k,d⟩=>?_) hs rfl));obtain⟨j,e,d,l,q⟩:=d;subst e
 cases k with
 | cons r i=>
  cases i;obtain⟨t,rfl⟩:=r;exact call_range_1 (zSc u (by lia) (by lia) d l (by simpa using q))
def OA(c:TI)(g:TG)(d:TS):TS:=fun D a H=>c a H fun J f=>∃ W:Nat->Nat->St->Hp->Prop,(∃ m,W 0 m a f)/\∀ i m a H,W i m a H->
 (J.stop i H/\D.nx a H) ∨ (J.go i H/\∃ N:St->Hp->Prop,(∀ σ' H',N σ' H'->∃ m',m'<m/\W (i+1) m' σ' H')/\∀ x H',J.yld i H x H'->g x a H' fun b e=>d { D with nx:=N,ct:=N,bk:=D.nx } b e)
def sX(a:List YP)(h:Heap):List (YP × Obj):=a.filterMap fun b=>(h.get? b).map fun o=>(b,o)
theorem yA(a:b∈fp)(e:h.get? b=some o):(b,o)∈sX fp h:=List.mem_filterMap.mpr ⟨b,a,by rw [e];rfl⟩
theorem VM(a:p∈sX fp h):p.1∈fp/\h.get? p.1=some p.2:=by
 obtain⟨b,c,e⟩:=List.mem_filterMap.mp a
 cases q:h.get? b with
 | none=>rw [q]at e;cases e
 | some o=>
  rw [q]at e;have d:(b,o)=p:=QA e;subst d
  exact⟨c,q⟩
theorem Inv.pinned(I:Inv X pins σ H s)(h:∀ b∈fp,g9 X pins H b)(g:∀ b∈fp,∃ o,s.heap.get? b=some o/\∀ v,o.data≠.cell v):Inv X (pins++sX fp s.heap) σ H s:=
 I.pins_of fun p f=>(QE.mp f).elim (fun z=>I.pin p (Qz _ z)) fun z=>by
  obtain⟨a,e⟩:=VM z;obtain⟨k,j,i,_⟩:=h p.1 a;obtain⟨o,c,d⟩:=g p.1 a;rw [e]at c;cases c
  exact⟨e,k,j,i,d⟩
theorem Inv.unpinned(I:Inv X (pins++pl) σ H s):Inv X pins σ H s:=I.pins_of fun p a=>I.pin p (Qz _ (Yf _ a))
theorem BK(F:PassesOwn (JX X.prog X.w) X.A X.env X.xe)(hc:X.calm=true)(hi:PI X tg iter wi)(hg:PG X tg g)(l:eX X body tb)
  (hs:∀ x,Zq iter X.env x=pure x:=by intro _;rfl):PS X (.For tg iter body [] pos) (OA wi g tb):=by
 intro c s σ H D I h;refine wpAny_For (aU (hi c s σ H _ I h) fun v s1 h1=>aU h1 fun a0 s2 h2=>?_) hs;obtain⟨it,K,tn,J,H2,e,I2,T,Q,f2,W,⟨m0,w0⟩,turn⟩:=h2;subst e;have k:∀{H':Hp},(∀ b∈K,H' b=none)->∀ b∈K,g9 X c H' b:=fun hn b l=>⟨hn b l,(f2 b l).2⟩;refine codeAny_forLoop_any (fun n s'=>∃ i σ' H',Inv X c σ' H' s'/\tn i s'.heap/\(∀ b∈K,H' b=none)/\W i n σ' H') ?_ m0 ⟨0,σ,H2,I2,Q,fun b l=>(f2 b l).1,w0⟩;rintro n s3 ⟨i,j,M,I3,B,G,w3⟩;rcases turn i n j M w3 with⟨stop,qn⟩ | ⟨go,N,hN,step⟩
 ·refine Ja F (aU (T.done X rfl rfl rfl hc i c s3 j M X.xe I3 (k G) B stop) fun r s4 y=>?_);obtain⟨U,I4⟩:=y;subst U;exact Jw ⟨j,M,I4,qn⟩
 ·refine Ja F (aU (T.item X rfl rfl rfl hc i c s3 j M X.xe I3 (k G) B go) fun r s4 y=>?_);obtain⟨u,U,h4⟩:=y;subst U;refine Ja F (aU h4 fun _ s5 y=>?_);obtain⟨x,H5,I5,r5,y5,z,Y⟩:=y;have Z:=I5.pinned (k Y) (T.obj _ _ z);refine Ja F (aU (hg _ s5 j H5 x u _ Z r5 (step x H5 y5)) fun _ s6 y=>?_);obtain⟨O,H6,I6,q6⟩:=y;refine Ja F (aU (l _ s6 O H6 _ I6 q6) fun f S t=>?_)
  have p:∀{a:St}{q:Hp},Inv X (c++sX K s5.heap) a q S->N a q->∃ m,m<n/\∃ i σ' H',Inv X c σ' H' S/\tn i S.heap/\(∀ b∈K,H' b=none)/\W i m σ' H':=fun{a q} I7 E=>by
   obtain⟨m',hm,w7⟩:=hN a q E
   refine⟨m',hm,i+1,a,q,I7.unpinned,T.keep _ _ _ z fun b l o e=>(I7.pin (b,o) (Qz _ (Qz _ (yA l e)))).1,fun b l=>?_,w7⟩
   obtain⟨o,e,d⟩:=T.obj _ _ z b l
   exact(I7.pin (b,o) (Qz _ (Qz _ (yA l e)))).2.1
  cases f with
  | next=>obtain⟨a,q,I7,E⟩:=t;exact p I7 E
  | cont=>obtain⟨a,q,I7,E⟩:=t;exact p I7 E
  | brk=>obtain⟨a,q,I7,t⟩:=t;exact⟨a,q,I7.unpinned,t⟩
  | ret v=>obtain⟨x7,a,q,I7,r7,t⟩:=t;exact⟨x7,a,q,I7.unpinned,r7,t⟩
end
abbrev R2:=V->V->Hp->VK->Prop
def bC(X:Cx)(f:JS->JS->Sem JS)(r:R2):Prop:=
 ∀(pins:List (YP × Obj)) (s:JT) (σ:St) (H:Hp) (x y:V) (v u:JS) (Q:VK),Inv X pins σ H s->RelV x v->RelV y u->r x y H Q->
  JW (JX X.prog X.w) X.A (f v u) (EP X pins σ Q) X.xe s
def nC(X:Cx)(f:JS->Sem JS)(r:V->Hp->VK->Prop):Prop:=
 ∀(pins:List (YP × Obj)) (s:JT) (σ:St) (H:Hp) (x:V) (v:JS) (Q:VK),Inv X pins σ H s->RelV x v->r x H Q->
  JW (JX X.prog X.w) X.A (f v) (EP X pins σ Q) X.xe s
def dA(X:Cx)(f:JS)(r:List V->Hp->VK->Prop):Prop:=
 ∀(pins:List (YP × Obj)) (s:JT) (σ:St) (H:Hp) (xs:List V) (us:List JS) (Q:VK),Inv X pins σ H s->Vals xs us->r xs H Q->
  JW (JX X.prog X.w) X.A (call f us) (EP X pins σ Q) X.xe s
def lY(r:R2)(c b:TE):TE:=fun a H Q=>c a H fun x e=>b a e fun y d=>r x y d Q
def OQ(r:V->Hp->VK->Prop)(b:TE):TE:=fun a H Q=>b a H fun x c=>r x c Q
def rI(C:Int->Int->Prop)(g:Int->Int->V):R2:=fun x y H Q=>∃ i j,x=.int i/\y=.int j/\C i j/\Q (g i j) H
def lW(g:Int->Int->V):R2:=fun x y H Q=>∃ i j,x=.int i/\y=.int j/\Q (g i j) H
def rU(g:Int->V):V->Hp->VK->Prop:=fun x H Q=>∃ i,x=.int i/\Q (g i) H
section
variable {X:Cx}{a b c:Expr}{ta tb tc:TE}{pos:Pos}
theorem y8(n:PE X a ta)(m:PE X b tb){pins:List (YP × Obj)}{s:JT}{c:St}{H:Hp}{R:V->V->Hp->Prop}(I:Inv X pins c H s)
  (h:ta c H fun x H1=>tb c H1 fun y H2=>R x y H2) {Q:JS->JT->Prop}{f:JS->JS->Sem JS}
  (l:∀ v u s2 x y H2,Inv X pins c H2 s2->RelV x v->RelV y u->R x y H2->JW (JX X.prog X.w) X.A (f v u) Q X.xe s2):
  JW (JX X.prog X.w) X.A (Za a X.env) (fun v s₁=>JW (JX X.prog X.w) X.A (Za b X.env) (fun u s₂=>JW (JX X.prog X.w) X.A (f v u) Q X.xe s₂) X.xe s₁) X.xe s:=by
 refine aU (n pins s c H _ I h) fun v e d=>?_;obtain⟨x,H1,p,i,k⟩:=d;refine aU (m pins e c H1 _ p k) fun u s2 d=>?_;obtain⟨y,H2,o,g,j⟩:=d;exact l v u s2 x y H2 o i g j
theorem NI{op:Operator}{r:R2}(i:bC X (Zy op) r)(k:PE X a ta)(j:PE X b tb):PE X (.BinOp a op b pos) (lY r ta tb):=by
 intro c s d H Q I h;exact wpAny_BinOp (y8 k j I h fun v u e x y m l g f q=>i c e d m x y v u Q l g f q)
theorem NJ(g:nC X (unaryOp op) r)(i:PE X a ta):PE X (.UnaryOp op a pos) (OQ r ta):=by
 intro b s c H Q I h;exact UnaryOp_ (aU (i b s c H _ I h) fun v d ⟨x,k,j,e,f⟩=>g b d c k x v Q j e f)
theorem zK{f:JS->JS->Sem JS}{C:Int->Int->Prop}{g:Int->Int->Int}
  (a:∀(i j:Int) (t u:Tok) (s:JT) (Q:JS->JT->Prop) (E:JS->JT->Prop),C i j->Q (.int (g i j) s.toks) { s with toks:=s.toks+1 }->JW (JX X.prog X.w) X.A (f (.int i t) (.int j u)) Q E s):
  bC X f (rI C fun i j=>.int (g i j)):=by
 intro b s l H x y v u Q I e d h;obtain⟨i,j,rfl,rfl,k,q⟩:=h;obtain⟨t,rfl⟩:=e;obtain⟨c,rfl⟩:=d;exact a i j t c s _ _ k ⟨.int (g i j),H,I.tok _,⟨_,rfl⟩,q⟩
theorem DK{f:JS->JS->Sem JS}{g:Int->Int->Int}
  (a:∀(i j:Int) (t u:Tok) (s:JT) (Q:JS->JT->Prop) (E:JS->JT->Prop),Q (.int (g i j) s.toks) { s with toks:=s.toks+1 }->JW (JX X.prog X.w) X.A (f (.int i t) (.int j u)) Q E s):
  bC X f (lW fun i j=>.int (g i j)):=by
 intro b s k H x y v u Q I e d h;obtain⟨i,j,rfl,rfl,q⟩:=h;obtain⟨t,rfl⟩:=e;obtain⟨c,rfl⟩:=d;exact a i j t c s _ _ ⟨.int (g i j),H,I.tok _,⟨_,rfl⟩,q⟩
theorem zJ{f:JS->JS->Sem JS}{g:Int->Int->Bool}
  (a:∀(i j:Int) (t u:Tok) (s:JT) (Q:JS->JT->Prop) (E:JS->JT->Prop),Q (.bool (g i j)) s->JW (JX X.prog X.w) X.A (f (.int i t) (.int j u)) Q E s):
  bC X f (lW fun i j=>.bl (g i j)):=by
 intro b s k H x y v u Q I e d h;obtain⟨i,j,rfl,rfl,q⟩:=h;obtain⟨t,rfl⟩:=e;obtain⟨c,rfl⟩:=d;exact a i j t c s _ _ ⟨.bl (g i j),H,I,rfl,q⟩
def Lm(i j:Int):Prop:=0<j/\j<1073741824
def uM(i j:Int):Prop:=(-(2 ^ 64)<i/\i<2 ^ 64) ∨ (-(2 ^ 64)<j/\j<2 ^ 64)
theorem uM.ok{i j:Int}(h:uM i j):IntMulOk i j:=by
 rcases h with⟨b,a⟩ | ⟨b,a⟩
 ·exact .of_left (intBits_le_64 b a)
 ·exact .of_right (intBits_le_64 b a)
theorem WT:bC X (Zy .Add) (lW fun i j=>.int (i+j)):=DK fun _ _ _ _ _ _ _ q=>add_int q
theorem W1:bC X (Zy .Sub) (lW fun i j=>.int (i-j)):=DK fun _ _ _ _ _ _ _ q=>sub_int q
theorem WZ:bC X (Zy .Mult) (rI uM fun i j=>.int (i * j)):=zK fun _ _ _ _ _ _ _ a q=>mul_int q a.ok
theorem WW:bC X (Zy .FloorDiv) (rI Lm fun i j=>.int (i / j)):=zK fun i j _ _ _ _ _ a q=>by
 have c:(0:Int)<j:=a.1;have b:j<1073741824:=a.2;exact floordiv_int (by lia) (by rw [Int.fdiv_eq_ediv_of_nonneg i (by lia)];exact q) (.inl (PyProof.noPylong_small (by lia)))
theorem WY:bC X (Zy .Mod) (rI (fun _ j=>0<j) fun i j=>.int (i % j)):=zK fun i j _ _ _ _ _ a q=>by
 have b:(0:Int)<j:=a;exact mod_int' (by lia) (by rw [Int.fmod_eq_emod_of_nonneg i (by lia)];exact q)
theorem OR{f:JS->Sem JS}{g:Int->Int}
  (a:∀(i:Int) (t:Tok) (s:JT) (Q:JS->JT->Prop) (E:JS->JT->Prop),Q (.int (g i) s.toks) { s with toks:=s.toks+1 }->JW (JX X.prog X.w) X.A (f (.int i t)) Q E s):
  nC X f (rU fun i=>.int (g i)):=by
 intro b s d H x v Q I c h;obtain⟨i,rfl,q⟩:=h;obtain⟨t,rfl⟩:=c;exact a i t s _ _ ⟨.int (g i),H,I.tok _,⟨_,rfl⟩,q⟩
theorem zTj:nC X (unaryOp .USub) (rU fun i=>.int (-i)):=OR fun _ _ _ _ _ q=>neg_int q
theorem Th(I:Inv X pins σ H s)(q:Q (.bl k) H)(e:k=k'):EP X pins σ Q (.bool k') s:=by
 subst e
 exact⟨.bl k,H,I,rfl,q⟩
theorem NE:bC X (Zf .Lt) (lW fun i j=>.bl (decide (i<j))):=zJ fun _ _ _ _ _ _ _ q=>lt_int q
theorem ND:bC X (Zf .LtE) (lW fun i j=>.bl (decide (i<=j))):=zJ fun _ _ _ _ _ _ _ q=>le_int q
theorem NC:bC X (Zf .Gt) (lW fun i j=>.bl (decide (j<i))):=zJ fun _ _ _ _ _ _ _ q=>gt_int q
theorem WX:bC X (Zf .Is) (fun x y H Q=>y=.non/\Q (.bl (decide (x=.non))) H):=by
 intro b s d H x y v u Q I a c h;obtain⟨rfl,q⟩:=h;cases c;refine is_none_gen (Th I q ?_)
 cases x <;> first
  | (cases a;rfl)
  | (obtain⟨t,rfl⟩:=a;rfl)
theorem bC.or{f:JS->JS->Sem JS}{r e:R2}(h:bC X f r)(h':bC X f e):bC X f (fun x y H Q=>r x y H Q ∨ e x y H Q):=by
 intro a s b H x y v u Q I d c q;rcases q with q | q
 ·exact h a s b H x y v u Q I d c q
 ·exact h' a s b H x y v u Q I d c q
theorem dL(b:Expr)(h:op≠.In:=by decide)(a:op≠.NotIn:=by decide):ZH op b=false:=by
 have d:(op == CmpOp.In)=false:=by cases op <;> first | rfl | exact absurd rfl h
 have c:(op == CmpOp.NotIn)=false:=by cases op <;> first | rfl | exact absurd rfl a
 cases b <;> simp [ZH,d,c]
theorem Xi{op:CmpOp}{r:R2}(i:bC X (Zf op) r)(l:PE X a ta)(k:PE X b tb)(j:ZH op b=false):PE X (.Compare a [op] [b] pos) (lY r ta tb):=by
 intro c s d H Q I h;exact wpAny_Compare1 (y8 l k I h fun v u e x y n m g f q=>i c e d n x y v u Q m g f q) j
def Bv(t:TE):TT:=fun a H Q=>t a H fun x b=>∃ k,x=.bl k/\Q k b
theorem wW(q:bC X (Zf op) r)(A:PE X a ta)(w:PE X b tb)(t:ZH op b=false):PT X (.Compare a [op] [b] pos) (Bv (lY r ta tb)):=by
 intro d s f H Q I h
 refine wpAny_isTrue_Compare1 (aU (A d s f H _ I h) fun v i ⟨x,K,F,m,p⟩=>aU (w d i f K _ F p) fun u g ⟨y,J,E,l,o⟩=>
  aU (q d g f J x y v u _ E m l o) fun c M ⟨z,G,B,j,k,e,n⟩=>?_) t
 subst e;cases j;exact Jd ⟨G,B,n⟩
def KU(r g:R2)(f e d:TE):TE:=fun a H Q=>f a H fun x j=>e a j fun y i=>r x y i fun z b=>∃ k,z=.bl k /\
 (if k=true then d a b fun c h=>g y c h Q else Q (.bl false) b)
theorem Xh(M:bC X (Zf op) r)(i:bC X (Zf op') r')(T:PE X a ta)(S:PE X b tb)(O:PE X c tc)
  (N:lastMarks [op,op'] [b,c]=false:=by with_unfolding_all rfl):PE X (.Compare a [op,op'] [b,c] pos) (KU r r' ta tb tc):=by
 intro f s g H Q I h
 refine Compare_chain (aU (T f s g H _ I h) fun v A ⟨x,H1,Y,F,K⟩=>chain_link (aU (S f A g H1 _ Y K) fun u w ⟨y,H2,W,j,J⟩=>
  aU (M f w g H2 x y v u _ W F j J) fun d t ⟨z,n,m,E,k,e,l⟩=>?_)) N
 subst e;cases E;refine Jd ?_
 cases k with
 | false=>exact ite_ff ⟨.bl false,n,m,rfl,l⟩
 | true=>exact ite_tt (chain_last (aU (O f t g n _ m l) fun p q ⟨o,Z,U,B,G⟩=>i f q g Z y o u p Q U j B G))
theorem uH:(sizeLine:Nat)<2 ^ 63:=by rw [QW];decide
theorem WU:bC X (Zy .Add) (fun x y H Q=>∃ i j,x=.str i/\y=.str j/\i.length+j.length<=sizeLine/\Q (.str (i++j)) H):=by
 intro a s f H x y v u Q I d c h;obtain⟨i,j,rfl,rfl,e,q⟩:=h;obtain⟨t,rfl⟩:=d;obtain⟨b,rfl⟩:=c;exact add_str (fun b g=>⟨.str (i++j),H,I.tok _,⟨_,rfl⟩,q⟩) e
theorem jQ(r:Vals [x] us):∃ u,us=[u]/\RelV x u:=by
 cases r with
 | cons b a=>cases a;exact⟨_,rfl,b⟩
theorem Bz(r:Vals [x,y] us):∃ u w',us=[u,w']/\RelV x u/\RelV y w':=by
 cases r with
 | cons d c=>
  cases c with
  | cons b a=>cases a;exact⟨_,_,rfl,d,b⟩
theorem PL:dA X (.builtin "abs") (fun xs H Q=>∃ i,xs=[.int i]/\Q (.int (if i<0 then -i else i)) H):=by
 intro a s b H xs c Q I r h;obtain⟨i,rfl,q⟩:=h;obtain⟨u,rfl,t,rfl⟩:=jQ r;exact call_abs_int fun u d=>⟨.int (if i<0 then -i else i),H,I.tok _,⟨_,rfl⟩,q⟩
theorem Pa(c:X.calm=true):dA X (.builtin "max") (fun xs H Q=>∃ i j,xs=[.int i,.int j]/\Q (.int (if j > i then j else i)) H):=by
 intro b s d H xs f Q I r h;obtain⟨i,j,rfl,q⟩:=h;obtain⟨u,e,rfl,⟨t,rfl⟩,⟨l,rfl⟩⟩:=Bz r;refine max_two_ints (I.ok.hd c) fun m g k=>⟨_,H,I.kept k,?_,q⟩;by_cases a:j > i
 ·rw [if_pos a,if_pos a];exact⟨_,rfl⟩
 ·rw [if_neg a,if_neg a];exact⟨_,rfl⟩
theorem Pb(c:X.calm=true):dA X (.builtin "min") (fun xs H Q=>∃ i j,xs=[.int i,.int j]/\Q (.int (if j<i then j else i)) H):=by
 intro b s d H xs f Q I r h;obtain⟨i,j,rfl,q⟩:=h;obtain⟨u,e,rfl,⟨t,rfl⟩,⟨l,rfl⟩⟩:=Bz r;refine min_two_ints (I.ok.hd c) fun m g k=>⟨_,H,I.kept k,?_,q⟩;by_cases a:j<i
 ·rw [if_pos a,if_pos a];exact⟨_,rfl⟩
 ·rw [if_neg a,if_neg a];exact⟨_,rfl⟩
end
structure m6(h:Heap)(x dx C:YP)(mA:Str->Option JS):Prop where
 obj:h.get? x=some (PySem.W.instObj C dx)
 ns:h.Ns1 dx mA
 ne:dx≠x
theorem V5{h:Heap}{f:YP}{c:Str->Option JS}(n:h.Ns1 f c):∃ od,h.get? f=some od/\∀ name,PySem.W.lookIn name od=some (c name):=by
 obtain⟨o,d,p,i,l,k,_,j⟩:=n
 refine⟨o,i,fun name=>?_⟩
 have e:=j name;unfold nsFind findBy at e;rw [<- Array.find?_toList]at e;unfold PySem.W.lookIn;rw [l];dsimp only;split
 ·rename_i y q;rw [q]at e;exact congrArg some e
 ·rename_i q;rw [q]at e
  have a:d.toList.any (·.refKey)=false:=by
   rw [List.any_eq_false];intro y g;obtain⟨z,t,b⟩:=k y (Array.mem_toList_iff.mp g)
   simp [DictEntry.refKey,b]
  have m:¬ d.toList.any (·.refKey)=true:=by rw [a];exact Qv
  rw [if_neg m];exact congrArg some e
theorem m6.look(I:m6 h x dx C mA):∃ od,PySem.W.InstAt h x (PySem.W.instObj C dx) C (some od)/\∀ name,PySem.W.lookIn name od=some (mA name):=
 let⟨od,ho,hl⟩:=V5 I.ns
 ⟨od,⟨I.obj,rfl,rfl,ho⟩,hl⟩
section
variable {prog:JY}{w:J1}{A:Around}{E:JS->JT->Prop}{s:JT}{K:PySem.W.Frag}{x dx C f:YP}{mA:Str->Option JS}{name:Str}{v:JS}
theorem Ty(X:K.In s.heap)(I:m6 s.heap x dx C mA)(e:PySem.W.plainGet K C name=true)(d:PySem.W.hasDictIn K C=true)
  (f:PySem.W.findIn K (.ref C) name=some none) (b:mA name=some v) (a:PySem.W.handedIn v=true) (h:Q v { s with toks:=s.toks+1 }):
  JW (JX prog w) A (getAttr (.ref x) name expr) Q E s:=by
 obtain⟨g,J,c⟩:=I.look;exact PySem.W.get_value X J (PySem.W.plainGet_of e).1 (PySem.W.findObj_own d f rfl (by rw [c,b])) a h
theorem Tz(X:K.In s.heap)(I:m6 s.heap x dx C mA)(a:PySem.W.plainGet K C name=true)
  (g:PySem.W.findIn K (.ref C) name=some (some (.ref f))) (d:PySem.W.isFn K (.ref f)=true) (c:mA name=none) (h:Q (.ref f,[.ref x]) s):
  JW (JX prog w) A (U2 (.ref x) name pl) Q E s:=by
 obtain⟨b,J,e⟩:=I.look;exact PySem.W.method_fn X J (PySem.W.plainGet_of a).1 (PySem.W.plainGet_of a).2 g (beq_iff_eq.mp d) (by show(PySem.W.lookIn name b).map (·.isSome)=some false;rw [e,c];rfl) h
theorem zSw(X:K.In s.heap)(I:m6 s.heap x dx C mA)
  (hs:PySem.W.findIn K (.ref C) "__setattr__"=some (some (.builtin "object.__setattr__"))) (m:PySem.W.plainOver K C=true) (l:PySem.W.takerIn K C name=some none) (n:PySem.W.hasDictIn K C=true)
  (k:PySem.Within mA ns) (hsz:ns.length<=sizeLine)
  (h:∀ h',m6 h' x dx C (fun y=>if y=name then some v else mA y)->Zi dx s.heap h'->Q () { s with heap:=h',toks:=s.toks+2 }):
  JW (JX prog w) A (setAttr (.ref x) name v) Q E s:=by
 obtain⟨t,J,z⟩:=I.look;refine PySem.W.set_plain X J hs (PySem.W.osa_open (s:={ s with toks:=s.toks+1 }) (r:=none) X J m l fun b=>?_);obtain⟨B,o,g⟩:=PySem.W.any_some n;have j:s.heap.get? x=some ⟨.ref C,some dx,.plain,#[]⟩:=I.obj;refine Qa (Qb (Qa (Qa (wpAny_loadPart j (Qa (PySem.W.Looks.here (s:={ s with toks:=s.toks+1 }) (PySem.W.looks_clsIn X o) ?_))))));rw [g];refine Qb (a:=some dx) (Qa (Qb (Qa ?_)));refine wpAny_nsSet1 (s:={ s with toks:=s.toks+1 }) I.ns fun h' d c=>?_;obtain⟨u,p,q,e,f,i⟩:=d.count (PySem.Within.cons name v k);refine Qa (wpAny_lookBehind e (by rw [f];exact pastItsLine_dict (Qr i (by rw [Qo];lia))) ?_);exact Qb (h _ ⟨(c.2 _ (ZI I.ne)).trans I.obj,d,I.ne⟩ c)
theorem V8(X:K.In s.heap)(b:PySem.W.makesIn K C=true)
  (c:PySem.W.findIn K (.ref C) "__init__"=some (some (.ref f))) (e:PySem.W.typeIn K (.ref f)=some (.type "function"))
  (h:Ui (JX prog w) (A.under (.builtin "type.__call__" ⟨.ref C::vs,kw⟩)) (.call (.ref f) ⟨.ref (s.heap.objs.size+1)::vs,kw⟩) (PySem.W.InitBack (s.heap.objs.size+1) R)
   { s with heap:=(s.heap.push PySem.W.emptyDict).push (PySem.W.instObj C s.heap.objs.size) }):
  Ui (JX prog w) A (.call (.ref C) ⟨vs,kw⟩) R s:=by
 obtain⟨j,g,d,t,i⟩:=s;exact PySem.W.make_core (PySem.W.makes_of X b) (PySem.W.looks_findIn X c) (fun a=>PySem.W.bind_fn X a e) (.inl rfl) h
end
def dH(f:Str)(v:V):List (Str × V)->List (Str × V)
 | []=>[(f,v)]
 | (g,x)::r=>if g=f then(g,v)::r else(g,x)::dH f v r
theorem GO(f g:Str)(v:V):∀ fs:List (Str × V),(dH f v fs).lookup g=if g=f then some v else fs.lookup g
 | []=>by
  show ZN g [(f,v)]=_
  by_cases h:g=f
  ·have a:(g == f)=true:=beq_iff_eq.mpr h;simp only [ZN,a,if_pos h]
  ·have a:(g == f)=false:=beq_eq_false_iff_ne.mpr h;simp only [ZN,a,if_neg h]
 | (k,x)::r=>by
  have c:=GO f g v r;rw [show dH f v ((k,x)::r)=(if k=f then(k,v)::r else(k,x)::dH f v r)from rfl];by_cases b:k=f
  ·rw [if_pos b];by_cases h:g=k
   ·have a:(g == k)=true:=beq_iff_eq.mpr h;simp only [ZN,a,if_pos (h.trans b)]
   ·have a:(g == k)=false:=beq_eq_false_iff_ne.mpr h;simp only [ZN,a,if_neg (fun e:g=f=>h (e.trans b.symm))]
  ·rw [if_neg b];by_cases h:g=k
   ·have a:(g == k)=true:=beq_iff_eq.mpr h;simp only [ZN,a,if_neg (fun e:g=f=>b (h.symm.trans e))]
   ·have a:(g == k)=false:=beq_eq_false_iff_ne.mpr h;simp only [ZN,a];exact c
theorem B7(f:Str)(v:V):∀ fs:List (Str × V),f∈(dH f v fs).map (·.1)/\∀ g,g∈fs.map (·.1)->g∈(dH f v fs).map (·.1)
 | []=>⟨by simp [dH],fun g h=>by simp at h⟩
 | (k,x)::r=>by
  obtain⟨c,b⟩:=B7 f v r;rw [show dH f v ((k,x)::r)=(if k=f then(k,v)::r else(k,x)::dH f v r)from rfl];by_cases a:k=f
  ·rw [if_pos a];subst a
   exact⟨by simp,fun g h=>by simpa using h⟩
  ·rw [if_neg a]
   refine⟨?_,fun g h=>?_⟩
   ·rw [Qk];exact Qg _ c
   ·rw [Qk]at h ⊢;rcases Ql.mp h with e | e
    ·exact Ql.mpr (.inl e)
    ·exact Qg _ (b g e)
theorem GF(f:Str)(v:V):∀ fs:List (Str × V),(dH f v fs).length<=fs.length+1
 | []=>by simp [dH]
 | (k,x)::r=>by
  have b:=GF f v r;rw [show dH f v ((k,x)::r)=(if k=f then(k,v)::r else(k,x)::dH f v r)from rfl];by_cases a:k=f
  ·rw [if_pos a,Qo,Qo];lia
  ·rw [if_neg a,Qo,Qo];lia
theorem jS.some_of(r:jS (some v) o):∃ u,o=some u/\RelV v u:=by
 cases o with
 | none=>exact(show False from r).elim
 | some u=>exact⟨u,rfl,r⟩
theorem jS.none_of(r:jS none o):o=none:=by
 cases o with
 | none=>rfl
 | some u=>exact(show False from r).elim
theorem TN(r:RelV v u):PySem.W.handedIn u=true:=by
 cases v with
 | non=>cases(show u=J9 from r);rfl
 | bl b=>cases(show u=U3 b from r);rfl
 | int i=>obtain⟨t,e⟩:=(show ∃ t,u=U1 i t from r);cases e;rfl
 | str x=>obtain⟨t,e⟩:=(show ∃ t,u=Value.str x t from r);cases e;rfl
 | byt b=>obtain⟨t,e⟩:=(show ∃ t,u=Value.bytes b t from r);cases e;rfl
 | flt b=>obtain⟨t,e⟩:=(show ∃ t,u=Value.float b t from r);cases e;rfl
 | ref a=>cases(show u=J2 a from r);rfl
 | ty n=>cases(show u=ZW n from r);rfl
section
variable {P:JY}{w:J1}{H H':Hp}{h h':Heap}{a C dx:YP}{fs fs':List (Str × V)}
theorem B2(b:cX P w H h)(e:H a=some (.ins C dx fs)):∃ mA,m6 h a dx C mA/\(∀ f,jS (fs.lookup f) (mA f))/\PySem.Within mA (fs.map (·.1))/\fs.length<=1000/\H dx=some (.own a):=by
 obtain⟨d,z,g,c,mA,n,r,q⟩:=(show dS P w H h a (.ins C dx fs)from b a _ e)
 exact⟨mA,⟨c,n,g⟩,r,q,z,d⟩
end
structure fZ(K:PySem.W.Frag)(C:YP):Prop where
 pg:PySem.W.plainGet K C Str.empty=true
 hd:PySem.W.hasDictIn K C=true
 po:PySem.W.plainOver K C=true
 sa:PySem.W.findIn K (.ref C) "__setattr__"=some (some (.builtin "object.__setattr__"))
theorem fZ.get{K:PySem.W.Frag}{C:YP}(c:fZ K C)(f:Str):PySem.W.plainGet K C f=true:=c.pg
def i3(K:PySem.W.Frag)(C:YP)(f:Str):Prop:=PySem.W.findIn K (.ref C) f=some none
theorem i3.taker{K:PySem.W.Frag}{C:YP}{f:Str}(n:i3 K C f):PySem.W.takerIn K C f=some none:=by
 unfold PySem.W.takerIn;rw [show PySem.W.findIn K (.ref C) f=some none from n];rfl
structure iM(K:PySem.W.Frag)(C:YP)(m:Str)(f:YP):Prop where
 at_:PySem.W.findIn K (.ref C) m=some (some (.ref f))
 fn:PySem.W.isFn K (.ref f)=true
 kp:PySem.W.keepIn K (.ref f)=true
section
variable {X:Cx}{pins:List (YP × Obj)}{σ:St}{H:Hp}{s:JT}{a C dx:YP}{fs:List (Str × V)}{f:Str}{v:V}{A:Around}{E:JS->JT->Prop}
theorem TC(I:Inv X pins σ H s)(e:H a=some (.ins C dx fs))(c:fZ X.K C)(n:i3 X.K C f)(l:fs.lookup f=some v)
  (h:∀ u s',Inv X pins σ H s'->RelV v u->Q u s'):JW (JX X.prog X.w) A (getAttr (.ref a) f b) Q E s:=by
 obtain⟨g,O,r,_,_,_⟩:=B2 I.hok e;obtain⟨u,i,d⟩:=jS.some_of (v:=v) (o:=g f) (by rw [<- l];exact r f);exact Ty I.kIn O (c.get f) c.hd n i (TN d) (h u _ (I.tok _) d)
theorem A0(I:Inv X pins σ H s)(e:H a=some (.ins C dx fs))(c:fZ X.K C)(k:iM X.K C m g)(l:fs.lookup m=none)
  (h:Q (.ref g,[.ref a]) s):JW (JX X.prog X.w) A (U2 (.ref a) m pl) Q E s:=by
 obtain⟨b,O,r,_,_,_⟩:=B2 I.hok e;have d:b m=none:=jS.none_of (by rw [<- l];exact r m);exact Tz I.kIn O (c.get m) k.at_ k.fn d h
theorem zSy(I:Inv X pins σ H s)(e:H a=some (.ins C dx fs))(c:fZ X.K C)(n:i3 X.K C f)(F:fs.length<1000)(l:RelV y u)
  (h:∀ s',Inv X pins σ (aJ H a (.ins C dx (dH f y fs))) s'->Q () s'):JW (JX X.prog X.w) A (setAttr (.ref a) f u) Q E s:=by
 obtain⟨i,O,r,d,_,j⟩:=B2 I.hok e
 have m:(fs.map (·.1)).length<=sizeLine:=by rw [Qd,QW];lia
 refine zSw I.kIn O c.sa c.po n.taker c.hd d m fun B O' k=>h _ ?_;have t:∃ o,B.get? dx=some o:=let⟨o,_,_,e',_⟩:=O'.ns;⟨o,e'⟩;refine I.write (x:=a) (e:=dx) (by rw [e];exact Uk) (.inr j) (fun b q v z=>(k.2 b v).trans z) t ?_
 refine⟨by rw [aV O.ne];exact j,?_,O.ne,O'.obj,_,O'.ns,fun g=>?_,fun g p=>?_⟩
 ·have:=GF f y fs;lia
 ·show jS ((dH f y fs).lookup g) (if g=f then some u else i g)
  rw [GO];by_cases q:g=f
  ·rw [if_pos q,if_pos q];exact l
  ·rw [if_neg q,if_neg q];exact r g
 ·by_cases q:g=f
  ·rw [q];exact(B7 f y fs).1
  ·refine(B7 f y fs).2 g (d g fun z=>p ?_)
   show(if g=f then some u else i g)=none
   rw [if_neg q];exact z
theorem Inv.made(I:Inv X pins σ H s):Inv X pins σ (aJ (aJ H s.heap.objs.size (.own (s.heap.objs.size+1))) (s.heap.objs.size+1) (.ins C s.heap.objs.size []))
  { s with heap:=(s.heap.push PySem.W.emptyDict).push (PySem.W.instObj C s.heap.objs.size) }:=by
 have d:(s.heap.push PySem.W.emptyDict).get? s.heap.objs.size=some PySem.W.emptyDict:=Qu s.heap rfl
 have i:((s.heap.push PySem.W.emptyDict).push (PySem.W.instObj C s.heap.objs.size)).get? (s.heap.objs.size+1)=some (PySem.W.instObj C s.heap.objs.size):=by
  have:=Qu (s.heap.push PySem.W.emptyDict) (o:=PySem.W.instObj C s.heap.objs.size) rfl
  rwa [YQ]at this
 have h:(s.heap.push PySem.W.emptyDict).Ns s.heap.objs.size (fun _=>none):=⟨PySem.W.emptyDict,#[],_,d,rfl,(fun e g=>absurd g (by simp)),fun _=>rfl⟩;have I1:=I.laid (a:=s.heap.objs.size) (o:=.own (s.heap.objs.size+1)) (h':=s.heap.push PySem.W.emptyDict) (t':=s.toks) (fun b u q=>Qf _ q) (Qj _) ⟨_,d⟩;refine I1.laid (a:=s.heap.objs.size+1) (o:=.ins C s.heap.objs.size []) (t':=s.toks) (fun b u q=>Qf _ q) (Nat.le_of_eq (YQ _ _)) ?_;have c:s.heap.objs.size≠s.heap.objs.size+1:=QB (JD _)
 refine⟨by rw [aV c,cN],QR _,c,i,fun _=>none,(Heap.Ns1.of_empty h).at fun o q=>Qf _ q,fun _=>Uk,fun y f=>absurd rfl f⟩
theorem Px(a:Zo e f env (Za e env)=Za e env)
  (h:JW (JX prog w) A (Za e env) (fun o s₁=>JW (JX prog w) A (getAttr o f true) Q E s₁) E s):JW (JX prog w) A (Za (.Attribute e f pos) env) Q E s:=
 Attribute_any_ h (by rw [arm_eval_Attribute,a])
end
def Oz(K:PySem.W.Frag)(d:TE)(f:Str):TE:=fun c H Q=>d c H fun x b=>∃ a C dx fs v,x=.ref a/\b a=some (.ins C dx fs)/\fZ K C/\i3 K C f/\fs.lookup f=some v/\Q v b
def N0(K:PySem.W.Frag)(e d:TE)(f:Str):TS:=fun D b H=>d b H fun y g=>e b g fun x c=>∃ a C dx fs,x=.ref a/\c a=some (.ins C dx fs)/\fZ K C/\i3 K C f/\fs.length<1000 /\
 D.nx b (aJ c a (.ins C dx (dH f y fs)))
section
variable {X:Cx}{o e value:Expr}{f:Str}{pos pos' tpos:Pos}{ta tv:TE}
theorem qA(he:PE X e ta)(k:Zo e f X.env (Za e X.env)=Za e X.env):PE X (.Attribute e f pos) (Oz X.K ta f):=by
 intro b s d H Q I h;refine Px k (aU (he b s d H _ I h) fun u z g=>?_);obtain⟨x,t,r,i,a,C,A,fs,v,m,o,c,n,l,q⟩:=g;subst m
 obtain rfl:u=J2 a:=i
 exact TC r o c n l fun w y p j=>⟨v,t,p,j,q⟩
theorem BJ(p:PE X o ta)(m:PE X value tv)(hs:ZC value (some (.Attribute o f pos')) pos.line X.env=pure false):PS X (.Assign [.Attribute o f pos'] value pos) (N0 X.K ta tv f):=by
 intro b s d H D I h;refine plainObj_wpAny_Assign_Attribute (aU (m b s d H _ I h) fun u e ⟨y,A,z,g,q⟩=>aU (p b e d A _ z q) fun k E ⟨x,G,w,i,a,C,F,fs,r,t,c,n,l,j⟩=>?_) hs;subst r
 obtain rfl:k=J2 a:=i
 exact zSy w t c n l g fun B v=>⟨d,_,v,j⟩
end
section
variable {X:Cx}{pins:List (YP × Obj)}{σ:St}{H:Hp}{s:JT}{A:Around}{E:JS->JT->Prop}{Q:JS->JT->Prop}{c:JS}{b:Bool}
end
structure bU(k:Nat)(A:Around):Prop where
 hd:A.handled=none
 dp:A.depth+3 * k+5<recursionLimit
 un:A.units+16 * k+200<Zg
 gd:A.guards=some []
theorem bU.mono(r:bU k A)(h:j<=k):bU j A:=⟨r.hd,by have:=r.dp;lia,by have:=r.un;lia,r.gd⟩
theorem bU.deeper(r:bU (k+1) A)(env:Env):bU k (A.deeper env):=
 ⟨r.hd,by have:=r.dp;show A.depth+1+3 * k+5<_;lia,by have:=r.un;show A.units+3+16 * k+200<_;lia,r.gd⟩
theorem V7{A:Around}{C:YP}{us:List JS}{a:List (Str × JS)}:(A.under (.builtin "type.__call__" ⟨.ref C::us,a⟩)).depth=A.depth+1:=by
 first | rfl | simp [Around.under,Code.weight,Code.isCreation,Code.isGuard,Code.isCaller,Code.frames,Code.isFrame,guardIds]
theorem V9{A:Around}{C:YP}{us:List JS}{a:List (Str × JS)}:(A.under (.builtin "type.__call__" ⟨.ref C::us,a⟩)).units=A.units+1:=by
 first | rfl | simp [Around.under,Code.cUnits,Code.frames,Code.isFrame]
theorem bU.make(r:bU (k+1) A)(C:YP)(us:List JS)(a:List (Str × JS)):bU k (A.under (.builtin "type.__call__" ⟨.ref C::us,a⟩)):=
 ⟨r.hd,by have:=r.dp;rw [V7];lia,by have:=r.un;rw [V9];lia,by first | exact r.gd | simpa [Around.under,Code.guards,Code.isGuard,pushGuards,guardIds]using r.gd⟩
theorem bU.depth(r:bU k A):A.depth<recursionLimit:=by have:=r.dp;lia
def DY:TA:=fun _ H Q=>Q [] H
def Ov(d:TE)(c:TA):TA:=fun a H Q=>d a H fun x f=>c a f fun b e=>Q (x::b) e
section
variable {X:Cx}{e:Expr}{es:List Expr}{te:TE}{t:TA}{pos:Pos}
theorem fQ:PA X [] DY:=fun _ _ _ _ H Q I h=>Calls.spliced_nil ⟨[],H,I,.nil,h⟩
theorem eF(n:PE X e te)(m:PA X es t)(hs:JU (e::es) X.env=(false,Za e X.env)::JU es X.env:=by rfl):PA X (e::es) (Ov te t):=by
 intro b a s c H Q I h;rw [hs]
 show JW _ _ (spliced ((false,Za e X.env)::Zb b (JU es X.env))) _ _ s
 refine Calls.spliced_cons (aU (n a s c H _ I h) fun u g d=>?_);obtain⟨x,r,p,j,l⟩:=d;exact aU (m b a g c r _ p l) fun v w ⟨f,q,o,i,k⟩=>⟨x::f,q,o,.cons j i,k⟩
def OP(t:TA):TE:=fun c H Q=>t c H fun a b=>a.length<=sizeLine/\∀ p,b p=none->Q (.ref p) (aJ b p (.tup a))
def OE(t:TA):TE:=fun c H Q=>t c H fun a b=>a.length<=sizeLine/\∀ p,b p=none->Q (.ref p) (aJ b p (.lst a))
theorem Wx{x1}(h:PA X es t):PE X (.Tuple es x1 pos) (OP t):=by
 intro a s f H Q I j;refine wpAny_Tuple_spliced (aU (h pos a s f H _ I j) fun i c ⟨g,d,I1,r,z,q⟩=>⟨by rw [<- r.length];exact z,?_⟩);have k:d c.heap.objs.size=none:=I1.hok.fresh (Qj _)
 refine⟨.ref c.heap.objs.size,aJ d c.heap.objs.size (.tup g),I1.laid (t':=c.toks) (fun b u e=>Qf _ e) (Qj _) ?_,rfl,q _ k⟩
 exact⟨z,i,r,⟨_,Qu _ rfl,rfl,_,rfl⟩⟩
theorem BF(h:PA X es t):PE X (.List es pos) (OE t):=by
 intro a s f H Q I j;refine wpAny_List_spliced (aU (h pos a s f H _ I j) fun i c ⟨g,d,I1,r,z,q⟩=>⟨by rw [<- r.length];exact z,?_⟩);have k:d c.heap.objs.size=none:=I1.hok.fresh (Qj _)
 refine⟨.ref c.heap.objs.size,aJ d c.heap.objs.size (.lst g),I1.laid (t':=c.toks) (fun b u e=>Qf _ e) (Qj _) ?_,rfl,q _ k⟩
 exact⟨z,i,0,r,Qu _ rfl⟩
end
abbrev Sp:=List V->Hp->VK->XK->Prop
abbrev gQ:=List Env->Hp->JT->XK->JS->JT->Prop
structure mX(P:JY)(w:J1)(K:PySem.W.Frag)(mg:Str->Option JS)(base:Heap)(A:Around)(outer:List Env)(s:JT)(H:Hp):Prop where
 frames:A.frames=some outer
 mod:Mod K mg base
 bs:∀ b o,base.get? b=some o->s.heap.get? b=some o/\H b=none
 bsz:base.objs.size<=s.heap.objs.size
 funs:s.heap.FunFrames base outer
 frf:∀ b∈dN outer,H b=none
 hok:cX P w H s.heap
 bare:UZ s.gens
def CE(outer:List Env)(P:JY)(w:J1)(H:Hp)(s:JT)(Q:VK)(u:JS)(a:JT):Prop:=
 ∃ v H',a.os=s.os/\UZ a.gens/\Un (dN outer) [] H H' s.heap a.heap/\cX P w H' a.heap/\RelV v u/\Q v H'
def CR(CX:gQ)(outer:List Env)(P:JY)(w:J1)(H:Hp)(s:JT)(Q:VK)(E:XK)(r:Result)(a:JT):Prop:=
 match r with
 | .ok (.ret u)=>CE outer P w H s Q u a
 | .ok _=>False
 | .error e=>CX outer H s E e a
structure aK(P:JY)(w:J1)(K:PySem.W.Frag)(mg:Str->Option JS)(base:Heap)(CX:gQ)(k:Nat)(f:YP)(fd:J5)(ps:List Str)(sp:Sp):Prop where
 len:∀ vs H Q E,sp vs H Q E->vs.length=ps.length
 run:∀(A:Around) (outer:List Env) (s:JT) (H:Hp) (args:Args) (us:List JS) (vs:List V) (Q:VK) (E:XK),bU k A->mX P w K mg base A outer s H->BindsTo s fd args (ps.zip us)->Vals vs us->sp vs H Q E->
  Ui (JX P w) A (.call (.ref f) args) (CR CX outer P w H s Q E) s
theorem aK.imp{P:JY}{w:J1}{K:PySem.W.Frag}{d:Str->Option JS}{base:Heap}{CX:gQ}{k:Nat}{f:YP}{e:J5}{c:List Str}{sp sp':Sp}(F:aK P w K d base CX k f e c sp)
  (h:∀ vs H Q E,sp' vs H Q E->sp vs H Q E):aK P w K d base CX k f e c sp':=
 ⟨fun vs H Q E q=>F.len vs H Q E (h _ _ _ _ q),fun A a s H b g vs Q E l m n i j=>F.run A a s H b g vs Q E l m n i (h _ _ _ _ j)⟩
theorem mX.make{P:JY}{w:J1}{K:PySem.W.Frag}{a:Str->Option JS}{base:Heap}{A:Around}{outer:List Env}{s:JT}{H:Hp}(e:mX P w K a base A outer s H)(C:YP)(us:List JS)(b:List (Str × JS)):
  mX P w K a base (A.under (.builtin "type.__call__" ⟨.ref C::us,b⟩)) outer s H:=⟨by first | exact e.frames | (simpa [Around.under,Code.envs,Code.isFrame,pushEnvs]using e.frames),e.mod,e.bs,e.bsz,e.funs,e.frf,e.hok,e.bare⟩
section
variable {X:Cx}{pins:List (YP × Obj)}{σ:St}{H:Hp}{s s':JT}
theorem Inv.env0(I:Inv X pins σ H s):mX X.prog X.w X.K X.mg X.base X.A X.stack s H:=
 ⟨I.ok.frames,I.ok.mod,I.bs,Qr I.ok.bsz I.sz,I.stack,I.stkFree,I.hok,I.bare⟩
theorem Inv.after(I:Inv X pins σ H s)(h:CE X.stack X.prog X.w H s Q u s'):EP X pins σ Q u s':=by
 obtain⟨v,i,os,a,un,e,r,q⟩:=h;obtain⟨f,g,d,t,c⟩:=s'
 obtain rfl:c=s.os:=os
 exact⟨v,i,I.call (h':=f) (g':=g) (d':=d) (t':=t) (ch:=[]) un e a (fun b z=>absurd z (by simp)),r,q⟩
end
def Ou(sp:Sp)(a:List V)(E:XK)(t:TA):TE:=fun b H Q=>t b H fun c d=>sp (c++a) d Q E
def KW(C:YP)(m:Str)(sp:Sp)(b:List V)(E:XK)(f:TE)(t:TA):TE:=fun c H Q=>f c H fun x d=>∃ a dx fs,x=.ref a/\d a=some (.ins C dx fs)/\fs.lookup m=none /\
 t c d fun e g=>sp (x::(e++b)) g Q E
def OF(C:YP)(sp:Sp)(a:List V)(E:XK)(t:TA):TE:=fun c H Q=>t c H fun d b=>∀ x dx,b x=none->b dx=none->dx≠x->
 sp (.ref x::(d++a)) (aJ (aJ b dx (.own x)) x (.ins C dx [])) (fun v e=>v=.non/\Q (.ref x) e) E
def Binds(K:PySem.W.Frag)(b:J5)(a:List Str)(ds:List JS):Prop:=
 ∀(s:JT) (us:List JS),K.In s.heap->(us++ds).length=a.length->BindsTo s b ⟨us,[]⟩ (a.zip (us++ds))
theorem Binds.all{K:PySem.W.Frag}{c:J5}{a:List Str}(h:∀ us:List JS,us.length=a.length->ZZ c ⟨us,[]⟩=pure (a.zip us)):Binds K c a []:=fun s us _ b=>by
 rw [QG]at b ⊢;exact .of_eq (h us b)
def oC(CX:gQ)(X:Cx)(E:XK):Prop:=∀(pins:List (YP × Obj)) (σ:St) (H:Hp) (s:JT) (e:JS) (s':JT),Inv X pins σ H s->CX X.stack H s E e s'->X.xe e s'
section
variable {X:Cx}{CX:gQ}{k:Nat}{f C:YP}{fd:J5}{ps:List Str}{sp:Sp}{dvs:List V}{ds:List JS}{E:XK}{x m:Str}{p pos apos:Pos}{e o:Expr}{es:List Expr}{ta:TE}{t:TA}
theorem BT(F:aK X.prog X.w X.K X.mg X.base CX k f fd ps sp)(g:bU k X.A)(l:Binds X.K fd ps ds)(j:Vals dvs ds)(d:oC CX X E)
  (I:Inv X pins σ H s) (r:Vals vs us) (h:sp (vs++dvs) H Q E):JW (JX X.prog X.w) X.A (call (.ref f) us) (EP X pins σ Q) X.xe s:=by
 have b:Vals (vs++dvs) (us++ds):=r.append j
 have i:(us++ds).length=ps.length:=by rw [<- b.length];exact F.len _ _ _ _ h
 refine wpAny_call (Y1 (F.run X.A X.stack s H ⟨us,[]⟩ (us++ds) (vs++dvs) Q E g I.env0 (l s us I.kIn i) b h) fun r c a=>?_)
 cases r with
 | error e=>exact d pins σ H s e c I a
 | ok m=>
  cases m with
  | ret u=>exact I.after a
  | next=>exact Zx a
  | brk=>exact Zx a
  | cont=>exact Zx a
theorem sU(F:aK X.prog X.w X.K X.mg X.base CX k f fd ps sp)(g:bU k X.A)(l:Gl X x)(i:X.mg x=some (.ref f))(j:PySem.W.keepIn X.K (.ref f)=true)(n:Binds X.K fd ps ds)(m:Vals dvs ds)(d:oC CX X E)
  (o:PA X (e::es) t) (b:(x == ("__debug__":Str))=false:=by decide) (he:JU (e::es) X.env=(false,Za e X.env)::JU es X.env:=by rfl) (hpl:(Zb pos (JU es X.env)).any (·.1)=false:=by rfl):
  PE X (.Call (.Name x p) (e::es) [] pos) (Ou sp dvs E t):=by
 intro a s c H Q I h;refine YM (pU I l i ?_ b);refine PySem.W.callWith_K (h₀:=X.base) I.ok.mod.kin j (aU (o pos a s c H _ I h) fun v y ⟨u,z,I1,r,q⟩=>⟨I1.kIn,?_⟩) he hpl;exact BT F g n m d I1 r q
theorem Wq(he:PE X o ta)(c:fZ X.K C)(i:iM X.K C m f)(F:aK X.prog X.w X.K X.mg X.base CX k f fd ps sp)(B:bU k X.A)(J:Binds X.K fd ps ds)(G:Vals dvs ds)(y:oC CX X E)(M:PA X (e::es) t)
  (d:JU (e::es) X.env=(false,Za e X.env)::JU es X.env:=by rfl) (hpl:(Zb pos (JU es X.env)).any (·.1)=false:=by rfl)
  (z:Za (.Call (.Attribute o m apos) (e::es) [] pos) X.env=(do
   let ov <- Za o X.env
   standAt apos.atName
   let(f,first) <- Uh [ov] (U2 ov m pl)
   callWith pos f first (Zb pos (JU (e::es) X.env)) (ZU pos (Zz [] X.env))):=by rfl):
  PE X (.Call (.Attribute o m apos) (e::es) [] pos) (KW C m sp dvs E ta t):=by
 intro b s g H Q I h;refine PySem.W.methodCall_KW (pl:=pl) (aU (he b s g H _ I h) fun u n ⟨x,S,j,p,a,U,fs,N,O,l,q⟩=>?_) z;subst N
 obtain rfl:u=J2 a:=p
 refine A0 j O c i l ?_;refine PySem.W.callWith_K (first:=[.ref a]) (h₀:=X.base) I.ok.mod.kin i.kp (aU (M pos b n g S _ j q) fun us T ⟨vs,Y,I2,r,v⟩=>⟨I2.kIn,?_⟩) d hpl;exact BT (us:=.ref a::us) (vs:=.ref a::vs) F B J G y I2 (.cons rfl r) v
theorem Wr(he:PE X o ta)(c:fZ X.K C)(d:iM X.K C m f)(F:aK X.prog X.w X.K X.mg X.base CX k f fd ps sp)(n:bU k X.A)(r:Binds X.K fd ps ds)(p:Vals dvs ds)(i:oC CX X E)
  (j:Za (.Call (.Attribute o m apos) [] [] pos) X.env=(do
   let ov <- Za o X.env
   standAt apos.atName
   let(f,first) <- Uh [ov] (U2 ov m pl)
   callWith pos f first (Zb pos (JU [] X.env)) (ZU pos (Zz [] X.env))):=by rfl):
  PE X (.Call (.Attribute o m apos) [] [] pos) (KW C m sp dvs E ta DY):=by
 intro b s e H Q I h;refine PySem.W.methodCall_KW (pl:=pl) (aU (he b s e H _ I h) fun u y ⟨x,B,I1,g,a,z,fs,t,v,l,q⟩=>?_) j;subst t
 obtain rfl:u=J2 a:=g
 refine A0 I1 v c d l ?_;exact PySem.W.callWith_K0 (first:=[.ref a]) I1.kIn d.kp (BT (us:=[.ref a]) (vs:=[.ref a]) F n r p i I1 (.cons rfl .nil) q)
structure Mk(K:PySem.W.Frag)(C f:YP):Prop where
 makes:PySem.W.makesIn K C=true
 init:PySem.W.findIn K (.ref C) "__init__"=some (some (.ref f))
 fn:PySem.W.isFn K (.ref f)=true
 kp:PySem.W.keepIn K (.ref C)=true
theorem zSq(M:Mk X.K C f)(F:aK X.prog X.w X.K X.mg X.base CX k f fd ps sp)(l:bU (k+1) X.A)(o:Binds X.K fd ps ds)(n:Vals dvs ds)
  (j:oC CX X E) (I:Inv X pins σ H s) (r:Vals vs us)
  (h:∀ x dx,H x=none->H dx=none->dx≠x->sp (.ref x::(vs++dvs)) (aJ (aJ H dx (.own x)) x (.ins C dx [])) (fun v H2=>v=.non/\Q (.ref x) H2) E):
  JW (JX X.prog X.w) X.A (call (.ref C) us) (EP X pins σ Q) X.xe s:=by
 have c:=h (s.heap.objs.size+1) s.heap.objs.size (I.hok.fresh (Nat.le_succ _)) (I.hok.fresh (Qj _)) (QB (JD _));have I2:=Inv.made (C:=C) I;have b:Vals (V.ref (s.heap.objs.size+1)::(vs++dvs)) (J2 (s.heap.objs.size+1)::(us++ds)):=.cons rfl (r.append n)
 have m:(J2 (s.heap.objs.size+1)::us++ds).length=ps.length:=by
  have e:=b.length;rw [F.len _ _ _ _ c]at e;exact e.symm
 refine wpAny_call (V8 (f:=f) I.kIn M.makes M.init (beq_iff_eq.mp M.fn) (Y1 (F.run _ X.stack _ _ ⟨J2 (s.heap.objs.size+1)::us,[]⟩ (J2 (s.heap.objs.size+1)::(us++ds)) _ _ E (l.make C us [])
  (I2.env0.make C us []) (o _ (J2 (s.heap.objs.size+1)::us) I2.kIn m) b c) fun r d a=>?_))
 cases r with
 | error e=>exact j pins σ _ _ e d I2 a
 | ok p=>
  cases p with
  | ret u=>
   obtain⟨v,y,t,g,q,i⟩:=I2.after a;subst q
   exact⟨g,⟨V.ref (s.heap.objs.size+1),y,t,rfl,i⟩⟩
  | next=>exact Zx a
  | brk=>exact Zx a
  | cont=>exact Zx a
theorem Wp(M:Mk X.K C f)(F:aK X.prog X.w X.K X.mg X.base CX k f fd ps sp)(g:bU (k+1) X.A)(j:Gl X x)(i:X.mg x=some (.ref C))(m:Binds X.K fd ps ds)(l:Vals dvs ds)(d:oC CX X E)
  (n:PA X (e::es) t) (b:(x == ("__debug__":Str))=false:=by decide) (he:JU (e::es) X.env=(false,Za e X.env)::JU es X.env:=by rfl) (hpl:(Zb pos (JU es X.env)).any (·.1)=false:=by rfl):
  PE X (.Call (.Name x p) (e::es) [] pos) (OF C sp dvs E t):=by
 intro a s c H Q I h;refine YM (pU I j i ?_ b);refine PySem.W.callWith_K (h₀:=X.base) I.ok.mod.kin M.kp (aU (n pos a s c H _ I h) fun u v ⟨o,y,I1,r,q⟩=>⟨I1.kIn,?_⟩) he hpl;exact zSq M F g m l d I1 r q
end
section
variable {X:Cx}{CX:gQ}{k:Nat}{f C:YP}{fd:J5}{ps ks:List Str}{sp:Sp}{E:XK}{x m:Str}{p pos apos kpos:Pos}{e o:Expr}{es:List Expr}{kws:List ZJ}{te ta:TE}{t tk:TA}{nm:Option Str}
variable {g:List JS->List JS->List JS}{gV:List V->List V->List V}
end
structure bQ(N P:List Str)(sc:ZY):Prop where
 kind:sc.kind=.function
 co:sc.isCoroutine=false
 gen:sc.isGenerator=false
 nd:N.Nodup
 pre:N.take P.length=P
 par:∀ x∈P,sc.names.lookup x=some .local ∨ sc.names.lookup x=some .cell
 nofree:∀ y∈sc.names,y.2≠.free
theorem EG{a:Str->Option UQ}{x:Str}:∀{binds:List (Str × JS)}{m:Str->Option JS},(∀ v,(x,v)∉binds)->bindL a binds m x=m x
 | [],_,_=>rfl
 | (n,v)::r,m,h=>by
  unfold bindL;rw [EG fun w b=>h w (Qg _ b)];split
  ·have:x≠n:=by rintro rfl;exact h v Qh
   simp [this]
  ·rfl
theorem ED{a:Str->Option UQ}{x:Str}:∀{binds:List (Str × JS)}{m:Str->Option JS},(∀ v,(x,v)∉binds)->bindC a binds m x=m x
 | [],_,_=>rfl
 | (n,v)::r,m,h=>by
  unfold bindC;rw [ED fun w b=>h w (Qg _ b)];split
  ·rfl
  ·have:x≠n:=by rintro rfl;exact h v Qh
   simp [this]
theorem EF{a:Str->Option UQ}{x:Str}{v:JS}:∀{P:List Str}{vs:List JS}{i:Nat}{m:Str->Option JS},P.Nodup->P[i]?=some x->vs[i]?=some v->a x=some .local->
  bindL a (P.zip vs) m x=some v
 | [],_,_,_,_,h,_,_=>by simp at h
 | _::_,[],_,_,_,_,h,_=>by simp at h
 | p::P,w::vs,0,m,nd,h1,h2,hk=>by
  simp at h1 h2;subst h1;subst h2
  show bindL a ((p,w)::P.zip vs) m p=_
  unfold bindL;rw [EG fun v b=>(Q9.mp nd).1 (UV b).1,if_pos hk];simp
 | p::P,w::vs,i+1,m,nd,h1,h2,hk=>by
  show bindL a ((p,w)::P.zip vs) m x=_
  unfold bindL;exact EF (i:=i) (Q9.mp nd).2 (by simpa using h1) (by simpa using h2) hk
theorem EC{a:Str->Option UQ}{x:Str}{v:JS}:∀{P:List Str}{vs:List JS}{i:Nat}{m:Str->Option JS},P.Nodup->P[i]?=some x->vs[i]?=some v->a x≠some .local->
  bindC a (P.zip vs) m x=some v
 | [],_,_,_,_,h,_,_=>by simp at h
 | _::_,[],_,_,_,_,h,_=>by simp at h
 | p::P,w::vs,0,m,nd,h1,h2,hk=>by
  simp at h1 h2;subst h1;subst h2
  show bindC a ((p,w)::P.zip vs) m p=_
  unfold bindC;rw [ED fun v b=>(Q9.mp nd).1 (UV b).1,if_neg hk];simp
 | p::P,w::vs,i+1,m,nd,h1,h2,hk=>by
  show bindC a ((p,w)::P.zip vs) m x=_
  unfold bindC;exact EC (i:=i) (Q9.mp nd).2 (by simpa using h1) (by simpa using h2) hk
def start(N:List Str)(vs:List V):St:=vs.map some++ZA (N.length-vs.length) none
def gH(CX:gQ)(P:JY)(w:J1)(K:PySem.W.Frag)(mg:Str->Option JS)(base:Heap)(N:List Str)(a:Str)(scope:ZY)(f:YP)(c:JS)(A:Around)(outer:List Env)(s:JT)(H:Hp)(E:XK):Cx where
 prog:=P
 w:=w
 K:=K
 mg:=mg
 base:=base
 A:=A.deeper (envOfC a scope s.heap.objs.size f c)
 N:=N
 s₀:=s
 H₀:=H
 env:=envOfC a scope s.heap.objs.size f c
 outer:=outer
 stack:=envOfC a scope s.heap.objs.size f c::outer
 ex:=[]
 calm:=true
 fn:=fun _=>true
 pn:=[]
 xe:=fun e d=>JW (JX P w) (A.deeper (envOfC a scope s.heap.objs.size f c)) (leaving (envOfC a scope s.heap.objs.size f c) e) (fun _ b=>CX outer H s E e b) (fun g b=>CX outer H s E g b) d
theorem D6{a:ZY}{n:Nat}{x:Str}(h:a.names.lookup x=some .cell):∃ c,(cellsFrom n a.names []).lookup x=some c:=by
 have q:=PySem.W.cellsFrom_some a.names n [] (.inl h);exact Option.isSome_iff_exists.mp q
theorem SJ{CX:gQ}{P:JY}{w:J1}{K:PySem.W.Frag}{J:Str->Option JS}{base:Heap}{N l:List Str}{d:Str}{scope:ZY}{f:YP}{I:JS}{A:Around}{outer:List Env}{s s1:JT}{H:Hp}{E:XK}{us:List JS}{vs:List V}
  (S:bQ N l scope) (U:A.handled=none) (j:mX P w K J base A outer s H) (Z:vs.length=l.length) (r:Vals vs us)
  (x:InCallC s s.heap.objs.size (bindL (envOfC d scope s.heap.objs.size f I).kindOf (l.zip us) fun _=>none) (cellsFrom (s.heap.objs.size+1) scope.names []) (bindC (envOfC d scope s.heap.objs.size f I).kindOf (l.zip us) fun _=>none) s1):
  Inv (gH CX P w K J base N d scope f I A outer s H E) [] (start N vs) H s1:=by
 have T:l.length<=N.length:=by have:=congrArg ZO S.pre;rw [Q2]at this;lia
 obtain⟨G,Y,rfl,O⟩:=x.done;have m:∀ b:YP,b∉(gH CX P w K J base N d scope f I A outer s H E).ex:=fun b z=>absurd (show b∈([]:List YP)from z) (by simp)
 refine⟨⟨j.mod,S.kind,rfl,rfl,Qj _,fun y z c G g=>?_,fun y o=>?_,fun y c _ h=>?_,fun _=>U,Around.frames_deeper j.frames,.inr ⟨rfl,rfl⟩,fun b z=>absurd z (m b),j.bs,j.bsz,fun b _ _=>m b,fun b z=>absurd z (m b),j.funs,j.frf⟩,
  rfl,j.bare,Un.kept O,⟨_,x.toInCall.ns,fun i y v G g h3=>?_⟩,fun y c h=>⟨_,x.cell y c h⟩,j.hok.fresh (Qj _),fun y c h=>?_,fun p B=>absurd (show p∈([]:List (YP × Obj))from B) (by simp),j.hok.kept O,?_⟩
 ·exact name_of_addr x.apart (PySem.mem_of_lookup G) (PySem.mem_of_lookup g)
 ·have o:scope.names.lookup y=some .cell ∨ scope.names.lookup y=some .free:=o;rcases o with o | o
  ·exact D6 o
  ·exact absurd rfl (S.nofree _ (PySem.mem_of_lookup o))
 ·exact Yr (x.above y c (PySem.mem_of_lookup h))
 ·have F:i<vs.length:=by
   unfold start at g;by_cases F:i<vs.length
   ·exact F
   ·rw [Yc (by simpa using F)]at g;rw [YF]at g
    split at g <;> cases g
  have X:vs[i]?=some v:=by
   unfold start at g;rw [QV (by simpa using F),QH]at g
   cases e:vs[i]? with
   | none=>rw [e]at g;cases g
   | some a=>rw [e]at g;cases g;rfl
  obtain⟨u,M,Q⟩:=r.get X
  have B:l[i]?=some y:=by
   rw [<- S.pre,Z9 (by lia)];exact G
  have t:l.Nodup:=by rw [<- S.pre];exact S.nd.sublist (Ut _ _)
  refine⟨u,Q,?_⟩
  rcases S.par y (QD B)with k | k
  ·exact .inl ⟨k,EF t B M k⟩
  ·obtain⟨c,e⟩:=D6 (n:=s.heap.objs.size+1) k;refine .inr ⟨.inl k,c,e,?_⟩;have q:=x.cell y c e;rw [EC t B M (by show scope.names.lookup y≠_;rw [k];decide)]at q;exact q
 ·exact j.hok.fresh (Yr (x.above y c (PySem.mem_of_lookup h)))
 ·unfold start
  show _=N.length
  rw [Qm,Qd,List.length_replicate];lia
theorem AQ{CX:gQ}{P:JY}{w:J1}{K:PySem.W.Frag}{F:Str->Option JS}{base:Heap}{k:Nat}{f:YP}{name a:Str}{d:Arguments}{g:List Zj}{scope:ZY}{Y kV z X c ct oc:JS}{an od:Option YP}
  {M:Array (Option JS)}{N B:List Str}{sp:Sp} (lk:K.lookup f=some ⟨oc,od,.func (PySem.W.fnOf name a d g scope Y kV z X an c ct),M⟩) (U:PySem.W.codeIn K c a=true) (S:bQ N B scope)
  (len:∀ vs H Q E,sp vs H Q E->vs.length=B.length)
  (j:∀(A:Around) (outer:List Env) (s:JT) (H:Hp) (vs:List V) (Q:VK) (E:XK),bU k (A.deeper (envOfC a scope s.heap.objs.size f c))->sp vs H Q E->
   ∃ t,eX (gH CX P w K F base N a scope f c A outer s H E) g t/\t { nx:=fun _ H'=>Q .non H',rt:=Q } (start N vs) H):
  aK P w K F base CX (k+1) f (PySem.W.fnOf name a d g scope Y kV z X an c ct) B sp:=by
 refine⟨len,fun A outer s H Z us vs Q E T p hb r m=>?_⟩
 have hl:=len _ _ _ _ m;have KX:K.In s.heap:=p.mod.kin.keeps fun b o e=>(p.bs b o e).1;have O:s.heap.NoLimit:=p.mod.nolimit.keeps fun b o e=>(p.bs b o e).1
 have i:∀ y∈B.zip us,scope.names.lookup y.1=some .local ∨ (scope.names.lookup y.1=some .cell/\((cellsFrom (s.heap.objs.size+1) scope.names []).lookup y.1).isSome=true):=fun zz hy=>by
  obtain⟨n,v⟩:=zz;rcases S.par n (UV hy).1 with q | q
  ·exact .inl q
  ·exact .inr ⟨q,PySem.W.cellsFrom_some _ _ _ (.inl q)⟩
 refine codeAny_call_function T.depth (KX _ _ lk) rfl S.co S.gen rfl (PySem.W.codeRec_of KX U) (hb _ _ _ _ ?_);refine wpAny_newFunctionEnv_cells S.kind i fun a0 he s1 x=>?_;subst he
 refine⟨O.keeps x.toInCall.keep,codeAny_func ?_⟩
 obtain⟨t,ht,hq⟩:=j A outer s H vs Q E (T.deeper _) m;have I:Inv (gH CX P w K F base N a scope f c A outer s H E) [] (start N vs) H s1:=SJ S T.hd p hl r x;refine YW (ht [] s1 (start N vs) H _ I hq) (fun fl s' l=>?_) fun e s' l=>l
 have fin:∀{h:St}{H':Hp}{v:V}{u:JS},Inv (gH CX P w K F base N a scope f c A outer s H E) [] h H' s'->RelV v u->Q v H'->CE outer P w H s Q u s':=
  fun{h H' v u} J G q=>⟨v,H',J.os,J.bare,J.base,J.hok,G,q⟩
 cases fl with
 | ret u=>
  obtain⟨v,h,H',J,G,q⟩:=l;exact fin J G q
 | next=>
  obtain⟨h,H',J,q⟩:=l;exact fin (v:=V.non) (u:=J9) J rfl q
 | brk=>
  obtain⟨_,_,_,q⟩:=l;exact Zx q
 | cont=>
  obtain⟨_,_,_,q⟩:=l;exact Zx q
section
variable {X:Cx}{x:Str}{p pos:Pos}{e:Expr}{es:List Expr}{t:TA}{id T:String}{r:List V->Hp->VK->Prop}
def Ah(r:List V->Hp->VK->Prop)(t:TA):TE:=fun a H Q=>t a H fun b c=>r b c Q
theorem BD(o:dA X (.builtin id) r)(n:Gl X x)(m:X.mg x=none)(k:Zn x=some (.builtin id))(q:PA X (e::es) t)(l:x≠"__name__":=by decide)(b:(x == ("__debug__":Str))=false:=by decide)
  (he:JU (e::es) X.env=(false,Za e X.env)::JU es X.env:=by rfl) (hpl:(Zb pos (JU es X.env)).any (·.1)=false:=by rfl):PE X (.Call (.Name x p) (e::es) [] pos) (Ah r t):=by
 intro a s c H Q I h;refine YM (oS I n m k ?_ l b);exact PyProof.Rows.callWith_builtin1 (aU (q pos a s c H _ I h) fun f g ⟨d,v,u,i,j⟩=>o a g c v d f Q u i j) he hpl
theorem sV(o:dA X (.type T) r)(n:Gl X x)(m:X.mg x=none)(k:Zn x=some (.type T))(q:PA X (e::es) t)(l:x≠"__name__":=by decide)(b:(x == ("__debug__":Str))=false:=by decide)
  (he:JU (e::es) X.env=(false,Za e X.env)::JU es X.env:=by rfl) (hpl:(Zb pos (JU es X.env)).any (·.1)=false:=by rfl):PE X (.Call (.Name x p) (e::es) [] pos) (Ah r t):=by
 intro a s c H Q I h;refine YM (oS I n m k ?_ l b);exact Y0 (aU (q pos a s c H _ I h) fun f g ⟨d,v,u,i,j⟩=>o a g c v d f Q u i j) he hpl
end
end L2
namespace HT
def lexLt:List Int->List Int->Bool
 | [],[]=>false
 | [],_::_=>true
 | _::_,[]=>false
 | x::xs,y::ys=>if x=y then lexLt xs ys else decide (x<y)
theorem lexLt_cons(x y:Int)(xs ys:List Int):lexLt (x::xs) (y::ys)=if x=y then lexLt xs ys else decide (x<y):=rfl
theorem VY:lexLt [] []=false:=rfl
theorem VX(y:Int)(ys:List Int):lexLt [] (y::ys)=true:=rfl
theorem VW(x:Int)(xs:List Int):lexLt (x::xs) []=false:=rfl
theorem Rh(A:Around)(s:JT)(a:Int)(t:Tok)(c:Int)(u:Tok):∃ e,SeqAt.EqAt A s (.int a t) (.int c u) e/\(e=true ↔ a=c):=
 ⟨(a == c),SeqAt.EqAt.int_int a t c u,by simp⟩
theorem rcLt_int(A:Around)(s:JT)(a:Int)(t:Tok)(c:Int)(u:Tok)(prog:JY)(w:J1)(E:JS->JT->Prop)(Q:JS->JT->Prop)(h:Q (.bool (decide (a<c))) s):
  JW (JX prog w) A (richCompare .Lt (.int a t) (.int c u)) Q E s:=
 (PyProof.Rows.lt_int h:JW (JX prog w) A (Zf .Lt (.int a t) (.int c u)) Q E s)
section
open PySem.SeqAt
open PySem.AutoSeq1 (wpAny_loadPart')
open PySem.MeetsSeq PySem.MeetsSeq2 PySem.MeetsSeq3
theorem zTb(l b:YP)(i f:Array JS)(n Z:Nat)(dd T:Option YP)(Y O:Array (Option JS))(ns M:List Int)(X:Uu i.toList ns)(W:Uu f.toList M):
  Meets (Builtin.«tuple.__lt__» ⟨[.ref l,.ref b],[]⟩)
   (fun _ R s=>s.heap.get? l=some { cls:=.type "tuple",dict:=dd,data:=.seq i n,slots:=Y }/\s.heap.get? b=some { cls:=.type "tuple",dict:=T,data:=.seq f Z,slots:=O } /\
    R (.ok (.ret (.bool (lexLt ns M)))) s):=
 .of_wp fun v w A R s h=>by
  obtain⟨N,g,d,J,K⟩:=s;obtain⟨hl,hb,h⟩:=h;have f2:=AutoSeq1.sub_tuple_tuple
  have z1:i.size=ns.length:=by rw [<- X.length];simp
  have z2:f.size=M.length:=by rw [<- W.length];simp
  wp_walk using UW hl,UW hb,Y3 _ (fun r b Q=>b.1=none/\Q=⟨N,g,d,J,K⟩/\∃(I ws:List JS) (k m:List Int),r=I.zip ws /\
   Uu I k/\Uu ws m/\k.length+f.size=m.length+i.size/\R (.ok (.ret (.bool (lexLt k m)))) ⟨N,g,d,J,K⟩) _
  case turn=>
   rintro⟨y,x⟩ r b Q ⟨F,rfl,I,ws,k,m,o,E,p,j,B⟩
   cases E with
   | nil=>rw [List.zip_nil_left]at o;cases o
   | cons a t H=>
    cases p with
    | nil=>rw [List.zip_nil_right]at o;cases o
    | cons c u G=>
     rw [Ul]at o
     injection o with hyx hrest
     injection hyx with hy hx
     subst hy hx;rw [lexLt_cons]at B;simp only [Qo]at j;obtain⟨e,he,z⟩:=Rh A.in1 ⟨N,g,d,J,K⟩ a t c u;refine Qa (he v w _ _ ?_)
     cases e with
     | true=>
      rw [if_pos (z.mp rfl)]at B
      wp_walk
      exact⟨rfl,rfl,_,_,_,_,hrest,H,G,by lia,B⟩
     | false=>
      rw [if_neg (fun q=>absurd (z.mpr q) Qv)]at B;have S:=rcLt_int A.in1 ⟨N,g,d,J,K⟩ a t c u v w
      wp_walk using S
      exact⟨_,rfl,by simpa using B⟩
  case fin=>
   rintro⟨b1,b2⟩ Q ⟨F,rfl,I,ws,k,m,o,E,p,j,B⟩
   simp only at F
   subst F
   have U:lexLt k m=decide (i.size<f.size):=by
    cases E with
    | nil=>
     cases p with
     | nil=>
      simp only [JM]at j;rw [VY]
      exact(decide_eq_false (by lia)).symm
     | cons c u hw=>
      simp only [JM,Qo]at j;rw [VX]
      exact(decide_eq_true (by lia)).symm
    | cons a t U=>
     cases p with
     | nil=>
      simp only [JM,Qo]at j;rw [VW]
      exact(decide_eq_false (by lia)).symm
     | cons c u hw=>
      rw [Ul]at o;cases o
   rw [U]at B
   wp_walk
   exact⟨_,rfl,by simpa [Builtin.Tuple.tupleCompareSizes]using B⟩
  case h=>
   exact⟨rfl,rfl,i.toList,f.toList,ns,M,rfl,X,W,by lia,h⟩
end
section
variable {prog:JY}{w:J1}{A:Around}{E:JS->JT->Prop}{s:JT}
theorem lt_tupInts(t:IsTup s.heap l items)(y:IsTup s.heap b items2)(v:Uu items.toList ns)(u:Uu items2.toList ms)
  (r:A.units<Zg) (h:Q (.bool (lexLt ns ms)) s):JW (JX prog w) A (Zf .Lt (.ref l) (.ref b)) Q E s:=by
 obtain⟨⟨z,dd,m,p⟩,i,k,n,j⟩:=id t;obtain⟨⟨o,f,g,e⟩,a,d,q,c⟩:=id y
 simp only at k j d c
 subst k j d c
 exact richCompare_meets_room (op:=.Lt) ⟨_,i,rfl⟩ ⟨_,a,rfl⟩ PySem.F.slot_tuple_lt PySem.F.entry_tuple_lt (PySem.F.args_tuple_lt_2 _ _) (zTb l b items items2 n q dd f p e ns ms v u)
  ⟨i,a,show U3 (lexLt ns ms)≠Value.notImplemented/\Q (.bool (lexLt ns ms)) s from⟨(fun x=>nomatch x),h⟩⟩ r
theorem cat_tup(r:IsTup s.heap t vs.toArray)(u:IsTup s.heap b ws.toArray)(m:vs≠[])
  (x:ws=[]->Q (.ref t) s) (v:ws≠[]->Q (.ref s.heap.objs.size) { s with heap:=s.heap.push { cls:=.type "tuple",data:=.seq (vs++ws).toArray } })
  (hsz:vs.length+ws.length<=sizeLine):JW (JX prog w) A (Zy .Add (.ref t) (.ref b)) Q E s:=by
 obtain⟨⟨cls,dd,data,k⟩,i,p,n,o⟩:=id r;obtain⟨⟨q,g,j,c⟩,a,f,l,d⟩:=id u
 simp only at p o f d
 subst p o f d
 have e:vs.toArray++ws.toArray=(vs++ws).toArray:=by simp
 by_cases h:ws=[]
 ·exact concat_meets ⟨_,i,rfl⟩ ⟨_,a,rfl⟩ noFill_tuple_add seq_tuple_add PySem.F.slot_tuple_add PySem.F.entry_tuple_add (PySem.F.args_tuple_add_2 _ _)
   (tuple_addW1 t b vs.toArray ws.toArray n l dd g k c (by simpa using m) (by simp [h])) ⟨i,a,x h⟩
 ·refine concat_meets ⟨_,i,rfl⟩ ⟨_,a,rfl⟩ noFill_tuple_add seq_tuple_add PySem.F.slot_tuple_add PySem.F.entry_tuple_add (PySem.F.args_tuple_add_2 _ _)
   (tuple_addW2 t b vs.toArray ws.toArray n l dd g k c (by simpa using m) (by simpa using h) (by rw [QI,QI];exact hsz)) ⟨i,a,?_⟩
  rw [e];exact v h
def sIx(n d:Nat):Option Int->Nat
 | none=>d
 | some v=>if v<0 then(v+(n:Int)).toNat else min v.toNat n
theorem sIx_none(n d:Nat):sIx n d none=d:=rfl
theorem sIx_nat(n d k:Nat):sIx n d (some (k:Int))=min k n:=by
 show(if(k:Int)<0 then((k:Int)+(n:Int)).toNat else min (k:Int).toNat n)=min k n
 rw [if_neg (by lia),Je]
theorem zSs(n d:Nat)(b:d<=n)(o:Option Int):sIx n d o<=n:=by
 cases o with
 | none=>exact b
 | some v=>
  show(if v<0 then(v+(n:Int)).toNat else min v.toNat n)<=n
  by_cases a:v<0
  ·rw [if_pos a];lia
  ·rw [if_neg a];exact Nat.min_le_right _ _
theorem sb1(h:i<0):max 0 (min (i+(n:Int)) (n:Int))=(((i+(n:Int)).toNat:Nat):Int):=by
 rw [Int.min_eq_left (by lia),Int.max_comm,<- Int.ofNat_toNat]
theorem DP{i:Int}{n:Nat}(h:¬ i<0):min i (n:Int)=((min i.toNat n:Nat):Int):=by
 obtain⟨k,rfl⟩:=Int.eq_ofNat_of_zero_le (Int.not_lt.mp h);rw [Je];by_cases c:k<=n
 ·rw [Nat.min_eq_left c,Int.min_eq_left (Int.ofNat_le.mpr c)]
 ·rw [Nat.min_eq_right (Nat.le_of_not_le c),Int.min_eq_right (Int.ofNat_le.mpr (Nat.le_of_not_le c))]
theorem sb2{i:Int}{n:Nat}(h:¬ i<0):max 0 (min i (n:Int))=((min i.toNat n:Nat):Int):=by
 rw [DP h,Int.max_eq_right (Y4 _)]
theorem N3:max (i+(n:Int)) 0=(((i+(n:Int)).toNat:Nat):Int):=(Int.ofNat_toNat _).symm
theorem D7(v:Int)(n d:Nat):(if v<0 then max (v+(n:Int)) 0 else min v (n:Int))=((sIx n d (some v):Nat):Int):=by
 show(if v<0 then max (v+(n:Int)) 0 else min v (n:Int))=(((if v<0 then(v+(n:Int)).toNat else min v.toNat n):Nat):Int)
 by_cases a:v<0
 ·simp only [if_pos a];exact N3
 ·simp only [if_neg a];exact DP a
theorem PP(a b:Option Int)(n:Nat):Z6 a b 1 (n:Int)=(((sIx n 0 a:Nat):Int),((sIx n n b:Nat):Int)):=by
 have c:¬ ((1:Int)<0):=by lia
 unfold Z6;simp only [c,if_false];refine Jf ?_ ?_
 ·cases a with
  | none=>rfl
  | some v=>exact D7 v n 0
 ·cases b with
  | none=>rfl
  | some v=>exact D7 v n n
theorem WD(i j:Nat):ZK (i:Int) (j:Int) 1=j-i:=by
 unfold ZK
 have a:(1:Int) > 0:=by lia
 simp only [a,if_true,Int.ediv_one]
 split <;> lia
theorem HG(p:Vh v o)(h:Q o s):JW (JX prog w) A (Builtin.Slice.slicePartIndex v) Q E s:=by
 cases p with
 | none=>exact slicePart_none h
 | int i t=>exact slicePart_int h
theorem HF{g:YP}{f e:JS}{a c:Option Int}{n:Nat}{Q:Int × Int × Nat->JT->Prop}(hs:s.heap.IsSliceOf g f e .none)(pl:Vh f a)(i:Vh e c)
  (h:Q (((sIx n 0 a:Nat):Int),1,sIx n n c-sIx n 0 a) s):JW (JX prog w) A (Builtin.Slice.sliceApplied (.ref g) (pure (n:Int))) Q E s:=by
 obtain⟨k,b,j,d⟩:=id hs;unfold Builtin.Slice.sliceApplied Builtin.Slice.sliceFields;refine Qa (Qa (Jg b d (x:=f) rfl (Qa (Jg b d (x:=e) rfl (Qa (Jg b d (x:=.none) rfl (Qb ?_)))))));refine Qa (slicePart_none ?_)
 show JW _ _ (if((1:Int) == 0)=true then _ else _) _ _ s
 rw [if_neg (by decide)];refine Qa (HG pl (Qa (HG i (Qa (Qb ?_)))))
 show JW _ _ (match Z6 a c 1 (n:Int)with | (a,c)=>pure (a,(1:Int),ZK a c 1)) _ _ s
 rw [PP a c n]
 show JW _ _ (pure (((sIx n 0 a:Nat):Int),(1:Int),ZK ((sIx n 0 a:Nat):Int) ((sIx n n c:Nat):Int) 1)) _ _ s
 rw [WD];exact Qb h
theorem WB(xs:Array JS)(i k:Nat):((JZ k).filterMap fun(m:Nat)=>xs[((i:Int)+(m:Int) * 1).toNat]?).toArray=((xs.toList.drop i).take k).toArray:=by
 have e:(fun(m:Nat)=>xs[((i:Int)+(m:Int) * 1).toNat]?)=fun m=>xs[i+m]?:=by
  funext m
  have:((i:Int)+(m:Int) * 1).toNat=i+m:=by lia
  rw [this]
 rw [e]
 have:=pick_run xs i k
 rw [List.filterMap_map]at this;have a:((fun x=>xs[x]?) ∘ fun x=>i+x)=fun m=>xs[i+m]?:=rfl;rw [a]at this;rw [this]
theorem getItem_tuple_cut{t f:YP}{a:Array JS}{n l:JS}{c d:Option Int}{Q:JS->JT->Prop}(e:IsTup s.heap t a)(hs:s.heap.IsSliceOf f n l .none)(pl:Vh n c)(o:Vh l d)
  (r:¬ (sIx a.size 0 c=0/\sIx a.size a.size d=a.size))
  (h:Q (.ref s.heap.objs.size) { s with heap:=s.heap.push { cls:=.type "tuple",data:=.seq ((a.toList.drop (sIx a.size 0 c)).take (sIx a.size a.size d-sIx a.size 0 c)).toArray } })
  (hsz:a.size<=sizeLine):JW (JX prog w) A (getItem (.ref t) (.ref f)) Q E s:=by
 have b:sizeOk (.seq ((a.toList.drop (sIx a.size 0 c)).take (sIx a.size a.size d-sIx a.size 0 c)).toArray):=by
  show((a.toList.drop (sIx a.size 0 c)).take (sIx a.size a.size d-sIx a.size 0 c)).toArray.size<=sizeLine
  rw [QI,Q2,Ye,Qt];lia
 have y:sIx a.size a.size d<=a.size:=zSs _ _ (Qj _) d;obtain⟨p,g,j,u⟩:=id hs;have k:s.TypeIs (.ref f) "slice":=⟨p,g,j⟩;unfold getItem
 try with_reducible refine Q6 ?_
 first | refine Qa (Qb ?_) | skip
 refine Qa (wpAny_sequenceKey e.typeIs (by decide) ?_)
 refine Qa (YG (name:=Zr "__getitem__") e.typeIs YL
  (Yi YL e.typeIs entry_tuple_getitem ?_ (args_tuple_getitem _ _)))
 show JW _ _ (Builtin.Tuple.tupleItemsOf (.ref t) >>= _) _ _ s
 refine Qa (tupleItemsOf_ e ?_);refine Qa (YO k ?_);rw [if_pos (by decide)];refine Qa (HF hs pl o ?_)
 have i:¬ ((((sIx a.size 0 c:Nat):Int) == 0 && (1:Int) == 1 && (sIx a.size a.size d-sIx a.size 0 c) == a.size)=true):=by
  intro q;rw [QF,QF]at q;have x:((sIx a.size 0 c:Nat):Int)=0:=Yp q.1.1;have v:sIx a.size a.size d-sIx a.size 0 c=a.size:=Yp q.2;exact r ⟨by lia,by lia⟩
 show JW _ _ (if(((sIx a.size 0 c:Nat):Int) == 0 && (1:Int) == 1 && (sIx a.size a.size d-sIx a.size 0 c) == a.size)=true then _ else _) _ _ s
 rw [if_neg i,WB]
 first
  | exact Qa (m:=ZQ _) (Yj (Qb ⟨_,rfl,Qb h⟩) b)
  | exact Qa (m:=ZQ _) (Yj (Qa (Qb (Qb ⟨_,rfl,Qb h⟩))) b)
  | exact Qa (Qa (m:=ZQ _) (Yj (Qb (Qb ⟨_,rfl,Qb h⟩)) b))
  | exact Qa (Qa (m:=ZQ _) (Yj (Qb ⟨_,rfl,Qb h⟩) b))
end
end HT
namespace L2
open PySem.Spec
abbrev TO:=St->Hp->(Option Int->Hp->Prop)->Prop
def PO(X:Cx)(e:Option Expr)(t:TO):Prop:=
 ∀(pins:List (YP × Obj)) (s:JT) (σ:St) (H:Hp) (Q:Option Int->Hp->Prop),Inv X pins σ H s->t σ H Q->
  JW (JX X.prog X.w) X.A (evalPart e X.env) (fun u a=>∃ o H',Inv X pins σ H' a/\Vh u o/\Q o H') X.xe s
def X8:TO:=fun _ H Q=>Q none H
def OK(t:TE):TO:=fun a H Q=>t a H fun x b=>∃ i,x=.int i/\Q (some i) b
section
variable {X:Cx}{e:Expr}{te:TE}{lo hi:Option Expr}{tl th:TO}{pos p2:Pos}
theorem WG:PO X none X8:=by
 intro a s b H Q I h;rw [evalPart_none];exact Qb ⟨none,H,I,.none,h⟩
theorem WH(h:PE X e te):PO X (some e) (OK te):=by
 intro a s b H Q I g;rw [evalPart_some];refine aU (h a s b H _ I g) fun u l c=>?_;obtain⟨x,k,j,d,f⟩:=c;obtain⟨i,rfl,q⟩:=f;obtain⟨t,rfl⟩:=d
 exact⟨some i,k,j,.int i t,q⟩
def kN(X:Cx)(r:V->Option Int->Option Int->Hp->VK->Prop):Prop:=
 ∀(pins:List (YP × Obj)) (s:JT) (σ:St) (H:Hp) (x:V) (v vl vu:JS) (lo hi:Option Int) (sl:YP) (Q:VK),Inv X pins σ H s->RelV x v->s.heap.IsSliceOf sl vl vu .none->Vh vl lo->Vh vu hi->r x lo hi H Q->
  ∃ T id,typeLookup (.type T) "__getitem__"=pure (some (.builtin id))/\s.TypeIs v T/\JW (JX X.prog X.w) X.A (getItem v (.ref sl)) (EP X pins σ Q) X.xe s
theorem kN.or{r g:V->Option Int->Option Int->Hp->VK->Prop}(h:kN X r)(h':kN X g):kN X (fun x lo hi H Q=>r x lo hi H Q ∨ g x lo hi H Q):=by
 intro a s b H x v d c lo hi e Q I f k j i q;rcases q with q | q
 ·exact h a s b H x v d c lo hi e Q I f k j i q
 ·exact h' a s b H x v d c lo hi e Q I f k j i q
def OO(r:V->Option Int->Option Int->Hp->VK->Prop)(te:TE)(tl b:TO):TE:=fun a H Q=>te a H fun x e=>tl a e fun l d=>b a d fun u c=>r x l u c Q
theorem IJ(F:kN X r)(he:PE X e te)(G:PO X lo tl)(B:PO X hi th):PE X (.Subscript e (.Slice lo hi none p2) pos) (OO r te tl th):=by
 intro a s d H Q I h;refine Subscript_ (aU (he a s d H _ I h) fun v m i=>?_);obtain⟨x,U,O,n,t⟩:=i;refine wpAny_Slice (aU (G a m d U _ O t) fun g k ⟨l,S,N,z,p⟩=>aU (B a k d S _ N p) fun f c i=>?_);obtain⟨u,j,I3,y,o⟩:=i;rw [evalPart_none];refine Qb ?_;have M:Inv X a d j { c with heap:=c.heap.push { cls:=.type "slice",data:=.fields #[g,f,.none] } }:=I3.kept (t':=c.toks) fun b W q=>Qf _ q;obtain⟨T,id,K,E,J⟩:=F a { c with heap:=c.heap.push { cls:=.type "slice",data:=.fields #[g,f,.none] } } d j x v g f l u c.heap.objs.size Q M n (Heap.IsSliceOf.new ..) z y o
 show JW (JX X.prog X.w) X.A (Ua e (.Slice lo hi none p2) v (.ref c.heap.objs.size)) (EP X a d Q) X.xe { c with heap:=c.heap.push { cls:=.type "slice",data:=.fields #[g,f,.none] } }
 exact tail_any (ops:=[.ref c.heap.objs.size,v]) E K J (by with_unfolding_all rfl)
def lQ(xs:List V)(a b:Option Int):List V:=(xs.drop (HT.sIx xs.length 0 a)).take (HT.sIx xs.length xs.length b-HT.sIx xs.length 0 a)
theorem Ef(xs:List V)(a b:Option Int):(lQ xs a b).length<=xs.length:=by
 unfold lQ;rw [Q2,Ye];lia
def NU(K:PySem.W.Frag):V->Option Int->Option Int->Hp->VK->Prop:=fun x b c H Q=>∃ a xs,x=.ref a/\bJ K H a xs /\
 ¬ (HT.sIx xs.length 0 b=0/\HT.sIx xs.length xs.length c=xs.length)/\∀ p,H p=none->Q (.ref p) (aJ H p (.tup (lQ xs b c)))
theorem XB:kN X (NU X.K):=by
 intro i s w H x v z y e g A Q I l u n m h;obtain⟨a,d,rfl,p,t,q⟩:=h;cases l;obtain⟨f,r,k,j⟩:=I.tuple p
 have c:f.toArray.size=d.length:=by rw [QI];exact r.length.symm
 refine⟨"tuple",_,YL.lookup,k.typeIs,?_⟩
 refine HT.getItem_tuple_cut k u n m (by rw [c];exact t) ?_ (by rw [c];exact j);rw [c]
 refine⟨.ref s.heap.objs.size,_,I.laid (t':=s.toks) (o:=.tup (lQ d e g)) (fun b B q=>Qf _ q) (Qj _) ?_,rfl,q _ (I.hok.fresh (Qj _))⟩
 exact⟨Qr (Ef d e g) j,_,(r.drop (HT.sIx d.length 0 e)).take (HT.sIx d.length d.length g-HT.sIx d.length 0 e),IsTup.new _ _⟩
def NM(K:PySem.W.Frag):R2:=fun x y H Q=>∃ a b xs ys,x=.ref a/\y=.ref b/\bJ K H a xs/\bJ K H b ys/\xs≠[]/\xs.length+ys.length<=sizeLine /\
 (ys=[]->Q (.ref a) H)/\(ys≠[]->∀ p,H p=none->Q (.ref p) (aJ H p (.tup (xs++ys))))
theorem Vals.nil_iff(r:Vals xs us):us=[] ↔ xs=[]:=by
 cases r with
 | nil=>simp
 | cons _ _=>simp
theorem WV:bC X (Zy .Add) (NM X.K):=by
 intro e s F H x y v u Q I l k h;obtain⟨a,b,j,i,rfl,rfl,E,B,A,g,n,m⟩:=h;cases l;cases k;obtain⟨t,d,r,_⟩:=I.tuple E;obtain⟨f,c,p,_⟩:=I.tuple B;refine HT.cat_tup r p (fun z=>A (d.nil_iff.mp z)) (fun z=>⟨.ref a,H,I,rfl,n (c.nil_iff.mp z)⟩) (fun z=>?_) (by rw [<- d.length,<- c.length];exact g)
 refine⟨.ref s.heap.objs.size,_,I.laid (t':=s.toks) (o:=.tup (j++i)) (fun b G q=>Qf _ q) (Qj _) ?_,rfl,m (fun w=>z (c.nil_iff.mpr w)) _ (I.hok.fresh (Qj _))⟩
 exact⟨by rw [Qm];exact g,_,d.append c,IsTup.new _ _⟩
end
def ixN(n:Nat)(i:Int):Option Nat:=if 0<=i then(if i<n then some i.toNat else none)else if -(n:Int)<=i then some (i+n).toNat else none
def atI{α:Type}(xs:List α)(i:Int):Option α:=(ixN xs.length i).bind fun j=>xs[j]?
theorem S0(h:ixN n i=some j):seqIndex? i n=some j/\j<n/\-(n:Int)<=i/\i<n:=by
 unfold ixN at h;by_cases b:0<=i
 ·rw [if_pos b]at h;by_cases a:i<n
  ·rw [if_pos a]at h;have e:i.toNat=j:=QA h
   exact⟨by rw [seqIndex_of b a,e],by lia,by lia,a⟩
  ·rw [if_neg a]at h;cases h
 ·rw [if_neg b]at h;by_cases a:-(n:Int)<=i
  ·rw [if_pos a]at h;have e:(i+n).toNat=j:=QA h
   exact⟨by rw [seqIndex_neg (by lia) a,e],by lia,a,by lia⟩
  ·rw [if_neg a]at h;cases h
theorem Ba{a:Type}{xs:List a}{i:Int}{v:a}(h:atI xs i=some v):∃ j,seqIndex? i xs.length=some j/\xs[j]?=some v/\j<xs.length/\-(xs.length:Int)<=i/\i<xs.length:=by
 unfold atI at h
 cases e:ixN xs.length i with
 | none=>rw [e]at h;cases h
 | some j=>
  rw [e]at h;obtain⟨f,d,c,b⟩:=S0 e
  exact⟨j,f,h,d,c,b⟩
def qX(b:Expr):Prop:=∀ o i,Vc b false o i=operate [o,i] (getItem o i)
def fC(X:Cx)(r:R2):Prop:=
 ∀(value slice:Expr) (pins:List (YP × Obj)) (s:JT) (σ:St) (H:Hp) (x y:V) (v u:JS) (Q:VK),Inv X pins σ H s->RelV x v->RelV y u->r x y H Q->
  Vc slice false v u=operate [v,u] (getItem v u)->JW (JX X.prog X.w) X.A (Ua value slice v u) (EP X pins σ Q) X.xe s
def o6(X:Cx)(id:String)(r:V->List V->Hp->VK->Prop):Prop:=
 ∀(pins:List (YP × Obj)) (s:JT) (σ:St) (H:Hp) (x:V) (xs:List V) (v:JS) (us:List JS) (Q:VK),Inv X pins σ H s->RelV x v->Vals xs us->r x xs H Q->
  JW (JX X.prog X.w) X.A (call (.builtin id) (v::us)) (EP X pins σ Q) X.xe s
section
variable {X:Cx}{a b:Expr}{ta tb:TE}{pos:Pos}
theorem fC.or{r g:R2}(h:fC X r)(h':fC X g):fC X (fun x y H Q=>r x y H Q ∨ g x y H Q):=by
 intro a b c s d H x y v u Q I f e q i;rcases q with q | q
 ·exact h a b c s d H x y v u Q I f e q i
 ·exact h' a b c s d H x y v u Q I f e q i
theorem sW(i:fC X r)(k:PE X a ta)(j:PE X b tb)(hs:qX b):PE X (.Subscript a b pos) (lY r ta tb):=by
 intro c s d H Q I h;exact Subscript_ (y8 k j I h fun v u e x y m l g f q=>i a b c e d m x y v u Q l g f q (hs _ _))
def NP(K:PySem.W.Frag):R2:=fun x y H Q=>∃ p xs i v,x=.ref p/\y=.int i/\bY K H p xs/\atI xs i=some v/\Q v H
def NR(K:PySem.W.Frag):R2:=fun x y H Q=>∃ p xs i v,x=.ref p/\y=.int i/\bJ K H p xs/\atI xs i=some v/\Q v H
def NQ:R2:=fun x y H Q=>∃ z i c,x=.str z/\y=.int i/\z.length<=sizeLine/\atI z.cps.toList i=some c/\Q (.str ⟨#[c]⟩) H
theorem S4:fC X (NP X.K):=by
 intro c d a s l H x y v u Q I E B h m;obtain⟨p,S,i,z,rfl,rfl,F,J,q⟩:=h;cases E;obtain⟨t,rfl⟩:=B;obtain⟨g,r,f,T⟩:=I.list F;obtain⟨j,b,O,W,N,M⟩:=Ba J;obtain⟨w,o,e⟩:=r.get O;have G:=r.length;have U:=uH;have fin:EP X a l Q w s:=⟨z,H,I,e,q⟩;by_cases n:0<=i
 ·have k:i.toNat=j:=by
   rw [seqIndex_of n M]at b;exact QA b
  exact item_listR f.isList n (by lia) (by rw [k];simpa using o) fin m
 ·have k:(i+(g.toArray.size:Int)).toNat=j:=by
   rw [seqIndex_neg (by lia) N]at b;rw [QI,<- G];exact QA b
  exact subscriptTail_builtinR (x:=w) f.isList.typeIs slot_list_getitem.lookup
   (wpAny_getItem_list_neg (Q:=fun r A=>r=w/\EP X a l Q r A) f.isList (by lia) (by rw [QI] <;> lia) (by lia) (by rw [k];simpa using o) ⟨rfl,fin⟩) m
theorem Tf:fC X (NR X.K):=by
 intro b c a s e H x y v u Q I l k h n;obtain⟨p,J,i,z,rfl,rfl,o,B,q⟩:=h;cases l;obtain⟨t,rfl⟩:=k;obtain⟨m,r,f,M⟩:=I.tuple o;obtain⟨j,F,E,T,S,O⟩:=Ba B;obtain⟨w,G,d⟩:=r.get E;have A:=r.length;have N:=uH;have fin:EP X a e Q w s:=⟨z,H,I,d,q⟩
 exact subscriptTail_builtinR (x:=w) f.typeIs slot_tuple_getitem.lookup
  (getItem_tuple (j:=j) (Q:=fun r g=>r=w/\EP X a e Q r g) f (by lia) (by lia) (by rw [QI,<- A];exact F) (by simpa using G) ⟨rfl,fin⟩) n
theorem Tc:fC X NQ:=by
 intro a b d s A H x y v u Q I g f h k;obtain⟨z,i,c,rfl,rfl,E,m,q⟩:=h;obtain⟨t,rfl⟩:=g;obtain⟨B,rfl⟩:=f;obtain⟨j,e,p,G,o,n⟩:=Ba m
 have l:z.cps.toList.length=z.length:=by simp [Str.length]
 rw [l]at e o n;have F:=uH
 exact tail_any (JR s z t) slot_str_getitem.lookup (getItem_str (c:=c) (by
  have w:decide (i < -(2 ^ 63:Int))=false:=decide_eq_false (by lia);have r:decide (i >= 2 ^ 63)=false:=decide_eq_false (by lia)
  rw [w,r,Bool.or_false]) (by rw [e];simpa using p) ⟨.str ⟨#[c]⟩,H,I.tok _,⟨_,rfl⟩,q⟩) k
theorem XD(a b:Option Int)(n:Nat):(Ur a b none n).1=((HT.sIx n 0 a:Nat):Int)/\(Ur a b none n).2.1=((HT.sIx n n b:Nat):Int)/\(Ur a b none n).2.2=1:=by
 refine⟨?_,?_,rfl⟩
 ·cases a with
  | none=>simp [Ur,HT.sIx]
  | some i=>
   simp only [Ur,HT.sIx,Option.getD_none,show(1:Int) > 0 by decide,if_true];by_cases h:i<0
   ·simp only [h,if_true];exact HT.sb1 h
   ·simp only [h,if_false];exact HT.sb2 h
 ·cases b with
  | none=>simp [Ur,HT.sIx]
  | some i=>
   simp only [Ur,HT.sIx,Option.getD_none,show(1:Int) > 0 by decide,if_true];by_cases h:i<0
   ·simp only [h,if_true];exact HT.sb1 h
   ·simp only [h,if_false];exact HT.sb2 h
theorem XC(a:List JS)(b c:Option Int):slicePick a.toArray b c none=((a.drop (HT.sIx a.length 0 b)).take (HT.sIx a.length a.length c-HT.sIx a.length 0 b)).toArray:=by
 obtain⟨f,e,d⟩:=XD b c a.toArray.size;unfold slicePick;rw [f,e,d]
 simp only [sliceRange_one,pick_run,QI] <;> rfl
def NT(K:PySem.W.Frag):V->Option Int->Option Int->Hp->VK->Prop:=fun x b c H Q=>∃ a xs,x=.ref a/\bY K H a xs/\∀ p,H p=none->Q (.ref p) (aJ H p (.lst (lQ xs b c)))
theorem Xy:kN X (NT X.K):=by
 intro g s u H x v y w e f z Q I j t l k h;obtain⟨a,c,rfl,p,q⟩:=h;cases j;obtain⟨m,r,i,n⟩:=I.list p;have d:=r.length
 refine⟨"list",_,slot_list_getitem.lookup,i.isList.typeIs,?_⟩
 refine wpAny_getItem_list_slice i.isList t l k .none (by simp) ?_ (by rw [QI] <;> lia);rw [XC,<- d]
 refine⟨.ref s.heap.objs.size,_,I.laid (t':=s.toks) (o:=.lst (lQ c e f)) (fun b A q=>Qf _ q) (Qj _) ?_,rfl,q _ (I.hok.fresh (Qj _))⟩
 exact⟨Qr (Ef c e f) n,_,0,(r.drop (HT.sIx c.length 0 e)).take (HT.sIx c.length c.length f-HT.sIx c.length 0 e),Qu _ rfl⟩
theorem O6:dA X (.builtin "len") (fun xs H Q=>∃ p ys,xs=[.ref p]/\(bY X.K H p ys ∨ bJ X.K H p ys)/\Q (.int ys.length) H):=by
 intro f s j H xs k Q I r h;obtain⟨p,ys,rfl,b,q⟩:=h;obtain⟨u,rfl,g⟩:=jQ r;cases g;have l:=uH;rcases b with b | b
 ·obtain⟨e,c,d,i⟩:=I.list b;have a:=c.length;exact Calls.call_len_list d.isList (by simp only [QI] <;> lia) ⟨.int ys.length,H,I.tok _,⟨s.toks+1,by rw [QI,a]⟩,q⟩
 ·obtain⟨e,c,d,i⟩:=I.tuple b;have a:=c.length;exact len_tuple d (by simp only [QI] <;> lia) ⟨.int ys.length,H,I.tok _,⟨s.toks+1,by rw [QI,a]⟩,q⟩
theorem O7:dA X (.builtin "len") (fun xs H Q=>∃ z,xs=[.str z]/\z.length<=sizeLine/\Q (.int z.length) H):=by
 intro a s b H xs c Q I r h;obtain⟨z,rfl,d,q⟩:=h;obtain⟨u,rfl,t,rfl⟩:=jQ r;have e:=uH;exact len_str (by lia) ⟨.int z.length,H,I.tok _,⟨_,rfl⟩,q⟩
theorem O9:dA X (.type "list") (fun xs H Q=>∃ p ys,xs=[.ref p]/\(bY X.K H p ys ∨ bJ X.K H p ys)/\∀ l,H l=none->Q (.ref l) (aJ H l (.lst ys))):=by
 intro g s z H xs B Q I r h;obtain⟨p,ys,rfl,k,q⟩:=h;obtain⟨u,rfl,A⟩:=jQ r;cases A
 have fin:∀(a:List JS),Vals ys a->ys.length<=sizeLine->∀(c:Heap) (f:Nat),(∀ b o',s.heap.get? b=some o'->c.get? b=some o')->
   c.get? s.heap.objs.size=some { cls:=.type "list",dict:=none,data:=.seq a.toArray f,slots:=#[] }->EP X g z Q (.ref s.heap.objs.size) { s with heap:=c }:=fun a d j c f i e=>
  ⟨.ref s.heap.objs.size,_,I.laid (t':=s.toks) i (Qj _) (show dS X.prog X.w _ c _ (.lst ys)from⟨j,a,f,d,e⟩),rfl,q _ (I.hok.fresh (Qj _))⟩
 rcases k with k | k
 ·obtain⟨a,d,t,j⟩:=I.list k;have m:=d.length;obtain⟨o,v,y,n,x⟩:=t.isList;exact call_list_seq p (.inl rfl) v y x (fun c f i e=>fin a d j c f i e) (by simp only [QI] <;> lia)
 ·obtain⟨a,d,t,j⟩:=I.tuple k;have m:=d.length;obtain⟨o,v,y,n,x⟩:=t;exact call_list_seq p (.inr rfl) v y x (fun c f i e=>fin a d j c f i e) (by simp only [QI] <;> lia)
theorem Pf:dA X (.type "tuple") (fun xs H Q=>∃ p ys,xs=[.ref p]/\((bY X.K H p ys/\∀ l,H l=none->Q (.ref l) (aJ H l (.tup ys))) ∨ (bJ X.K H p ys/\Q (.ref p) H))):=by
 intro a s j H xs x Q I r h;obtain⟨p,ys,rfl,h⟩:=h;obtain⟨u,rfl,n⟩:=jQ r;cases n;rcases h with⟨i,q⟩ | ⟨i,q⟩
 ·obtain⟨c,f,g,k⟩:=I.list i;have m:=f.length;refine call_tuple_list g.isList (fun d t=>?_) (by simp only [QI] <;> lia);have I1:Inv X a j H { s with heap:=d }:=I.kept (t':=s.toks) t
  have v:Inv X a j (aJ H d.objs.size (.tup ys)) { s with heap:=d.push { cls:=.type "tuple",data:=.seq c.toArray } }:=
   I1.laid (t':=s.toks) (fun b o e=>Qf _ e) (Qj _) (show dS X.prog X.w _ _ _ (.tup ys)from⟨k,c,f,IsTup.new _ _⟩)
  exact⟨.ref d.objs.size,_,v,rfl,q _ (I1.hok.fresh (Qj _))⟩
 ·obtain⟨c,f,g,k⟩:=I.tuple i;exact call_tuple_same g ⟨.ref p,H,I,rfl,q⟩
def D0(K:PySem.W.Frag)(T:String)(x:V)(H:Hp):Prop:=match x with
 | .str _=>T="str"
 | .int _=>T="int"
 | .ref p=>(T="list"/\∃ xs,bY K H p xs) ∨ (T="tuple"/\∃ o,K.lookup p=some o/\o.cls=.type "tuple"/\o.dict=none) ∨
   (T="dict"/\((∃ kvs,H p=some (.dK kvs)) ∨ ∃ kvs,H p=some (.dT kvs))) ∨ (T="set"/\∃ S n,H p=some (.set S n))
 | _=>False
theorem zTh(I:Inv X pins σ H s)(r:RelV x v)(ty:D0 X.K T x H):
  s.TypeIs v T/\∀ a,v=.ref a->∃ ob,s.heap.get? a=some ob/\ob.dict=none:=by
 cases x with
 | str z=>
  obtain⟨t,rfl⟩:=r
  cases(show T="str" from ty)
  exact⟨JR s z t,fun _ e=>nomatch e⟩
 | int i=>
  obtain⟨t,rfl⟩:=r
  cases(show T="int" from ty)
  exact⟨typeIs_int s i t,fun _ e=>nomatch e⟩
 | ref p=>
  cases r;rcases ty with⟨rfl,q,l⟩ | ⟨rfl,o,b,m,g⟩ | ⟨rfl,b⟩ | ⟨rfl,S,n,b⟩
  ·obtain⟨k,_,j,_⟩:=I.list l
   refine⟨j.isList.typeIs,fun a e=>?_⟩
   cases e;obtain⟨o,n,e,c,g,_⟩:=j
   exact⟨o,e,g⟩
  ·refine⟨⟨o,I.kIn p o b,m⟩,fun a e=>?_⟩
   cases e
   exact⟨o,I.kIn _ o b,g⟩
  ·have z:∃ o,s.heap.get? p=some o/\o.ExactDict:=by
    rcases b with⟨f,b⟩ | ⟨f,b⟩
    ·obtain⟨_,_,_,_,o,_,_,e,d,_⟩:=I.hok p _ b
     exact⟨o,e,d⟩
    ·obtain⟨_,_,_,_,o,_,_,e,d,_⟩:=I.hok p _ b
     exact⟨o,e,d⟩
   obtain⟨o,e,d⟩:=z
   refine⟨⟨o,e,d.1⟩,fun a h=>?_⟩
   cases h
   exact⟨o,e,d.2.1⟩
  ·obtain⟨o,_,_,_,e,d,_⟩:=I.hok p _ b
   refine⟨⟨o,e,d.1⟩,fun a h=>?_⟩
   cases h
   exact⟨o,e,d.2.1⟩
 | _=>exact Zx ty
def Oq(K:PySem.W.Frag)(T:String)(r:V->List V->Hp->VK->Prop)(to:TE)(t:TA):TE:=fun a H Q=>to a H fun x b=>D0 K T x b/\t a b fun c d=>r x c d Q
variable {o e:Expr}{es:List Expr}{to:TE}{t:TA}{name:Str}{apos cpos:Pos}{T id:String}{r:V->List V->Hp->VK->Prop}
theorem p9(A:PlainAttrs T)(slot:Slot T name id)(i:typeOf (.builtin id)=pure (.type "method_descriptor"))(E:o6 X id r)(B:PE X o to)(F:PA X (e::es) t)
  (d:Zo o name X.env (Za o X.env)=Za o X.env:=by rfl)
  (f:((Zb cpos (JU (e::es) X.env)).all (fun x => !x.1) && (ZU cpos (Zz [] X.env)).all (fun x=>x.1.isSome)
   && decide ((e::es).length+([]:List ZJ).length+(if([]:List ZJ).isEmpty then 0 else 1)<30))=true:=by rfl)
  (c:(apos.endLine == cpos.line)=true:=by rfl) (hs:JU (e::es) X.env=(false,Za e X.env)::JU es X.env:=by rfl) (b:(Zb cpos (JU es X.env)).any (·.1)=false:=by rfl):
  PE X (.Call (.Attribute o name apos) (e::es) [] cpos) (Oq X.K T r to t):=by
 intro a s g H Q I h;refine wpAny_Call_method_late d f c rfl (aU (B a s g H _ I h) fun v u m=>?_);obtain⟨x,O,l,j,ty,z⟩:=m;obtain⟨J,G⟩:=zTh l j ty
 refine⟨T,id,A,slot,i,J,G,?_⟩
 have k:=F cpos a u g O _ l z;rw [hs]at k ⊢;refine Calls.callWith_builtin (by show(false || (Zb cpos (JU es X.env)).any (·.1))=false;rw [b] <;> rfl) (UR ?_);exact aU k fun p q ⟨n,N,M,w,y⟩=>E a q g N x n v p Q M j w y
end
def CT(X:Cx)(id:String)(r:V->List V->Hp->VK->Prop):Prop:=
 ∀(pins:List (YP × Obj)) (s:JT) (σ:St) (H:Hp) (x:V) (xs:List V) (v:JS) (us:List JS) (Q:VK),Inv X pins σ H s->RelV x v->Vals xs us->r x xs H Q->
  JW (JX X.prog X.w) X.A (call (.builtin id) (v::us)) (EP X pins σ Q) X.xe s
theorem Vals.one{x:V}{us:List JS}(h:Vals [x] us):∃ u,us=[u]/\RelV x u:=by
 cases h with
 | cons r h=>cases h;exact⟨_,rfl,r⟩
section
variable {X:Cx}{pins:List (YP × Obj)}{σ:St}{H:Hp}{s:JT}{l b:YP}{xs ys zs:List V}
theorem Inv.lset{a its':List JS}{n:Nat}{f:Array JS->Array JS}{t':Nat}(I:Inv X pins σ H s)(h:H l=some (.lst xs))
  (e:s.heap.get? l=some { cls:=.type "list",data:=.seq a.toArray n }) (d:f a.toArray=its'.toArray) (b:Vals ys its') (hz:ys.length<=sizeLine):
  Inv X pins σ (aJ H l (.lst ys)) { s with heap:=s.heap.update l (Um f),toks:=t' }:=by
 have q:=PySem.IsL.update e f;rw [d]at q;refine I.write (x:=l) (e:=l) (by rw [h];exact trivial) (.inl rfl) (fun i u g c=>(Yk s.heap (Um f) (ZI g)).trans c) ⟨_,q⟩ ?_
 exact⟨hz,its',_,b,q⟩
theorem Inv.lnew(I:Inv X pins σ H s)(a:Vals ys its)(hz:ys.length<=sizeLine):
  Inv X pins σ (aJ H s.heap.objs.size (.lst ys)) { s with heap:=s.heap.push { cls:=.type "list",data:=.seq its.toArray },toks:=t' }:=
 I.laid (fun _ _ q=>Qf _ q) (Qj _) ⟨hz,its,0,a,Qu _ rfl⟩
theorem Inv.fresh(I:Inv X pins σ H s):H s.heap.objs.size=none:=I.hok.fresh (Qj _)
theorem Inv.lstM(I:Inv X pins σ H s)(a:H l=some (.lst xs)):xs.length<=sizeLine/\∃(its:List JS) (n:Nat),Vals xs its/\xs.length=its.length/\s.heap.get? l=some { cls:=.type "list",data:=.seq its.toArray n }:=by
 obtain⟨z,its,n,r,e⟩:=I.hok l _ a
 exact⟨z,its,n,r,r.length,e⟩
theorem VI{n:Nat}(h:n<=sizeLine):Ub n=false:=by
 unfold Ub;exact decide_eq_false (by lia)
end
section
variable {X:Cx}
def Wo:V->List V->Hp->VK->Prop:=fun x a H Q=>∃ l xs y,x=.ref l/\a=[y]/\H l=some (.lst xs)/\xs.length<sizeLine/\Q .non (aJ H l (.lst (xs++[y])))
theorem Cg:CT X "list.append" Wo:=by
 intro b s i H x k v m Q I d f h;obtain⟨l,j,y,rfl,rfl,c,o,q⟩:=h;cases d;obtain⟨u,rfl,g⟩:=f.one;obtain⟨z,a,n,r,p,e⟩:=I.lstM c;refine U4 F.slot_list_append ⟨_,e,rfl⟩ F.entry_list_append (F.args_list_append_2 _ _) (PySem.list_append l a.toArray n u (by rw [QI];lia)) ⟨e,?_⟩
 refine⟨.non,_,I.lset (its':=a++[u]) c e (by simp) (r.append (.cons g .nil)) ?_,rfl,q⟩
 rw [Qm,Yo];lia
end
section
variable {prog:JY}{w:J1}{A:Around}{E:JS->JT->Prop}{s:JT}
end
section
variable {X:Cx}
end
end L2
namespace Att
open PySem.W PySem.Calls
theorem SI:∀(ns:List Int) (vs:List JS),WellAll P h vs (ns.map WData.int)->Uu vs ns:=by
 intro ns
 induction ns with
 | nil=>
  intro vs w;rw [List.map_nil]at w;cases w;exact .nil
 | cons n ns c=>
  intro vs w;rw [Qk]at w
  cases w with
  | cons a b=>
   cases a;exact .cons _ _ (c _ b)
theorem zSt{l:OpenLaw}{n:Nat}(u:l.most=some n){P:Params}{h:Heap}{args:List WData}{b:List JS}
  (c:l.row.toRowW.claim.pre args=true) (j:WellAll P h b args):
  ∃ a vs ns,b=[J2 a]/\args=[WData.list (ns.map WData.int)]/\h.get? a=some { cls:=.type "list",data:=.seq vs.toArray }/\Uu vs ns/\ns.length<=n:=by
 have k:WShape.hasAll [] args [.list .int]=true:=(pre_splitW c).1;have m:l.pre.holds [] { args:=args }=true:=(pre_splitW c).2;obtain⟨d,r,rfl,x,w⟩:=hasAllW_cons k
 obtain rfl:=hasAllW_nil w
 obtain⟨y,rfl,v⟩:=hasW_list x;obtain⟨ns,rfl⟩:=items_int v
 have e:ns.length<=n:=by
  unfold OpenLaw.pre at m
  have i:(WTm.not (.lt (.lit (.int (n:Int))) (.len (.arg 0)))).holds [] { args:=[.list (ns.map .int)] }=true:=by
   have i:=(holds_andW m).1;rw [u]at i;exact i
  have g:=condW_of i (w_not (w_lt w_lit (w_len_list (w_arg rfl))));rw [Qd]at g;refine Ya fun q=>?_
  have s:(n:Int)<((ns.length:Nat):Int):=by lia
  first
   | (rw [decide_eq_true s]at g;exact absurd g (by decide))
   | (simp at g;lia)
 cases j with
 | cons p o=>
  cases o
  cases p with
  | list t f=>exact⟨_,_,ns,rfl,rfl,t,SI ns _ f,e⟩
theorem WI(l:OpenLaw)(args:List WData):l.row.toRowW.claim.post args (.bool true) args=true:=
 postW_of (r:=l.row.toRowW) (X:=(true == true))
  (show WShape.has [] (.bool true) .bool=true by first | rfl | decide | simp [WShape.has,WShape.arms,WShape.armsAll])
  (show(WTm.eq .res (.lit (.bool true))).value [] { args:=args,res:=some (.bool true),after:=args }=some (.bool (true == true))from w_eq_bool (w_res rfl) w_lit) rfl
theorem attach_call{l:OpenLaw}{n:Nat}{q:JY}{b:List Str}{x:(Str->Option JS)->Heap->Prop}{v:J1->Heap->Prop}{d:DefRec}
  (B:l.most=some n) (k:d.params.defaults=[])
  (call:∀(w:J1) (s₀ s₁:JT) (mg mb:Str->Option JS) (fa:YP) (o:Obj) (pm cd doc:JS) (a:YP) (vs:List JS) (ns:List Int),
   Ground q b [] x w s₀ mg mb s₁.heap->v w s₁.heap->
   s₁.heap.get? fa=some o->o.data=.func (docDef d.name d.params d.body d.scope pm cd doc)->s₁.heap.CodeRec cd d.name->mg d.name=some (.ref fa)->
   s₁.heap.get? a=some { cls:=.type "list",data:=.seq vs.toArray }->Uu vs ns->ns.length<=n->s₁.gens=#[]->
   Ui (JX l.prog w) callerA (.call (.ref fa) ⟨[.ref a],[]⟩) (fun r s'=>r=.ok (.ret (.bool true))/\OldK s₁.heap s'.heap/\s'.os=s₁.os/\UZ s'.gens) s₁):
  WalkO q b x v l.row.toRowW d [] (fun f vs=>PySem.call f vs):=by
 intro w s₀ s₁ mg mb G Y fa o pm cd doc N kV A I m t j H u p O e s y i F
 obtain rfl:N=.none:=Dflts.none t k
 obtain rfl:kV=.none:=Dflts.noKw t
 obtain⟨a,vs,ns,rfl,rfl,g,c,h⟩:=zSt B e i;refine enter_call (Y1 (call w s₀ s₁ mg mb fa o pm cd doc a vs ns G Y A (fd_plain I) m j g c h H) fun r s' z=>?_);obtain⟨rfl,M,K,J⟩:=z
 exact⟨.inl ⟨.bool true,.bool true,[],rfl,fun _=>rfl,.bool true,WI l _,fun _=>⟨ZP,fun _ E=>(nomatch E)⟩⟩,M,K,J⟩
section
variable {prog:JY}{w:J1}{A:Around}{E:JS->JT->Prop}{s:JT}{K:Frag}
end
end Att
namespace L2
open PySem.Spec
theorem Kj:∀{vs:List JS}{ns:List Int},Uu vs ns->Vals (ns.map V.int) vs
 | _,_,.nil=>.nil
 | _,_,.cons n t h=>.cons ⟨t,rfl⟩ (Kj h)
def yY(H:Hp):Prop:=∀ b,H b=none ∨ ∃ o xs,H b=some (.frz o (.lst xs))
theorem VS{P:JY}{w:J1}{K:PySem.W.Frag}{l M:Str->Option JS}{CX:gQ}{k:Nat}{T a:YP}{fd:J5}{x:Str}{sp:Sp}{s₁:JT}{vs:List JS}{ns:List Int}
  (KX:K.In s₁.heap) (A:s₁.heap.Ns J4 l) (c:s₁.heap.Ns builtinsNs M) (Q:∀ x:Str,x≠"__name__"->M x=Zn x) (B:s₁.heap.NoLimit) (hg:s₁.gens=#[])
  (I:s₁.heap.get? a=some { cls:=.type "list",data:=.seq vs.toArray }) (Z:Uu vs ns) (Y:ns.length<=sizeLine) (hr:bU k callerA)
  (F:∀ base:Heap,K.In base->base.Ns J4 l->aK P w K l base CX k T fd [x] sp) (i:∀(s:JT) (u:JS),BindsTo s fd ⟨[u],[]⟩ [(x,u)])
  (N:∀ H:Hp,yY H->bY K H a (ns.map V.int)->sp [.ref a] H (fun v _=>v=.bl true) fun _ _ _=>False)
  (S:∀ H e s',CX [] H s₁ (fun _ _ _=>False) e s'->False):
  Ui (JX P w) callerA (.call (.ref T) ⟨[.ref a],[]⟩) (fun r s'=>r=.ok (.ret (.bool true))/\OldK s₁.heap s'.heap/\s'.os=s₁.os/\UZ s'.gens) s₁:=by
 have X:=Kj Z;have p:=Z.length
 have g:∀ H:Hp,yY H->bY K H a (ns.map V.int)->cX P w H s₁.heap->(∀ b,H b≠none->b=a)->(H a≠none->K.lookup a=none)->
   Ui (JX P w) callerA (.call (.ref T) ⟨[.ref a],[]⟩) (fun r s'=>r=.ok (.ret (.bool true))/\OldK s₁.heap s'.heap/\s'.os=s₁.os/\UZ s'.gens) s₁:=by
  intro H hO hS y hA hK;have base_of:∀{b:YP}{o:Obj},s₁.heap.get? b=some o->H b=none->(kR s₁.heap H).get? b=some o:=fun e n=>TQ e n
  have J:∀{b:YP}{o:Obj}{es:Array ZM}{ep:Nat},s₁.heap.get? b=some o->o.data=.dict es ep->H b=none:=fun{b o es ep} e d=>by
   cases q:H b with
   | none=>rfl
   | some u=>
    have U:b=a:=hA b (by rw [q];simp);subst U;rw [I]at e;cases e;have d':Data.seq vs.toArray _=Data.dict es ep:=d;cases d'
  have f:∀{b:YP}{m:Str->Option JS},s₁.heap.Ns b m->(kR s₁.heap H).Ns b m:=fun{b m} ⟨o,es,ep,e,d,r⟩=>⟨o,es,ep,base_of e (J e d),d,r⟩
  have E:K.In (kR s₁.heap H):=fun b o e=>base_of (KX b o e) (by
   cases q:H b with
   | none=>rfl
   | some u=>
    have U:b=a:=hA b (by rw [q];simp);subst U
    rw [hK (by rw [q];simp)]at e;cases e)
  have hM:Mod K l (kR s₁.heap H):=⟨E,f A,⟨M,f c,Q⟩,let⟨mc,h1,h2⟩:=B;⟨mc,f h1,h2⟩⟩;have e0:mX P w K l (kR s₁.heap H) callerA [] s₁ H:=⟨rfl,hM,fun b o e=>VL e,Nat.le_of_eq (TU _ _),trivial,fun b c=>absurd (show b∈([]:List YP)from c) (by simp),y,.of_eq hg⟩;refine Y1 ((F _ E (f A)).run callerA [] s₁ H ⟨[.ref a],[]⟩ [.ref a] [.ref a] _ _ hr e0 (i s₁ (.ref a)) (.cons rfl .nil) (N H hO hS)) fun r s' h=>?_
  cases r with
  | error e=>exact(S H e s' h).elim
  | ok fl=>
   cases fl with
   | next=>exact Zx h
   | brk=>exact Zx h
   | cont=>exact Zx h
   | ret u=>
    obtain⟨v,H',os,G,un,t,r',q⟩:=h;have q':v=.bl true:=q;subst q'
    obtain rfl:u=U3 true:=r'
    refine⟨rfl,OldK.of_keep fun b o e=>?_,os,G⟩
    cases q:H b with
    | none=>exact un.keep b o e q (by intro z;exact absurd (show b∈([]:List YP)from z) (by simp)) (by simp)
    | some u=>
     rcases hO b with z | ⟨ob,xs,z⟩
     ·rw [q]at z;cases z
     ·have z2:=un.frzs b ob _ z;obtain⟨e1,_⟩:=y b _ z;obtain⟨e2,_⟩:=t b _ z2;rw [e]at e1;cases e1;exact e2
 cases O:K.lookup a with
 | some o=>
  have e:=KX a o O;rw [I]at e;cases e;refine g (fun _=>none) (fun _=>.inl rfl) (.inr ⟨_,vs.toArray,_,O,rfl,rfl,rfl,by rw [QI,p];exact Y,by simpa using X⟩) (fun b u z=>by have j:(none:Option HO)=some u:=z;cases j) (fun b z=>absurd rfl z) fun z=>absurd rfl z
 | none=>
  refine g (fun b=>if b=a then some (.frz { cls:=.type "list",data:=.seq vs.toArray } (.lst (ns.map V.int)))else none) (fun b=>?_) (.inl (.inr ⟨{ cls:=.type "list",data:=.seq vs.toArray },if_pos rfl⟩)) (fun b u z=>?_) (fun b z=>?_) fun _=>O
  ·by_cases c:b=a
   ·exact .inr ⟨_,_,if_pos c⟩
   ·exact .inl (if_neg c)
  ·by_cases c:b=a
   ·have j:=(if_pos c).symm.trans z;cases j;subst c
    exact⟨I,by rw [Qd];exact Y,vs,_,X,I⟩
   ·have j:=(if_neg c).symm.trans z;cases j
  ·by_cases c:b=a
   ·exact c
   ·exact absurd (if_neg c) z
theorem walk_of{l:PySem.W.OpenLaw}{n k:Nat}{q:JY}{i:List Str}{XP:(Str->Option JS)->Heap->Prop}{E:J1->Heap->Prop}{d:DefRec}{K:Params->PySem.W.Frag}{CX:J1->gQ}{sp:J1->Sp}{x:Str}
  (M:l.most=some n) (t:n<=sizeLine) (z:d.params.defaults=[]) (J:bU k callerA)
  (S:∀(w:J1) (h:Heap),E w h->(K w.params).In h)
  (F:∀(w:J1) (mg:Str->Option JS) (fa:YP) (h:Heap),(K w.params).In h->h.Ns J4 mg->mg d.name=some (.ref fa)->
   ∃ fd:J5,(∀(s:JT) (u:JS),BindsTo s fd ⟨[u],[]⟩ [(x,u)]) /\
    ∀ base:Heap,(K w.params).In base->base.Ns J4 mg->aK l.prog w (K w.params) mg base (CX w) k fa fd [x] (sp w))
  (r:∀(w:J1) (H:Hp) (a:YP) (ns:List Int),ns.length<=n->yY H->bY (K w.params) H a (ns.map V.int)->sp w [.ref a] H (fun v _=>v=.bl true) fun _ _ _=>False)
  (A:∀(w:J1) (H:Hp) (s:JT) (e:JS) (s':JT),CX w [] H s (fun _ _ _=>False) e s'->False):
  PySem.W.WalkO q i XP E l.row.toRowW d [] (fun f vs=>PySem.call f vs):=by
 refine Att.attach_call M z fun w B m mg mb fa o pm cd a0 a vs ns G Y ho hd O y p j c N=>?_;have I:=S w _ Y;obtain⟨fd,Q,Z⟩:=F w mg fa _ I G.T.g y;exact VS I G.T.g G.T.b G.T.builtins G.T.nolimit N p j (Qr c t) J Z Q (fun H X U=>r w H a ns c X U) fun H e s'=>A w H m e s'
def mM(s:Zj)(j:Nat):Zj:=match s with
 | .ClassDef _ _ _ a _ _ _ _ _ _ _=>a.getD j (.Pass ⟨0,0,0,0⟩)
 | _=>.Pass ⟨0,0,0,0⟩
def eA(s:Zj):Arguments:=match s with
 | .FunctionDef _ a _ _ _ _ _ _ _ _=>a
 | _=>{ posonlyargs:=[],args:=[],vararg:=none,kwonlyargs:=[],kw_defaults:=[],kwarg:=none,defaults:=[] }
def cW(s:Zj):List Zj:=match s with
 | .FunctionDef _ _ b _ _ _ _ _ _ _=>b
 | _=>[]
def aS(s:Zj):ZY:=match s with
 | .FunctionDef _ _ _ _ _ _ a _ _ _=>a
 | _=>{ kind:=.function,names:=[],isGenerator:=false,isCoroutine:=false }
abbrev aL:gQ:=fun _ _ _ _ _ _=>False
abbrev E0:XK:=fun _ _ _=>False
theorem mS:oC aL X E0:=fun _ _ _ _ _ _ _ h=>h.elim
structure eG(K:PySem.W.Frag)(x qual:Str)(st:Zj)(f:YP)(fd:J5):Prop where
 ex:∃(oc:JS) (od:Option YP) (kV doc pm:JS) (an:Option YP) (cdv ct:JS) (osl:Array (Option JS)),
  fd=PySem.W.fnOf x qual (eA st) (cW st) (aS st) .none kV doc pm an cdv ct/\K.lookup f=some ⟨oc,od,.func fd,osl⟩/\PySem.W.codeIn K cdv qual=true
 kp:PySem.W.keepIn K (.ref f)=true
section
variable {P:JY}{w:J1}{K:PySem.W.Frag}{mg:Str->Option JS}{base:Heap}
theorem eG.ok{x a:Str}{st:Zj}{f:YP}{g:J5}{N c:List Str}{k:Nat}{sp:Sp}(F:eG K x a st f g)(S:bQ N c (aS st))(len:∀ vs H Q E,sp vs H Q E->vs.length=c.length)
  (b:∀(cdv:JS) (A:Around) (outer:List Env) (s:JT) (H:Hp) (vs:List V) (Q:VK) (E:XK),bU k (A.deeper (envOfC a (aS st) s.heap.objs.size f cdv))->sp vs H Q E->
   ∃ t,eX (gH aL P w K mg base N a (aS st) f cdv A outer s H E).nox (cW st) t/\t { nx:=fun _ H'=>Q .non H',rt:=Q } (start N vs) H):aK P w K mg base aL (k+1) f g c sp:=by
 obtain⟨p,o,kV,m,n,u,cdv,r,i,rfl,j,e⟩:=F.ex;refine AQ j e S len fun A outer s H vs Q E l d=>?_;obtain⟨t,h,q⟩:=b cdv A outer s H vs Q E l d
 exact⟨t,h.nox,q⟩
theorem rF{x a:Str}{st:Zj}{f:YP}{i:JS}{od h:Option YP}{e:Array (Option JS)}{kV d g b ct:JS}(l:K.lookup f=some ⟨i,od,.func (PySem.W.fnOf x a (eA st) (cW st) (aS st) .none kV d g h b ct),e⟩)
  (c:PySem.W.codeIn K b a=true) (k:PySem.W.keepIn K (.ref f)=true):eG K x a st f (PySem.W.fnOf x a (eA st) (cW st) (aS st) .none kV d g h b ct):=⟨⟨i,od,kV,d,g,h,b,ct,e,rfl,l,c⟩,k⟩
end
theorem qH(h:n<=1000):n<sizeLine:=Yl h (by decide)
section
variable {X:Cx}
theorem pv(i:Nat)(d:X.N[i]?=some x:=by rfl)(b:gG X.env.scope x:=by first | exact Ze rfl | exact Zc (Ze rfl) | exact Zc (Zc rfl))(c:(x == ("__debug__":Str))=false:=by decide)
  (a:(x == ("__classdict__":Str))=false:=by decide):PE X (.Name x pos) (DZ i):=pe_var d b c a
end
def eI(H a:Hp):Prop:=∀ b o,H b=some o->a b=some o
theorem eI.refl(H:Hp):eI H H:=fun _ _ h=>h
theorem eI.trans(a:eI H H1)(b:eI H1 H2):eI H H2:=fun c o h=>b c o (a c o h)
theorem eI.free{H a:Hp}(e:eI H a){l:YP}(h:a l=Option.none):H l=Option.none:=by
 cases q:H l with
 | none=>rfl
 | some o=>
  rw [e l o q]at h;cases h
end L2
namespace SG
structure c5(src:Array Keyed)(kd:SortKind)(z:SortSt):Prop where
 mix:(J3 z).Perm src
 kd:kindOf z=kd
 fine:failedOf z=none
 none:Z0 z=#[]
theorem c5.len{src:Array Keyed}{kd:SortKind}{z:SortSt}(f:c5 src kd z):(J3 z).size=src.size:=f.mix.size_eq
theorem c5.re{src:Array Keyed}{kd:SortKind}{z:SortSt}(f:c5 src kd z){ys:Array Keyed}(m:ys.Perm (J3 z)):c5 src kd (setArr z ys):=⟨m.trans f.mix,f.kd,f.fine,f.none⟩
section
variable {prog:JY}{w:J1}{A:Around}{E:JS->JT->Prop}{s:JT}{src:Array Keyed}{κ:KeyKind}{kd:SortKind}
def kJ(prog:JY)(w:J1)(A:Around)(s:JT)(κ:KeyKind)(kd:SortKind):Prop:=
 ∀(x y:JS) (a b:κ.α) (E:JS->JT->Prop) (Q:Bool->JT->Prop),κ.keyOf x=some a->κ.keyOf y=some b->Q (κ.blt a b) s->JW (JX prog w) A (keyLt' kd x y) Q E s
theorem c5.item(f:c5 src kd z)(all:KeysOf κ src)(h:i<src.size):∃ x y a,(J3 z)[i]?=some (x,y)/\κ.keyOf x=some a/\KK κ (J3 z) i=a:=by
 have c:i<(J3 z).size:=by rw [f.len];exact h
 have e:=getElem?_pos (J3 z) i c;obtain⟨a,b⟩:=all (J3 z)[i] ((Array.perm_iff_toList_perm.mp f.mix).mem_iff.mp (by simp))
 exact⟨_,_,a,e,b,by unfold KK;rw [e];simp [b]⟩
theorem uI(L:kJ prog w A s κ kd)(f:c5 src kd z)(all:KeysOf κ src)(l:i<src.size)(h:j<src.size)
  (k:Q (some (κ.blt (KK κ (J3 z) i) (KK κ (J3 z) j))) z):wpS (JX prog w) A E s (ltAt' i j) Q z:=by
 obtain⟨x,p,a,n,g,d⟩:=f.item all l;obtain⟨y,o,b,m,e,c⟩:=f.item all h;rw [d,c]at k;rw [ltAt'_eq];refine Yd (wpS_get ?_)
 show wpS _ _ _ _ (elem' (J3 z) i >>= fun u=>elem' (J3 z) j >>= fun v=>lt' u v) Q z
 rw [elem'_eq,n,elem'_eq,m];refine Yd (Yx (Yd (Yx ?_)));rw [lt'_eq];refine Yd (wpS_get (Yd (wpS_lift (UN ?_))));rw [f.kd];exact L x y a b _ _ g e ⟨rfl,Yx k⟩
theorem Kh(L:kJ prog w A s κ kd)(all:KeysOf κ src)(f:c5 src kd z)(y:1<=a)(u:a<=top)(t:top<=src.size)(r:Zu κ (J3 z) a)
  (k:∀ n,a<=n->n<=top->Zu κ (J3 z) n->n=top ∨ κ.klt (KK κ (J3 z) n) (KK κ (J3 z) (n-1))->Q (none,n) z):wpS (JX prog w) A E s (ascLoop a top) Q z:=by
 unfold ascLoop;refine Uv (fun x c d=>d=z/\c=(none,x)/\Zu κ (J3 z) x) (fun x c d v m l=>?_) (fun c d l=>?_) ⟨rfl,rfl,r⟩
 ·obtain⟨g,h,b⟩:=l;subst g h;dsimp only;refine Yd (uI L f all (QJ m t) (by lia) ?_)
  cases q:κ.blt (KK κ (J3 d) x) (KK κ (J3 d) (x-1))with
  | true=>simp only [if_true];exact Yx (k x v (Yr m) b (Zc q))
  | false=>
   simp only [Qp,if_false];refine Yx ⟨rfl,rfl,fun i j le lt=>?_⟩;rcases JE j x with p | p
   ·exact b i j le p
   ·obtain rfl:j=x:=by lia
    rcases Y5 le with o | o
    ·subst o;exact YB _
    ·exact UJ (b i (j-1) (by lia) (by lia)) q
 ·obtain⟨g,h,b⟩:=l;subst g h
  have e:max a top=top:=by lia
  rw [e]at b ⊢;exact k top u (Qj _) b (Ze rfl)
theorem Kc(L:kJ prog w A s κ kd)(all:KeysOf κ src)(f:c5 src kd z)(a:1<=n)(e:n<=top)(d:top<=src.size)(r:NonIncK κ (J3 z) n)
  (k:∀ m z',c5 src kd z'->1<=m->m<=top->Zu κ (J3 z') m->Q (some m) z'):wpS (JX prog w) A E s (tail3 n top) Q z:=by
 have sz:n<=(J3 z).size:=by rw [f.len];lia
 have b:c5 src kd (setArr z (mirror (J3 z) 0 n ((n-0) / 2))):=f.re (mirror_perm _ _ _ _)
 have c:Zu κ (J3 (setArr z (mirror (J3 z) 0 n ((n-0) / 2)))) n:=by
  intro i j le lt
  show κ.kle (KK κ (mirror (J3 z) 0 n ((n-0) / 2)) i) (KK κ (mirror (J3 z) 0 n ((n-0) / 2)) j)
  rw [KK_mirror sz,KK_mirror sz,if_pos ⟨QR _,by lia⟩,if_pos ⟨QR _,lt⟩];exact r _ _ (by lia) (by lia)
 unfold tail3;refine Yd (wpS_reverse (Yd (Kh L all b a e d c fun m l h g _=>?_)));exact Yx (k m _ b (Qr a l) h g)
theorem RH(L:kJ prog w A s κ kd)(all:KeysOf κ src)(f:c5 src kd z)(M:1<=n)(K:n<=top)(J:top<=src.size)(r:NonIncK κ (J3 z) n)
  (k:∀ m q z',c5 src kd z'->n<=m->m<=top->NonIncK κ (J3 z') m->q+1<=m->(∀ i,m-(q+1)<=i->i<m->KK κ (J3 z') i=KK κ (J3 z') (m-1))->Q (none,m,q) z'):wpS (JX prog w) A E s (descLoop n top) Q z:=by
 have one:∀(g:Array Keyed) (x:Nat) (i:Nat),x-(0+1)<=i->i<x->KK κ g i=KK κ g (x-1):=fun g x i B l=>by
  have:i=x-1:=Jb (Nat.le_sub_one_of_lt l) B
  rw [this]
 unfold descLoop
 refine Uv (fun x c z'=>∃ q,c=(none,x,q)/\c5 src kd z'/\NonIncK κ (J3 z') x/\q+1<=x/\∀ i,x-(q+1)<=i->i<x->KK κ (J3 z') i=KK κ (J3 z') (x-1))
  (fun x c z' N H G=>?_) (fun c z' G=>?_) ⟨0,rfl,f,r,M,one _ _⟩
 ·obtain⟨q,v,b,d,u,h⟩:=G;subst v;dsimp only;have t:x<src.size:=QJ H J
  have sz:x<=(J3 z').size:=by rw [b.len];exact Yr t
  have F:x-1<src.size:=Yl (Nat.sub_le x 1) t;refine Yd (uI L b all t F ?_)
  cases B:κ.blt (KK κ (J3 z') x) (KK κ (J3 z') (x-1))with
  | true=>
   simp only [if_true]
   have more:∀ g:Array Keyed,(∀ m,KK κ g m=KK κ (J3 z') m)->NonIncK κ g (x+1):=fun g a i j le lt=>by
    rw [a i,a j];rcases JE j x with y | y
    ·exact d i j le y
    ·obtain rfl:j=x:=Jb (YT lt) y
     rcases Y5 le with p | p
     ·subst p;exact YB _
     ·exact UJ (Uw B) (d i (j-1) (Nat.le_sub_one_of_lt p) (Nat.sub_lt (Yl (QR i) p) Nat.one_pos))
   by_cases l:q > 0
   ·rw [if_pos l];exact Yd (wpS_reverse (Yx ⟨0,rfl,b.re (mirror_perm _ _ _ _),more _ (JN sz h),Nat.succ_le_succ (QR _),one _ _⟩))
   ·rw [if_neg l];exact Yx ⟨0,rfl,b,more _ fun _=>rfl,Nat.succ_le_succ (QR _),one _ _⟩
  | false=>
   simp only [Qp,if_false];refine Yd (uI L b all (by lia) t ?_)
   cases l:κ.blt (KK κ (J3 z') (x-1)) (KK κ (J3 z') x)with
   | true=>simp only [if_true];exact Yx (k x q z' b N (Yr H) d u h)
   | false=>
    simp only [Qp,if_false];have a:KK κ (J3 z') x=KK κ (J3 z') (x-1):=KeyOrd.kle_antisymm l B;refine Yx ⟨q+1,rfl,b,fun i j le lt=>?_,by lia,fun i y p=>?_⟩
    ·rcases JE j x with o | o
     ·exact d i j le o
     ·obtain rfl:j=x:=by lia
      rcases Y5 le with I | I
      ·subst I;exact YB _
      ·rw [a];exact d i (j-1) (by lia) (by lia)
    ·show KK κ (J3 z') i=KK κ (J3 z') x
     rcases JE i x with o | o
     ·rw [a];exact h i (by lia) o
     ·have:i=x:=by lia
      rw [this]
 ·obtain⟨q,v,b,d,u,h⟩:=G
  have e:max n top=top:=by lia
  rw [e]at v d u h;subst v;exact k top q z' b K (Qj _) d u h
theorem Gc(L:kJ prog w A s κ kd)(all:KeysOf κ src)(f:c5 src kd z)(h:n+1<=top)(a:top<=src.size)(r:NonIncK κ (J3 z) (n+1))
  (k:∀ m z',c5 src kd z'->1<=m->m<=top->Zu κ (J3 z') m->Q (some m) z'):wpS (JX prog w) A E s (descPart n top) Q z:=by
 unfold descPart;refine Yd (wpS_lift (UK ⟨rfl,Yd (RH L all f (Nat.le_add_left 1 n) h a r fun m q z' b o g d l e=>?_)⟩))
 have sz:m<=(J3 z').size:=by rw [b.len];lia
 dsimp only;by_cases c:q > 0
 ·rw [if_pos c];refine Yd (wpS_reverse (Kc L all (b.re (mirror_perm _ _ _ _)) (by lia) g a (fun i j le lt=>?_) k))
  show κ.kle (KK κ (mirror (J3 z') (m-(q+1)) m ((m-(m-(q+1))) / 2)) j) (KK κ (mirror (J3 z') (m-(q+1)) m ((m-(m-(q+1))) / 2)) i)
  rw [JN sz e,JN sz e];exact d i j le lt
 ·rw [if_neg c];exact Kc L all b (by lia) g a d k
theorem Tj(L:kJ prog w A s κ kd)(all:KeysOf κ src)(f:c5 src kd z)(u:1<=top)(b:top<=src.size)
  (k:∀ m z',c5 src kd z'->1<=m->m<=top->Zu κ (J3 z') m->Q (some m) z'):wpS (JX prog w) A E s (countRun' 0 top) Q z:=by
 have t:Zu κ (J3 z) 1:=fun i j le lt=>by
  obtain rfl:i=j:=Jb le (Qr (YT lt) (QR _))
  exact YB _
 rw [countRun0_eq];refine Yd (Kh L all f (Qj 1) u b t fun n l e p v=>?_);dsimp only;by_cases c:n=top
 ·rw [if_pos (beq_iff_eq.mpr c)];exact Yx (k n z f l e p)
 ·rw [if_neg (fun h=>c (beq_iff_eq.mp h))];have a:=v.resolve_left c;by_cases q:n > 1
  ·rw [if_pos q];have r:n-1<n:=Nat.sub_lt l Nat.one_pos;refine Yd (uI L f all (QJ l (Qr e b)) (QJ r (Qr e b)) ?_)
   cases x:κ.blt (KK κ (J3 z) 0) (KK κ (J3 z) (n-1))with
   | true=>simp only [if_true];exact Yx (k n z f l e p)
   | false=>
    simp only [Qp,if_false]
    have sz:n<=(J3 z).size:=by rw [f.len];exact Qr e b
    have o:∀ m,0<=m->m<n->KK κ (J3 z) m=KK κ (J3 z) (n-1):=fun m _ lt=>
     KeyOrd.kle_antisymm (p m (n-1) (Nat.le_sub_one_of_lt lt) r) (UJ x (p 0 m (QR _) lt))
    refine Yd (wpS_reverse (Gc L all (f.re (mirror_perm _ _ _ _)) (Nat.lt_of_le_of_ne e c) b (fun i j le lt=>?_) k))
    show κ.kle (KK κ (mirror (J3 z) 0 n ((n-0) / 2)) j) (KK κ (mirror (J3 z) 0 n ((n-0) / 2)) i)
    rw [JN sz o,JN sz o];rcases JE j n with d | d
    ·rw [o i (QR _) (Yl le d),o j (QR _) d];exact YB _
    ·obtain rfl:j=n:=Jb (YT lt) d
     rcases Y5 le with g | g
     ·subst g;exact YB _
     ·rw [o i (QR _) g];exact Uw a
  ·rw [if_neg q]
   obtain rfl:n=1:=Jb (Ya q) l
   refine Gc L all f (by lia) b (fun i j le lt=>?_) k;rcases Y5 le with g | g
   ·subst g;exact YB _
   ·obtain rfl:i=0:=by lia
    obtain rfl:j=1:=by lia
    exact Uw a
theorem SH(L:kJ prog w A s κ kd)(all:KeysOf κ src)(f:c5 src kd z)(h1:ok<=n)(h3:n<=src.size)(r:Zu κ (J3 z) ok)
  (k:∀ z',c5 src kd z'->Zu κ (J3 z') n->Q true z'):wpS (JX prog w) A E s (binarySort' 0 n ok) Q z:=by
 rw [binarySort'_eq];simp only [Nat.zero_add]
 have U:Zu κ (J3 z) (min (max ok 1) n):=fun i j le lt=>by
  rcases Y5 le with c | c
  ·subst c;exact YB _
  ·exact r i j le (by lia)
 refine Yd (wpS_mono (Uv (fun m c z'=>c=(none,())/\c5 src kd z'/\Zu κ (J3 z') (min m n)) (Q:=fun c z'=>c=(none,())/\c5 src kd z'/\Zu κ (J3 z') n)
  (fun m c z' g1 g2 K=>?_) (fun c z' K=>?_) ⟨rfl,f,U⟩) fun c z' X=>?_)
 ·obtain⟨g,p,b⟩:=K;subst g
  have Y:min m n=m:=by lia
  rw [Y]at b
  have I:m<src.size:=by lia
  refine Yd (wpS_mono (Uv (fun t c a=>a=z'/\∃ lo hi,c=(none,lo,hi)/\lo<=hi/\hi<=m/\hi+t<=m+lo/\(∀ i,i<lo->κ.kle (KK κ (J3 z') i) (KK κ (J3 z') m)) /\
    ∀ i,hi<=i->i<m->κ.klt (KK κ (J3 z') m) (KK κ (J3 z') i))
   (Q:=fun c a=>a=z'/\∃ lo hi,c=(none,lo,hi)/\lo<=m/\(∀ i,i<lo->κ.kle (KK κ (J3 z') i) (KK κ (J3 z') m))/\∀ i,lo<=i->i<m->κ.klt (KK κ (J3 z') m) (KK κ (J3 z') i))
   (fun t c a _ lt B=>?_) (fun c a B=>?_) ⟨rfl,0,m,rfl,QR _,Qj _,by lia,fun i c=>absurd c (YC _),fun i S h=>absurd h (Nat.not_lt.mpr S)⟩) fun c a B=>?_)
  ·obtain⟨y,lo,hi,g,S,h,O,x,v⟩:=B;subst y g;dsimp only;by_cases d:lo >= hi
   ·rw [if_pos d]
    obtain rfl:lo=hi:=by lia
    exact Yx ⟨rfl,lo,lo,rfl,h,x,v⟩
   ·rw [if_neg d]
    have u:lo<=(lo+hi) / 2/\(lo+hi) / 2<hi:=by clear h O;lia
    generalize (lo+hi) / 2=l at u ⊢;have o:=QJ u.2 h;refine Yd (uI L p all I (Nat.lt_trans o I) ?_)
    cases q:κ.blt (KK κ (J3 a) m) (KK κ (J3 a) l)with
    | true=>
     simp only [if_true];exact Yx ⟨rfl,lo,l,rfl,u.1,Yr o,Qr (Nat.add_right_comm l t 1 ▸ Nat.add_le_add_right u.2 t) O,x,fun i N M=>KeyOrd.klt_of_klt_of_kle q (b _ _ N M)⟩
    | false=>
     simp only [Qp,if_false];refine Yx ⟨rfl,l+1,hi,rfl,u.2,h,Nat.add_le_add (show lo<=l from u.1) (Qj 1) |> fun z=>by lia,fun i N=>?_,v⟩;have W:κ.kle (KK κ (J3 a) l) (KK κ (J3 a) m):=q;exact UJ (b i l (YT N) o) W
  ·obtain⟨y,lo,hi,g,S,h,O,x,v⟩:=B
   obtain rfl:lo=hi:=by lia
   exact⟨y,lo,lo,g,h,x,v⟩
  ·obtain⟨y,lo,hi,g,h,x,v⟩:=B;subst y g
   show wpS _ _ _ _ (moveDown' m lo >>= fun _=>pure (ZF (none,()))) _ _
   rw [moveDown'_eq];refine Yd (wpS_modify (Yx ⟨rfl,p.re (bubble_perm _ _ _),?_⟩))
   have T:m<(J3 a).size:=by rw [p.len];exact I
   have M:min (m+1) n=m+1:=by lia
   rw [M];intro i j le lt
   show κ.kle (KK κ (bubble (J3 a) m (m-lo)) i) (KK κ (bubble (J3 a) m (m-lo)) j)
   have Z:m-(m-lo)=lo:=by lia
   rw [KK_bubble T (by lia),KK_bubble T (by lia),Z]
   by_cases H:i=lo <;> by_cases G:j=lo
   ·rw [if_pos H,if_pos G];exact YB _
   ·rw [if_pos H,if_neg G,if_pos ⟨by lia,by lia⟩];exact Uw (v _ (by lia) (by lia))
   ·rw [if_neg H,if_pos G,if_neg (by lia)];exact x _ (by lia)
   ·rw [if_neg H,if_neg G]
    by_cases J:lo<i/\i<=m <;> by_cases F:lo<j/\j<=m
    ·rw [if_pos J,if_pos F];exact b _ _ (by lia) (by lia)
    ·exact absurd ⟨by lia,by lia⟩ F
    ·rw [if_neg J,if_pos F];exact b _ _ (by lia) (by lia)
    ·rw [if_neg J,if_neg F];exact b _ _ le (by lia)
 ·obtain⟨g,p,b⟩:=K
  have e:min (max (max ok 1) n) n=n:=by lia
  rw [e]at b
  exact⟨g,p,b⟩
 ·obtain⟨g,p,b⟩:=X;subst g;exact Yx (k z' p b)
theorem PQ{z:SortSt}{Q:Unit->SortSt->Prop}(L:kJ prog w A s κ kd)(all:KeysOf κ src)(f:c5 src kd z)(M:2<=src.size)(r:src.size<64)
  (k:∀ z',(J3 z').Perm src->failedOf z'=none->Zu κ (J3 z') src.size->Q () z'):wpS (JX prog w) A E s sortRuns' Q z:=by
 have K:minRun' src.size src.size 0=src.size:=by
  have g:∀ t,t=src.size->minRun' t src.size 0=src.size:=fun t e=>by
   cases t with
   | zero=>lia
   | succ t=>rw [minRun'_succ,if_pos r];rfl
  exact g _ rfl
 rw [sortRuns'_eq];refine Yd (wpS_get ?_);dsimp only;simp only [f.len,K]
 refine Yd (wpS_mono (Uv (fun t c z'=>(t=0/\c=(none,0)/\c5 src kd z') ∨ (0<t/\c=(none,src.size)/\(J3 z').Perm src/\failedOf z'=none/\Z0 z'=#[(0,src.size,0)]/\Zu κ (J3 z') src.size))
  (Q:=fun c z'=>c=(none,src.size)/\(J3 z').Perm src/\failedOf z'=none/\Z0 z'=#[(0,src.size,0)]/\Zu κ (J3 z') src.size)
  (fun t c z' _ lt q=>?_) (fun c z' q=>?_) (Ze ⟨rfl,rfl,f⟩)) fun c z' H=>?_)
 ·rcases q with⟨p,h,J⟩ | ⟨p,h,F,B,y,x⟩
  ·subst p h;dsimp only;rw [if_neg (by lia)];simp only [Nat.sub_zero,Nat.min_self,Nat.zero_add]
   have b:∀ a,c5 src kd a->Zu κ (J3 a) src.size->(0<0+1/\((none:Option Unit),src.size)=(none,src.size)/\(J3 (setPending a ((Z0 a).push (0,src.size,0)))).Perm src/\failedOf (setPending a ((Z0 a).push (0,src.size,0)))=none /\
     Z0 (setPending a ((Z0 a).push (0,src.size,0)))=#[(0,src.size,0)]/\Zu κ (J3 (setPending a ((Z0 a).push (0,src.size,0)))) src.size):=fun a j n=>
    ⟨Nat.zero_lt_succ _,rfl,j.mix,j.fine,by show(Z0 a).push (0,src.size,0)=_;rw [j.none];rfl,n⟩
   refine Yd (Tj L all J (by lia) (Qj _) fun m i u N I G=>?_);dsimp only;by_cases c:m<src.size
   ·rw [if_pos c];refine Yd (wpS_lift (UK ⟨rfl,Yd (SH L all u I (Qj _) G fun a j n=>?_)⟩));simp only [Yy,Qp,if_false];refine Yd (wpS_get ?_)
    have v:(Z0 a).back?=none:=by rw [j.none];rfl
    rw [v];dsimp only;exact Yd (wpS_modify (Yx (Zc (b a j n))))
   ·rw [if_neg c]
    obtain rfl:m=src.size:=by lia
    refine Yd (wpS_get ?_)
    have v:(Z0 i).back?=none:=by rw [u.none];rfl
    rw [v];dsimp only;exact Yd (wpS_modify (Yx (Zc (b i u G))))
  ·subst h;dsimp only;rw [if_pos (Qj _)];exact Yx ⟨rfl,F,B,y,x⟩
 ·rcases q with⟨p,_⟩ | ⟨_,d⟩
  ·lia
  ·exact d
 ·obtain⟨h,F,B,y,x⟩:=H;subst h;dsimp only;refine Yd (wpS_mono (Uv (fun _ c i=>i=z'/\c=(none,())) (Q:=fun c i=>i=z'/\c=(none,())) (fun t c i _ _ l=>?_) (fun _ _ l=>l) ⟨rfl,rfl⟩) fun c i l=>?_)
  ·obtain⟨o,h⟩:=l;subst o h;refine Yd (wpS_get ?_);rw [if_pos (by rw [y];exact Qj 1)];exact Yx ⟨rfl,rfl⟩
  ·obtain⟨o,h⟩:=l;subst o h;exact Yx (k _ F B x)
theorem XL(f:s.heap.get? a=some (Ux "list" vs.toArray n))(all:KeysOf κ (Vd vs))(p:vs.length<64)
  (kind:∀ h',(∀ b o,b≠a->s.heap.get? b=some o->h'.get? b=some o)->2<=vs.length->JW (JX prog w) A (keyKind' vs.toArray) (fun q s'=>q=kd/\s'={ s with heap:=h' }) E { s with heap:=h' })
  (L:∀ h',(∀ b o,b≠a->s.heap.get? b=some o->h'.get? b=some o)->kJ prog w A { s with heap:=h' } κ kd)
  (k:∀ z':SortSt,(J3 z').Perm (Vd vs)->Zu κ (J3 z') (Vd vs).size->P (.done (.ret .none)) { s with heap:=sortedHeap s.heap a vs ((J3 z').map (·.2)) }):
  JW (JX prog w) A (Builtin.«list.sort» ⟨[.ref a],[]⟩) P E s:=by
 have y:a<s.heap.objs.size:=Qs f
 have x:vs.toArray.size=vs.length:=by simp
 rw [list_sort_plain];refine Qa (listItems_at f rfl (Qa (listUpdate_at f rfl ?_)));obtain⟨t,r⟩:∃ t,(s.heap.update a (Um fun _=>#[])).get? a=some (Ux "list" #[] t):=⟨_,get?_update_seq f fun _=>#[]⟩;refine Qa (seqEpoch_at r rfl (Qa (wpAny_newTuple (Qa (wpAny_newList (Q6 ?_))))))
 show JW (JX prog w) A _ P E { s with heap:=((s.heap.update a (Um fun _=>#[])).push (Ux "tuple" vs.toArray 0)).push (Ux "list" #[] 0) }
 have keep:∀ b o,b≠a->s.heap.get? b=some o->(((s.heap.update a (Um fun _=>#[])).push (Ux "tuple" vs.toArray 0)).push (Ux "list" #[] 0)).get? b=some o:=fun b o v e=>
  Qf _ (Qf _ (by rw [Heap.get?_update_ne _ _ _ _ v];exact e))
 have g:(((s.heap.update a (Um fun _=>#[])).push (Ux "tuple" vs.toArray 0)).push (Ux "list" #[] 0)).get? a=some (Ux "list" #[] t):=Qf _ (Qf _ r);dsimp only;by_cases c:vs.toArray.size<2
 ·rw [if_pos c,if_pos c];refine Qa (Qb ?_);rw [StateT.run_pure]
  refine Qa (Qb (Qa (seqEpoch_at g rfl (Qa (listUpdate_at g rfl ?_ (hsz2:=by
   rw [Y6];show(Vd vs).size<=_;rw [JF,QW];lia))))))
  simp only [bne_self_eq_false,Qp,if_false];refine Qb (k (SortSt.mk' general' (vs.toArray.zip vs.toArray) #[] 7 none) (Array.Perm.refl _) fun i j le lt=>?_)
  obtain rfl:i=j:=by rw [JF]at lt;lia
  exact YB _
 ·rw [if_neg c,if_neg c];refine Qa (YW (kind _ keep (by lia)) (fun q s' m=>?_) fun _ _ e=>e);obtain⟨rfl,rfl⟩:=m
  refine Qa (YW (PQ (src:=Vd vs) (z:=SortSt.mk' q (vs.toArray.zip vs.toArray) #[] 7 none)
   (Q:=fun _ z'=>(J3 z').Perm (Vd vs)/\failedOf z'=none/\Zu κ (J3 z') (Vd vs).size)
   (L _ keep) all ⟨Array.Perm.refl _,rfl,rfl,rfl⟩ (by rw [JF];lia) (by rw [JF];exact p) fun z' d l h=>⟨d,l,h⟩) (fun u s' m=>?_) fun _ _ e=>e)
  obtain⟨⟨⟩,z'⟩:=u;obtain⟨rfl,d,l,h⟩:=m;dsimp only at d l h ⊢
  refine Qa (seqEpoch_at g rfl (Qa (listUpdate_at g rfl ?_ (hsz2:=by
   refine Qr (Nat.le_of_eq ((Y6 ..).trans (d.size_eq.trans (JF _)))) ?_
   rw [QW];lia))))
  rw [l];simp only [bne_self_eq_false,Qp,if_false];exact Qb (k z' d h)
end
end SG
namespace DL
open PySem.Spec L2
abbrev D:=PyData
def kK(K:PySem.W.Frag)(F:YP->Prop)(H:Hp)(a:YP)(vs:List V):Prop:=(F a/\Rd H a (.lst vs)) ∨ bY K (fun _=>none) a vs
theorem kK.sq{K:PySem.W.Frag}{F:YP->Prop}{H:Hp}{a:YP}{vs:List V}(h:kK K F H a vs):bY K H a vs:=by
 rcases h with⟨_,h⟩ | (h | ⟨o,h⟩) | h
 ·exact .inl h
 ·cases h
 ·cases h
 ·exact .inr h
abbrev dP:=Sum (List Int) (List (List Int))
def hX(a:List Int):D:=.tuple (a.map .int)
def jE:dP->D
 | .inl b=>hX b
 | .inr a=>.tuple (a.map hX)
def Fh(a:List Int):Int:=reduceHash (Builtin.Tuple.tupleHashOf (a.map hashInt))
def Az:dP->Int
 | .inl b=>Fh b
 | .inr a=>reduceHash (Builtin.Tuple.tupleHashOf (a.map Fh))
def oA(K:PySem.W.Frag)(H:Hp)(k:dP)(b:YP):Prop:=match k with
 | .inl c=>bJ K H b (c.map V.int)
 | .inr a=>a≠[]/\∃ bs:List YP,bJ K H b (bs.map V.ref)/\Paired (fun(c:List Int) (b:YP)=>bJ K H b (c.map V.int)) a bs
def bO(a:YP)(es:List (dP × YP × V))(ep:Nat):HO:=.ext fun h=>(a == Zp)=false/\∃ o raw,h.get? a=some o/\o.ExactDict/\o.data=.dict raw ep/\Paired (fun(e:dP × YP × V) (r:ZM)=>r.hash=Az e.1/\r.key=.ref e.2.1/\RelV e.2.2 r.val) es raw.toList
def Ls(a C:YP):HO:=.ext fun h=>∃ o,h.get? a=some o/\o.cls=.ref C
def Mt(x:Str):D:=.dict [(.none,.str x)]
def LJ(a:YP)(vs:List V):HO:=.ext fun h=>vs.length<=sizeLine/\∃(its:List JS) (n:Nat),Vals vs its/\h.get? a=some { cls:=.type "list",data:=.seq its.toArray n }
mutual
inductive aM(K:PySem.W.Frag)(F:YP->Prop)(H:Hp):D->V->Prop
 | non:aM K F H .none .non
 | bl (b:Bool):aM K F H (.bool b) (.bl b)
 | int (i:Int):aM K F H (.int i) (.int i)
 | str (x:Str):aM K F H (.str x) (.str x)
 | tup {a:YP}{vs:List V}{ds:List D}:bJ K H a vs->Reps K F H ds vs->aM K F H (.tuple ds) (.ref a)
 | lst {a:YP}{vs:List V}{ds:List D}:kK K F H a vs->Reps K F H ds vs->aM K F H (.list ds) (.ref a)
 | dct {a:YP}{es:List (dP × YP × V)}{kvs:List (D × D)}{ep:Nat}:F a->H a=some (bO a es ep)->(es.map (·.1)).Nodup->es.length<=1000->DReps K F H kvs es->aM K F H (.dict kvs) (.ref a)
 | exn {a C:YP}{x:Str}:F a->H a=some (Ls a C)->PySem.W.nsIn K J4 x=some (some (.ref C))->aM K F H (Mt x) (.ref a)
inductive DReps(K:PySem.W.Frag)(F:YP->Prop)(H:Hp):List (D × D)->List (dP × YP × V)->Prop
 | nil:DReps K F H [] []
 | cons {k:dP}{b:YP}{d:D}{v:V}{kvs:List (D × D)}{es:List (dP × YP × V)}:oA K H k b->aM K F H d v->DReps K F H kvs es->DReps K F H ((jE k,d)::kvs) ((k,b,v)::es)
inductive Reps(K:PySem.W.Frag)(F:YP->Prop)(H:Hp):List D->List V->Prop
 | nil:Reps K F H [] []
 | cons {d:D}{v:V}{ds:List D}{vs:List V}:aM K F H d v->Reps K F H ds vs->Reps K F H (d::ds) (v::vs)
end
structure bA(K:PySem.W.Frag)(F F':YP->Prop)(H H':Hp):Prop where
 up:∀ a,F a->F' a
 tp:∀ a xs,bJ K H a xs->bJ K H' a xs
 ls:∀ a xs,F a->Rd H a (.lst xs)->Rd H' a (.lst xs)
 xt:∀ a φ,F a->H a=some (.ext φ)->H' a=some (.ext φ)
theorem oA.stay{K:PySem.W.Frag}{F f:YP->Prop}{H a:Hp}(S:bA K F f H a){k:dP}{b:YP}(h:oA K H k b):oA K a k b:=by
 cases k with
 | inl g=>exact S.tp _ _ h
 | inr c=>obtain⟨n,bs,e,d⟩:=h;exact⟨n,bs,S.tp _ _ e,Paired.mapP d fun _ _ z=>S.tp _ _ z⟩
theorem kK.stay{K:PySem.W.Frag}{F c:YP->Prop}{H b:Hp}(S:bA K F c H b){a:YP}{vs:List V}(h:kK K F H a vs):kK K c b a vs:=by
 rcases h with⟨f,h⟩ | h
 ·exact .inl ⟨S.up a f,S.ls a vs f h⟩
 ·exact .inr h
mutual
theorem aM.stay{K:PySem.W.Frag}{F c:YP->Prop}{H a:Hp}(S:bA K F c H a){d:D}{v:V}(h:aM K F H d v):aM K c a d v:=by
 cases h with
 | non=>exact .non
 | bl b=>exact .bl b
 | int i=>exact .int i
 | str x=>exact .str x
 | tup h r=>exact .tup (S.tp _ _ h) (Reps.stay S r)
 | lst h r=>exact .lst (h.stay S) (Reps.stay S r)
 | dct f h n l r=>exact .dct (S.up _ f) (S.xt _ _ f h) n l (DReps.stay S r)
 | exn f h n=>exact .exn (S.up _ f) (S.xt _ _ f h) n
theorem DReps.stay{K:PySem.W.Frag}{F c:YP->Prop}{H b:Hp}(S:bA K F c H b){a:List (D × D)}{es:List (dP × YP × V)}(h:DReps K F H a es):DReps K c b a es:=by
 cases h with
 | nil=>exact .nil
 | cons h r t=>exact .cons (h.stay S) (aM.stay S r) (DReps.stay S t)
theorem Reps.stay{K:PySem.W.Frag}{F b:YP->Prop}{H a:Hp}(S:bA K F b H a){ds:List D}{vs:List V}(h:Reps K F H ds vs):Reps K b a ds vs:=by
 cases h with
 | nil=>exact .nil
 | cons h r=>exact .cons (aM.stay S h) (Reps.stay S r)
end
theorem Reps.length{K:PySem.W.Frag}{F:YP->Prop}{H:Hp}:∀{ds:List D}{vs:List V},Reps K F H ds vs->ds.length=vs.length
 | _,_,.nil=>rfl
 | _,_,.cons _ r=>by simp [Reps.length r]
theorem Reps.get{K:PySem.W.Frag}{F:YP->Prop}{H:Hp}:∀{ds:List D}{vs:List V}{i:Nat}{d:D},Reps K F H ds vs->ds[i]?=some d->∃ v,vs[i]?=some v/\aM K F H d v
 | _,_,_,_,.nil,e=>by simp at e
 | _,_,0,_,.cons h _,e=>by simp at e;subst e;exact⟨_,rfl,h⟩
 | _,_,i+1,d,.cons _ r,e=>by
  obtain⟨v,b,a⟩:=Reps.get (i:=i) (d:=d) r (by simpa using e)
  exact⟨v,by simpa using b,a⟩
theorem Reps.append{K:PySem.W.Frag}{F:YP->Prop}{H:Hp}:∀{ds es:List D}{vs us:List V},Reps K F H ds vs->Reps K F H es us->Reps K F H (ds++es) (vs++us)
 | _,_,_,_,.nil,s=>s
 | _,_,_,_,.cons h r,s=>.cons h (Reps.append r s)
theorem Reps.take{K:PySem.W.Frag}{F:YP->Prop}{H:Hp}:∀{ds:List D}{vs:List V} (n:Nat),Reps K F H ds vs->Reps K F H (ds.take n) (vs.take n)
 | _,_,0,_=>.nil
 | _,_,_+1,.nil=>.nil
 | _,_,n+1,.cons h r=>.cons h (Reps.take n r)
theorem Reps.drop{K:PySem.W.Frag}{F:YP->Prop}{H:Hp}:∀{ds:List D}{vs:List V} (n:Nat),Reps K F H ds vs->Reps K F H (ds.drop n) (vs.drop n)
 | _,_,0,r=>r
 | _,_,_+1,.nil=>.nil
 | _,_,n+1,.cons _ r=>Reps.drop n r
structure aH(F F':YP->Prop)(H H':Hp):Prop where
 same:eI H H'
 up:∀ a,F a->F' a
 new:∀ a,F' a->F a ∨ (H a=none/\H' a≠none)
theorem aH.refl(F:YP->Prop)(H:Hp):aH F F H H:=⟨eI.refl H,fun _ h=>h,fun _ h=>.inl h⟩
theorem aH.trans(a:aH F F1 H H1)(b:aH F1 F2 H1 H2):aH F F2 H H2:=
 ⟨a.same.trans b.same,fun x h=>b.up x (a.up x h),fun x h=>by
  rcases b.new x h with d | ⟨d,f⟩
  ·rcases a.new x d with c | ⟨c,e⟩
   ·exact .inl c
   ·refine .inr ⟨c,fun z=>e (b.same.free z)⟩
  ·exact .inr ⟨a.same.free d,f⟩⟩
theorem eI.sqT{K:PySem.W.Frag}{H b:Hp}{a:YP}{xs:List V}(e:eI H b)(h:bJ K H a xs):bJ K b a xs:=by
 rcases h with(h | ⟨o,h⟩) | h
 ·exact .inl (.inl (e _ _ h))
 ·exact .inl (.inr ⟨o,e _ _ h⟩)
 ·exact .inr h
theorem eI.rd(e:eI H H')(h:Rd H a u):Rd H' a u:=by
 rcases h with h | ⟨o,h⟩
 ·exact .inl (e _ _ h)
 ·exact .inr ⟨o,e _ _ h⟩
theorem aH.stay{K:PySem.W.Frag}{F a:YP->Prop}{H H':Hp}(e:aH F a H H'):bA K F a H H':=
 ⟨e.up,fun _ _ h=>eI.sqT e.same h,fun _ _ _ h=>eI.rd e.same h,fun _ _ _ h=>e.same _ _ h⟩
theorem Ik(a:H p=none):eI H (aJ H p o):=fun b u e=>by
 rw [aV (kE e a)];exact e
theorem aH.fresh(a:H p=none):aH F F H (aJ H p o):=⟨Ik a,fun _ h=>h,fun _ h=>.inl h⟩
theorem aH.frozen(b:H p=none):aH F (fun a=>F a ∨ a=p) H (aJ H p o):=
 ⟨Ik b,fun _ h=>.inl h,fun a h=>h.elim .inl fun e=>.inr (by subst e;exact⟨b,by rw [cN];simp⟩)⟩
theorem aM.newTup{K:PySem.W.Frag}{F:YP->Prop}{H:Hp}{p:YP}{vs:List V}{ds:List D}(a:H p=none)(r:Reps K F H ds vs):aM K F (aJ H p (.tup vs)) (.tuple ds) (.ref p):=
 .tup (.inl (.inl cN)) (r.stay (aH.fresh a).stay)
theorem aM.newLst{K:PySem.W.Frag}{F:YP->Prop}{H:Hp}{p:YP}{vs:List V}{ds:List D}(b:H p=none)(r:Reps K F H ds vs):aM K (fun a=>F a ∨ a=p) (aJ H p (.lst vs)) (.list ds) (.ref p):=
 .lst (.inl ⟨.inr rfl,.inl cN⟩) (r.stay (aH.frozen b).stay)
inductive Sl where
 | no
 | dat (d:D)
 | own (ds:List D)
 | ownD (kvs:List (D × D))
 | ownM (kvs:List (List Int × List D))
structure Q4 where
 k:List Int
 b:YP
 c:YP
 vs:List V
def Q4.ent(q:Q4):dP × YP × V:=(.inl q.k,q.b,.ref q.c)
structure LK(K:PySem.W.Frag)(F:YP->Prop)(H H₀:Hp)(kv:List Int × List D)(q:Q4):Prop where
 key:kv.1=q.k
 sq:bJ K H q.b (q.k.map V.int)
 hc:H q.c=some (LJ q.c q.vs)
 nf:¬ F q.c
 h0:H₀ q.c=none
 rs:Reps K F H kv.2 q.vs
structure v7(K:PySem.W.Frag)(F:YP->Prop)(H H₀:Hp)(kvs:List (List Int × List D))(a:YP)(qs:List Q4)(ep:Nat):Prop where
 hd:H a=some (bO a (qs.map Q4.ent) ep)
 nf:¬ F a
 h0:H₀ a=none
 nd:(qs.map (·.k)).Nodup
 ln:qs.length<=1000
 nv:(qs.map (·.c)).Nodup
 na:a∉qs.map (·.c)
 ps:Paired (LK K F H H₀) kvs qs
def uX(K:PySem.W.Frag)(F:YP->Prop)(H H₀:Hp):Option V->Sl->Prop
 | _,.no=>True
 | o,.dat d=>∃ v,o=some v/\aM K F H d v
 | o,.own ds=>∃ a vs,o=some (.ref a)/\H a=some (.lst vs)/\¬ F a/\H₀ a=none/\Reps K F H ds vs
 | o,.ownD kvs=>∃ a es ep,o=some (.ref a)/\H a=some (bO a es ep)/\¬ F a/\H₀ a=none/\(es.map (·.1)).Nodup/\es.length<=1000/\DReps K F H kvs es
 | o,.ownM kvs=>∃ a es ep,o=some (.ref a)/\v7 K F H H₀ kvs a es ep
structure aW(K:PySem.W.Frag)(F:YP->Prop)(H H₀:Hp)(σ:L2.St)(ρ:List Sl):Prop where
 len:σ.length=ρ.length
 sl:∀(i:Nat) (s:Sl),ρ[i]?=some s->∃ o,σ[i]?=some o/\uX K F H H₀ o s
 sep:∀(i j:Nat) (a:YP) (ds es:List D),i≠j->ρ[i]?=some (.own ds)->ρ[j]?=some (.own es)->σ[i]?=some (some (.ref a))->σ[j]?≠some (some (.ref a))
 fz:∀ a,F a->H a≠none
theorem v7.to{K:PySem.W.Frag}{F e:YP->Prop}{H d H₀:Hp}{c:List (List Int × List D)}{a:YP}{es:List Q4}{ep:Nat}(m:v7 K F H H₀ c a es ep)(T:bA K F e H d)
  (k:∀ b φ,H b=some (.ext φ)->¬ F b->d b=some (.ext φ)/\¬ e b):v7 K e d H₀ c a es ep:=
 ⟨(k _ _ m.hd m.nf).1,(k _ _ m.hd m.nf).2,m.h0,m.nd,m.ln,m.nv,m.na,Paired.mapP m.ps fun _ _ q=>⟨q.key,T.tp _ _ q.sq,(k _ _ q.hc q.nf).1,(k _ _ q.hc q.nf).2,q.h0,q.rs.stay T⟩⟩
theorem uX.ext{K:PySem.W.Frag}{F w:YP->Prop}{H u H₀:Hp}(e:aH F w H u){o:Option V}{s:Sl}(h:uX K F H H₀ o s):uX K w u H₀ o s:=by
 cases s with
 | no=>trivial
 | ownM i=>
  obtain⟨a,k,p,q,m⟩:=h
  refine⟨a,k,p,q,m.to e.stay fun b y t c=>⟨e.same _ _ t,fun f=>?_⟩⟩
  rcases e.new b f with f | ⟨f,_⟩
  ·exact c f
  ·rw [t]at f;cases f
 | ownD i=>
  obtain⟨a,k,p,q,g,c,j,n,l,r⟩:=h
  refine⟨a,k,p,q,e.same _ _ g,fun f=>?_,j,n,l,r.stay e.stay⟩
  rcases e.new a f with f | ⟨f,_⟩
  ·exact c f
  ·rw [g]at f;cases f
 | dat d=>obtain⟨v,q,r⟩:=h;exact⟨v,q,r.stay e.stay⟩
 | own z=>
  obtain⟨a,x,q,g,c,j,r⟩:=h
  refine⟨a,x,q,e.same _ _ g,fun f=>?_,j,r.stay e.stay⟩
  rcases e.new a f with f | ⟨f,_⟩
  ·exact c f
  ·rw [g]at f;cases f
theorem aH.fz(e:aH F F' H H')(z:∀ a,F a->H a≠none):∀ a,F' a->H' a≠none:=fun a f q=>by
 rcases e.new a f with f | ⟨_,f⟩
 ·exact z a f (e.same.free q)
 ·exact f q
theorem aW.ext{K:PySem.W.Frag}{F c:YP->Prop}{H b H₀:Hp}{a:L2.St}{ρ:List Sl}(S:aW K F H H₀ a ρ)(e:aH F c H b):aW K c b H₀ a ρ:=
 ⟨S.len,fun i s h=>let⟨o,q,r⟩:=S.sl i s h;⟨o,q,r.ext e⟩,S.sep,e.fz S.fz⟩
theorem aW.dat{K:PySem.W.Frag}{F:YP->Prop}{H H₀:Hp}{a:L2.St}{ρ:List Sl}(S:aW K F H H₀ a ρ){i:Nat}{d:D}(h:ρ[i]?=some (.dat d)):∃ v,a[i]?=some (some v)/\aM K F H d v:=by
 obtain⟨o,q,v,e,r⟩:=S.sl i _ h
 exact⟨v,by rw [q,e],r⟩
theorem aW.ownD{K:PySem.W.Frag}{F:YP->Prop}{H H₀:Hp}{c:L2.St}{ρ:List Sl}(S:aW K F H H₀ c ρ){i:Nat}{b:List (D × D)}(h:ρ[i]?=some (.ownD b)):
  ∃ a es ep,c[i]?=some (some (.ref a))/\H a=some (bO a es ep)/\¬ F a/\H₀ a=none/\(es.map (·.1)).Nodup/\es.length<=1000/\DReps K F H b es:=by
 obtain⟨o,q,a,es,ep,e,r⟩:=S.sl i _ h
 exact⟨a,es,ep,by rw [q,e],r⟩
theorem aW.own{K:PySem.W.Frag}{F:YP->Prop}{H H₀:Hp}{b:L2.St}{ρ:List Sl}(S:aW K F H H₀ b ρ){i:Nat}{ds:List D}(h:ρ[i]?=some (.own ds)):
  ∃ a vs,b[i]?=some (some (.ref a))/\H a=some (.lst vs)/\¬ F a/\H₀ a=none/\Reps K F H ds vs:=by
 obtain⟨o,q,a,vs,e,r⟩:=S.sl i _ h
 exact⟨a,vs,by rw [q,e],r⟩
theorem aW.put{K:PySem.W.Frag}{F:YP->Prop}{H H₀:Hp}{m:L2.St}{ρ:List Sl}(S:aW K F H H₀ m ρ){i:Nat}{d:D}{v:V}(r:aM K F H d v):aW K F H H₀ (m.set i (some v)) (ρ.set i (.dat d)):=by
 refine⟨by simp [S.len],fun j s h=>?_,fun j k a x u l g f n=>?_,S.fz⟩
 ·by_cases b:i=j
  ·subst b
   have c:i<ρ.length:=by
    have:=Qe.mp h
    simpa using this.1
   rw [Qx c]at h;cases h
   exact⟨some v,by rw [Qx (by rw [S.len];exact c)],v,rfl,r⟩
  ·rw [Qq b]at h;obtain⟨o,q,w⟩:=S.sl j s h
   exact⟨o,by rw [Qq b];exact q,w⟩
 ·have t:i≠j:=by
   intro e;subst e
   have c:i<ρ.length:=by
    have:=Qe.mp g
    simpa using this.1
   rw [Qx c]at g;cases g
  have p:i≠k:=by
   intro e;subst e
   have c:i<ρ.length:=by
    have:=Qe.mp f
    simpa using this.1
   rw [Qx c]at f;cases f
  rw [Qq t]at g n;rw [Qq p]at f ⊢;exact S.sep j k a x u l g f n
theorem aW.putOwn{K:PySem.W.Frag}{F:YP->Prop}{H H₀:Hp}{B:L2.St}{ρ:List Sl}(S:aW K F H H₀ B ρ){i:Nat}{ds:List D}{vs:List V}{p:YP}(E:H p=none)(Q:H₀ p=none)(r:Reps K F H ds vs):
  aW K F (aJ H p (.lst vs)) H₀ (B.set i (some (.ref p))) (ρ.set i (.own ds)):=by
 have e:aH F F H (aJ H p (.lst vs)):=aH.fresh E;have S':=S.ext e;have O:¬ F p:=fun f=>S.fz p f E
 refine⟨by simp [S.len],fun j s h=>?_,fun j k a x v n A y u t=>?_,S'.fz⟩
 ·by_cases c:i=j
  ·subst c
   have g:i<ρ.length:=by
    have:=Qe.mp h
    simpa using this.1
   rw [Qx g]at h;cases h
   exact⟨some (.ref p),by rw [Qx (by rw [S.len];exact g)],p,vs,rfl,cN,O,Q,r.stay e.stay⟩
  ·rw [Qq c]at h;obtain⟨o,q,w⟩:=S'.sl j s h
   exact⟨o,by rw [Qq c];exact q,w⟩
 ·have l:∀(m:Nat) (a:YP) (v:List D),i≠m->(ρ.set i (.own ds))[m]?=some (.own v)->(B.set i (some (.ref p)))[m]?=some (some (.ref a))->a≠p:=fun m a v N J G z=>by
   rw [Qq N]at J G;obtain⟨b,T,M,I,_⟩:=S.own J;rw [M]at G;cases G;subst z;rw [E]at I;cases I
  by_cases c:i=j
  ·subst c;have d:i≠k:=n
   have g:i<ρ.length:=by
    have:=Qe.mp A
    simpa using this.1
   rw [Qx (by rw [S.len];exact g)]at u;cases u;exact l k p v d y t rfl
  ·by_cases d:i=k
   ·subst d
    have g:i<ρ.length:=by
     have:=Qe.mp y
     simpa using this.1
    rw [Qx (by rw [S.len];exact g)]at t;cases t;exact l j p x c A u rfl
   ·rw [Qq c]at A u;rw [Qq d]at y t;exact S.sep j k a x v n A y u t
theorem aW.turn{K:PySem.W.Frag}{F:YP->Prop}{H H₀:Hp}{N:L2.St}{ρ:List Sl}(S:aW K F H H₀ N ρ){i:Nat}{ds es:List D}{vs us:List V}{p:YP}(J:ρ[i]?=some (.own ds))(hs:N[i]?=some (some (.ref p)))
  (I:H p=some (.lst vs)) (M:¬ F p) (r:Reps K F H es us):aW K F (aJ H p (.lst us)) H₀ N (ρ.set i (.own es))/\bA K F F H (aJ H p (.lst us)):=by
 have T:bA K F F H (aJ H p (.lst us)):=⟨fun _ h=>h,fun a xs h=>by
   rcases h with(h | ⟨o,h⟩) | h
   ·exact .inl (.inl (by rw [aV (by intro z;subst z;rw [I]at h;cases h)];exact h))
   ·exact .inl (.inr ⟨o,by rw [aV (by intro z;subst z;rw [I]at h;cases h)];exact h⟩)
   ·exact .inr h,fun a xs f h=>by
   have x:a≠p:=fun z=>M (z ▸ f);rcases h with h | ⟨o,h⟩
   ·exact .inl (by rw [aV x];exact h)
   ·exact .inr ⟨o,by rw [aV x];exact h⟩,fun a φ f h=>by rw [aV (fun z=>M (by rw [<- z];exact f))];exact h⟩
 refine⟨⟨by simp [S.len],fun j s h=>?_,fun j k a u c Q h1 h2 h3=>?_,fun a f z=>S.fz a f (by
  have x:a≠p:=fun y=>M (by rw [<- y];exact f)
  rwa [aV x]at z)⟩,T⟩
 ·by_cases t:i=j
  ·subst t;have hl:i<ρ.length:=(Qe.mp J).1;rw [Qx hl]at h;cases h;obtain⟨a,ws,Z,_,_,q4,_⟩:=S.own J;rw [hs]at Z;cases Z
   exact⟨_,hs,p,us,rfl,cN,M,q4,r.stay T⟩
  ·rw [Qq t]at h;obtain⟨o,q,w⟩:=S.sl j s h
   refine⟨o,q,?_⟩
   cases s with
   | no=>trivial
   | ownM O=>
    obtain⟨a,c,Y,e,m⟩:=w
    exact⟨a,c,Y,e,m.to T fun b φ U B=>⟨by rw [aV (by intro z;subst z;rw [I]at U;cases U)];exact U,B⟩⟩
   | ownD O=>
    obtain⟨a,c,Y,e,G,B,X,n,l,A⟩:=w
    exact⟨a,c,Y,e,by rw [aV (by intro z;subst z;rw [I]at G;cases G)];exact G,B,X,n,l,A.stay T⟩
   | dat d=>obtain⟨v,e,A⟩:=w;exact⟨v,e,A.stay T⟩
   | own u=>
    obtain⟨a,ws,e,G,B,X,A⟩:=w
    have x:a≠p:=by
     intro z;subst z;exact S.sep i j a ds u t J h hs (by rw [q,e])
    exact⟨a,ws,e,by rw [aV x];exact G,B,X,A.stay T⟩
 ·have get:∀(m:Nat) (c:List D),(ρ.set i (.own es))[m]?=some (.own c)->∃ ds'':List D,ρ[m]?=some (.own ds''):=fun m c g=>by
   by_cases E:i=m
   ·subst E;exact⟨ds,J⟩
   ·rw [Qq E]at g;exact⟨c,g⟩
  obtain⟨d1,g1⟩:=get j u h1;obtain⟨d2,g2⟩:=get k c h2;exact S.sep j k a d1 d2 Q g1 g2 h3
def frz:Sl->Sl
 | .own b=>.dat (.list b)
 | .ownD a=>.dat (.dict a)
 | .ownM _=>.no
 | s=>s
def dQ(b:L2.St)(ρ:List Sl)(a:YP):Prop:=(∃(i:Nat) (ds:List D),ρ[i]?=some (.own ds)/\b[i]?=some (some (.ref a))) ∨ ∃(i:Nat) (kvs:List (D × D)),ρ[i]?=some (.ownD kvs)/\b[i]?=some (some (.ref a))
theorem aW.frz{K:PySem.W.Frag}{F:YP->Prop}{H H₀:Hp}{t:L2.St}{ρ:List Sl}(S:aW K F H H₀ t ρ):aW K (fun a=>F a ∨ dQ t ρ a) H H₀ t (ρ.map frz):=by
 have T:bA K F (fun a=>F a ∨ dQ t ρ a) H H:=⟨fun _ h=>.inl h,fun _ _ h=>h,fun _ _ _ h=>h,fun _ _ _ h=>h⟩
 refine⟨by simp [S.len],fun j s h=>?_,fun j k a B J _ p=>?_,fun a f=>?_⟩
 ·rw [QH]at h
  cases e:ρ[j]? with
  | none=>rw [e]at h;cases h
  | some u=>
   rw [e]at h;obtain⟨o,q,w⟩:=S.sl j u e
   refine⟨o,q,?_⟩
   cases u with
   | no=>cases h;trivial
   | ownM g=>cases h;trivial
   | ownD g=>
    cases h;obtain⟨a,J,M,c,y,G,I,n,l,r⟩:=w
    exact⟨.ref a,c,.dct (.inr (.inr ⟨j,g,e,by rw [q,c]⟩)) y n l (r.stay T)⟩
   | dat d=>cases h;obtain⟨v,c,r⟩:=w;exact⟨v,c,r.stay T⟩
   | own B=>
    cases h;obtain⟨a,E,c,y,G,I,r⟩:=w
    exact⟨.ref a,c,.lst (.inl ⟨.inr (.inl ⟨j,B,e,by rw [q,c]⟩),.inl y⟩) (r.stay T)⟩
 ·rw [QH]at p
  cases e:ρ[j]? with
  | none=>rw [e]at p;cases p
  | some u=>rw [e]at p;cases u <;> cases p
 ·rcases f with f | ⟨i,B,x,m⟩ | ⟨i,g,x,m⟩
  ·exact S.fz a f
  ·obtain⟨b,E,A,z,_⟩:=S.own x;rw [A]at m;cases m;rw [z];simp
  ·obtain⟨b,E,M,A,z,_⟩:=S.ownD x;rw [A]at m;cases m;rw [z];simp
end DL
namespace DL
open PySem.Spec L2
abbrev aA:=List Sl
section
variable {X:Cx}
theorem bT{e:Expr}{t t':TE}(h:PE X e t)(m:∀ σ H Q,t' σ H Q->t σ H Q):PE X e t':=fun a s σ H Q I q=>h a s σ H Q I (m σ H Q q)
theorem mV{e:Expr}{t t':TT}(h:PT X e t)(m:∀ σ H Q,t' σ H Q->t σ H Q):PT X e t':=fun a s σ H Q I q=>h a s σ H Q I (m σ H Q q)
theorem BM{e:Expr}{t t':TT}(h:PW X e t)(m:∀ σ H Q,t' σ H Q->t σ H Q):PW X e t':=fun b a s σ H Q I q=>h b a s σ H Q I (m σ H Q q)
theorem nU{es:List Expr}{t t':TA}(h:PA X es t)(m:∀ σ H Q,t' σ H Q->t σ H Q):PA X es t':=fun b a s σ H Q I q=>h b a s σ H Q I (m σ H Q q)
theorem ps_mono(h:PS X e t)(m:∀ W σ H,t' W σ H->t W σ H):PS X e t':=fun a s σ H W I q=>h a s σ H W I (m W σ H q)
theorem wV(h:eX X e t)(m:∀ W σ H,t' W σ H->t W σ H):eX X e t':=fun a s σ H W I q=>h a s σ H W I (m W σ H q)
theorem sT(h:bC X f r)(m:∀ x y H Q,r' x y H Q->r x y H Q):bC X f r':=fun a s b H x y v u Q I d c q=>h a s b H x y v u Q I d c (m x y H Q q)
theorem zTk(h:nC X f r)(m:∀ x H Q,r' x H Q->r x H Q):nC X f r':=fun a s b H x v Q I c q=>h a s b H x v Q I c (m x H Q q)
theorem oD(h:dA X f r)(m:∀ x H Q,r' x H Q->r x H Q):dA X f r':=fun a s b H x v Q I c q=>h a s b H x v Q I c (m x H Q q)
theorem Hj(h:fC X r)(m:∀ x y H Q,r' x y H Q->r x y H Q):fC X r':=fun a b c s d H x y v u Q I f e q g=>h a b c s d H x y v u Q I f e (m x y H Q q) g
end
inductive m9(K:PySem.W.Frag)(σ:L2.St)(H:Hp){α:Type}(g:aA->Option α)(h:(YP->Prop)->α->Prop):Prop
 | mk (F:YP->Prop) (H₀:Hp) (ρ:aA) (x:α) (S:aW K F H H₀ σ ρ) (q:g ρ=some x) (k:h F x):m9 K σ H g h
def tD(K:PySem.W.Frag)(g:aA->Option D):TE:=fun a H Q=>m9 K a H g fun F d=>∀ F' H' v,aH F F' H H'->aM K F' H' d v->Q v H'
def pJ(K:PySem.W.Frag)(g:aA->Option Bool):TT:=fun a H Q=>m9 K a H g fun F b=>∀ F' H',aH F F' H H'->Q b H'
def Ai(K:PySem.W.Frag)(g:aA->Option (List D)):TA:=fun a H Q=>m9 K a H g fun F b=>∀ F' H' vs,aH F F' H H'->Reps K F' H' b vs->Q vs H'
def DE(X:Cx)(e:Expr)(g:aA->Option D):Prop:=PE X e (tD X.K g)
def DT(X:Cx)(e:Expr)(g:aA->Option Bool):Prop:=PT X e (pJ X.K g)
def DW(X:Cx)(e:Expr)(g:aA->Option Bool):Prop:=PW X e (pJ X.K g)
def DA(X:Cx)(es:List Expr)(g:aA->Option (List D)):Prop:=PA X es (Ai X.K g)
def eC(d:D):aA->Option D:=fun _=>some d
def eV(i:Nat):aA->Option D:=fun a=>match a[i]? with
 | some (.dat d)=>some d
 | _=>none
def aF(f:D->D->Option D)(ga gb:aA->Option D):aA->Option D:=fun a=>(ga a).bind fun x=>(gb a).bind fun y=>f x y
def jV(f:D->Option D)(ga:aA->Option D):aA->Option D:=fun a=>(ga a).bind f
def aG:aA->Option (List D):=fun _=>some []
def aC(ga:aA->Option D)(gr:aA->Option (List D)):aA->Option (List D):=fun a=>(ga a).bind fun x=>(gr a).bind fun b=>some (x::b)
def cH(ga:aA->Option (List D)):aA->Option D:=fun b=>(ga b).bind fun a=>if a.length<=1000 then some (.tuple a)else none
def gJ(ga:aA->Option (List D)):aA->Option D:=fun b=>(ga b).bind fun a=>if a.length<=1000 then some (.list a)else none
def aR(G:List D->Option D)(ga:aA->Option (List D)):aA->Option D:=fun a=>(ga a).bind G
def eJ:D->Option Bool
 | .bool b=>some b
 | _=>none
def u5:D->Option Int
 | .int i=>some i
 | _=>none
def eB(ga:aA->Option D):aA->Option Bool:=fun a=>(ga a).bind eJ
def jT(t u:aA->Option Bool):aA->Option Bool:=fun a=>(t a).bind fun b=>if b=true then u a else some false
def hW(t u:aA->Option Bool):aA->Option Bool:=fun a=>(t a).bind fun b=>if b=true then some true else u a
def kQ(t:aA->Option Bool):aA->Option Bool:=fun a=>(t a).bind fun b=>some (!b)
def kP(t:aA->Option Bool)(ga gb:aA->Option D):aA->Option D:=fun a=>(t a).bind fun b=>if b=true then ga a else gb a
def oK(ga gb:aA->Option D):aA->Option D:=fun a=>(ga a).bind fun x=>(eJ x).bind fun c=>if c=true then gb a else some (.bool false)
def Mo(ga gb:aA->Option D):aA->Option D:=fun a=>(ga a).bind fun x=>(eJ x).bind fun c=>if c=true then some (.bool true)else gb a
def AF(ga:aA->Option D):aA->Option D:=fun a=>(ga a).bind fun x=>(eJ x).bind fun c=>some (.bool (!c))
def t7(h h':D->D->Option D)(ga gb b:aA->Option D):aA->Option D:=fun a=>(ga a).bind fun x=>(gb a).bind fun y=>(h x y).bind fun z=>(eJ z).bind fun k=>if k=true then(b a).bind fun w=>h' y w else some (.bool false)
inductive Df(K:PySem.W.Frag)(h:D->D->Option D)(x y:V)(H:Hp)(Q:VK):Prop
 | mk (F:YP->Prop) (d e r:D) (z:∀ a,F a->H a≠none) (R1:aM K F H d x) (R2:aM K F H e y) (q:h d e=some r) (k:∀ F' H' v,aH F F' H H'->aM K F' H' r v->Q v H'):Df K h x y H Q
def cD(K:PySem.W.Frag)(h:D->D->Option D):R2:=fun x y H Q=>Df K h x y H Q
inductive De(K:PySem.W.Frag)(h:D->Option D)(x:V)(H:Hp)(Q:VK):Prop
 | mk (F:YP->Prop) (d r:D) (z:∀ a,F a->H a≠none) (R1:aM K F H d x) (q:h d=some r) (k:∀ F' H' v,aH F F' H H'->aM K F' H' r v->Q v H'):De K h x H Q
def DM(K:PySem.W.Frag)(h:D->Option D):V->Hp->VK->Prop:=fun x H Q=>De K h x H Q
inductive Dg(K:PySem.W.Frag)(h:List D->Option D)(xs:List V)(H:Hp)(Q:VK):Prop
 | mk (F:YP->Prop) (ds:List D) (r:D) (z:∀ a,F a->H a≠none) (R1:Reps K F H ds xs) (q:h ds=some r) (k:∀ F' H' v,aH F F' H H'->aM K F' H' r v->Q v H'):Dg K h xs H Q
def iR(K:PySem.W.Frag)(h:List D->Option D):List V->Hp->VK->Prop:=fun a H Q=>Dg K h a H Q
section
variable {X:Cx}{a b c e:Expr}{es:List Expr}{ga gb gc:aA->Option D}{pos p:Pos}
theorem aE{d c:Type}{o:Option d}{f:d->Option c}{b:c}(h:o.bind f=some b):∃ a,o=some a/\f a=some b:=by
 cases o with
 | none=>cases h
 | some a=>exact⟨a,rfl,h⟩
theorem v2(h:PE X e (tC v))(r:∀ K F H,aM K F H d v):DE X e (eC d):=
 bT h fun c H Q b=>by
  obtain⟨F,a,f,g,S,q,k⟩:=b;cases q;exact k F H v (aH.refl F H) (r _ _ _)
theorem aN:DE X (.Constant (.int i) j pos) (eC (.int i)):=v2 Xj fun _ _ _=>.int i
theorem gC:DE X (.Constant (.bool i) j pos) (eC (.bool i)):=v2 NH fun _ _ _=>.bl i
theorem FQ:DE X (.Constant .none j pos) (eC .none):=v2 Wt fun _ _ _=>.non
theorem iF:DE X (.Constant (.str x) j pos) (eC (.str x)):=v2 IK fun _ _ _=>.str x
theorem aD(i:Nat)(j:X.N[i]?=some x:=by rfl)(f:gG X.env.scope x:=by first | exact Ze rfl | exact Zc (Ze rfl) | exact Zc (Zc rfl))(h:(x == ("__debug__":Str))=false:=by decide)
  (a:(x == ("__classdict__":Str))=false:=by decide):DE X (.Name x pos) (eV i):=
 bT (pe_var j f h a) fun l H Q c=>by
  obtain⟨F,b,m,d,S,q,k⟩:=c;unfold eV at q
  split at q
  ·rename_i n e;cases q;obtain⟨v,g,r⟩:=S.dat e
   exact⟨v,g,k F H v (aH.refl F H) r⟩
  ·cases q
theorem x6{h:D->D->Option D}{b:L2.St}{H:Hp}{Q:VK}(q:tD X.K (aF h ga gb) b H Q):lY (cD X.K h) (tD X.K ga) (tD X.K gb) b H Q:=by
 obtain⟨F,a,c,d,S,q,k⟩:=q;obtain⟨x,f,q⟩:=aE q;obtain⟨y,e,q⟩:=aE q
 exact⟨F,a,c,x,S,f,fun m p v E1 R1=>⟨m,a,c,y,S.ext E1,e,fun l o u E2 R2=>⟨l,x,y,d,((S.ext E1).ext E2).fz,R1.stay E2.stay,R2,q,fun j i w n g=>k j i w (E1.trans (E2.trans n)) g⟩⟩⟩
theorem bF(c:bC X (Zy op) (cD X.K h))(e:DE X a ga)(d:DE X b gb):DE X (.BinOp a op b pos) (aF h ga gb):=
 bT (NI c e d) fun _ _ _ q=>x6 q
theorem FP(c:bC X (Zf op) (cD X.K h))(f:DE X a ga)(e:DE X b gb)(d:ZH op b=false):DE X (.Compare a [op] [b] pos) (aF h ga gb):=
 bT (Xi c f e d) fun _ _ _ q=>x6 q
theorem bI(c:fC X (cD X.K h))(e:DE X a ga)(d:DE X b gb)(hs:qX b:=by exact fun _ _=>rfl):DE X (.Subscript a b pos) (aF h ga gb):=
 bT (sW c e d hs) fun _ _ _ q=>x6 q
theorem tX{op:UnaryOp}{h:D->Option D}(f:nC X (unaryOp op) (DM X.K h))(g:DE X a ga):DE X (.UnaryOp op a pos) (jV h ga):=
 bT (NJ f g) fun r H Q e=>by
  obtain⟨F,b,c,d,S,q,k⟩:=e;obtain⟨x,i,q⟩:=aE q
  exact⟨F,b,c,x,S,i,fun o s v E1 l=>⟨o,x,d,(S.ext E1).fz,l,q,fun n m w p j=>k n m w (E1.trans p) j⟩⟩
theorem lE{K:PySem.W.Frag}{F:YP->Prop}{H:Hp}{d:D}{v:V}{b:Bool}(r:aM K F H d v)(h:eJ d=some b):v=.bl b:=by
 cases r with
 | bl c=>cases h;rfl
 | _=>cases h
theorem zSh{K:PySem.W.Frag}{F:YP->Prop}{H:Hp}{d:D}{v:V}{i:Int}(r:aM K F H d v)(h:u5 d=some i):v=.int i:=by
 cases r with
 | int c=>cases h;rfl
 | _=>cases h
theorem GJ{t:TE}{g:aA->Option D}(m:∀ a H Q,tD X.K g a H Q->t a H Q){a:L2.St}{H:Hp}{Q:Bool->Hp->Prop}(q:pJ X.K (eB g) a H Q):Bv t a H Q:=by
 obtain⟨F,c,e,b,S,q,k⟩:=q;obtain⟨d,f,q⟩:=aE q;exact m a H _ ⟨F,c,e,d,S,f,fun j i v l h=>⟨b,lE h q,k j i l⟩⟩
theorem dB(c:bC X (Zf op) (cD X.K h))(f:DE X a ga)(e:DE X b gb)(d:ZH op b=false):DT X (.Compare a [op] [b] pos) (eB (aF h ga gb)):=
 mV (wW c f e d) fun _ _ _ q=>GJ (fun _ _ _=>x6) q
theorem MY{h h':D->D->Option D}{c:L2.St}{H:Hp}{Q:VK}(q:tD X.K (t7 h h' ga gb gc) c H Q):KU (cD X.K h) (cD X.K h') (tD X.K ga) (tD X.K gb) (tD X.K gc) c H Q:=by
 obtain⟨F,a,b,d,S,q,k⟩:=q;obtain⟨x,o,q⟩:=aE q;obtain⟨y,n,q⟩:=aE q;obtain⟨z,m,q⟩:=aE q;obtain⟨f,l,q⟩:=aE q
 refine⟨F,a,b,x,S,o,fun I T v E1 R1=>⟨I,a,b,y,S.ext E1,n,fun G O u E2 R2=>⟨G,x,y,z,((S.ext E1).ext E2).fz,R1.stay E2.stay,R2,m,fun g A w E3 s=>⟨f,lE s l,?_⟩⟩⟩⟩
 cases f with
 | false=>
  simp only [Qp,if_false]at q ⊢;cases q;exact k g A _ (E1.trans (E2.trans E3)) (.bl false)
 | true=>
  simp only [if_true]at q ⊢;obtain⟨e,j,q⟩:=aE q;have S3:=((S.ext E1).ext E2).ext E3
  exact⟨g,a,b,e,S3,j,fun E N M E4 r=>⟨E,y,e,d,(S3.ext E4).fz,(R2.stay E3.stay).stay E4.stay,r,q,fun B t i J p=>k B t i (E1.trans (E2.trans (E3.trans (E4.trans J)))) p⟩⟩
theorem FO(e:bC X (Zf op) (cD X.K h))(d:bC X (Zf op') (cD X.K h'))(j:DE X a ga)(i:DE X b gb)(g:DE X c gc)
  (f:lastMarks [op,op'] [b,c]=false:=by with_unfolding_all rfl):DE X (.Compare a [op,op'] [b,c] pos) (t7 h h' ga gb gc):=
 bT (Xh e d j i g f) fun _ _ _ q=>MY q
theorem mL(g:DE X a ga)(he:∀ whole,isTrue a X.env whole=(do let v <- whole;standAt a.pos;Uh [v] (truthy v)):=by intro _;rfl):DT X a (eB ga):=
 mV (HS g he) fun n H Q f=>by
  obtain⟨F,c,e,b,S,q,k⟩:=f;obtain⟨d,h,q⟩:=aE q
  exact⟨F,c,e,d,S,h,fun l j v m i=>⟨b,lE i q,k l j m⟩⟩
variable {t u:aA->Option Bool}{rest:List Expr}
theorem Gk(b:DT X a t):DW X (.BoolOp .And [a] pos) t:=Wn b
theorem xR(b:DT X a t):DW X (.BoolOp .Or [a] pos) t:=HV b
theorem Gj(i:DT X a t)(h:DW X (.BoolOp .And (b::rest) pos) u):DW X (.BoolOp .And (a::b::rest) pos) (jT t u):=
 BM (Wm i h) fun p H Q g=>by
  obtain⟨F,c,e,r,S,q,k⟩:=g;obtain⟨d,j,q⟩:=aE q
  refine⟨F,c,e,d,S,j,fun f m E1=>?_⟩
  cases d with
  | true=>simp only [if_true]at q ⊢;exact⟨f,c,e,r,S.ext E1,q,fun n l o=>k n l (E1.trans o)⟩
  | false=>simp only [Qp,if_false]at q ⊢;cases q;exact k f m E1
theorem xQ(i:DT X a t)(h:DW X (.BoolOp .Or (b::rest) pos) u):DW X (.BoolOp .Or (a::b::rest) pos) (hW t u):=
 BM (HU i h) fun p H Q g=>by
  obtain⟨F,c,e,r,S,q,k⟩:=g;obtain⟨d,j,q⟩:=aE q
  refine⟨F,c,e,d,S,j,fun f m E1=>?_⟩
  cases d with
  | false=>simp only [Qp,if_false]at q ⊢;exact⟨f,c,e,r,S.ext E1,q,fun n l o=>k n l (E1.trans o)⟩
  | true=>simp only [if_true]at q ⊢;cases q;exact k f m E1
theorem pB(h:DW X a t):DT X a t:=PW.pt h
theorem xO(f:DT X a t):DT X (.UnaryOp .Not a pos) (kQ t):=
 mV (WO f) fun l H Q e=>by
  obtain⟨F,b,c,r,S,q,k⟩:=e;obtain⟨d,g,q⟩:=aE q;cases q
  exact⟨F,b,c,d,S,g,fun i h j=>k i h j⟩
theorem Bn(b:DE X a ga):DE X (.BoolOp op [a] pos) ga:=Wv b
theorem Bk(j:DE X a ga)(i:DE X (.BoolOp .And (b::rest) pos) gb):DE X (.BoolOp .And (a::b::rest) pos) (oK ga gb):=
 bT (Xd j i) fun u H Q h=>by
  obtain⟨F,e,f,r,S,q,k⟩:=h;obtain⟨d,m,q⟩:=aE q;obtain⟨c,l,q⟩:=aE q
  refine⟨F,e,f,d,S,m,fun g p v E1 n=>⟨c,lE n l,?_⟩⟩
  cases c with
  | true=>simp only [if_true]at q ⊢;exact⟨g,e,f,r,S.ext E1,q,fun s o w t R2=>k s o w (E1.trans t) R2⟩
  | false=>simp only [Qp,if_false]at q ⊢;cases q;exact k g p _ E1 (.bl false)
theorem Ru(g:DE X a ga):DE X (.UnaryOp .Not a pos) (AF ga):=
 bT (Wu g) fun o H Q f=>by
  obtain⟨F,b,e,r,S,q,k⟩:=f;obtain⟨d,i,q⟩:=aE q;obtain⟨c,h,q⟩:=aE q;cases q
  exact⟨F,b,e,d,S,i,fun m l v n j=>⟨c,lE j h,k m l _ n (.bl _)⟩⟩
theorem Bl(m:DT X c t)(o:DE X a ga)(n:DE X b gb):DE X (.IfExp c a b pos) (kP t ga gb):=
 bT (IH m o n) fun s H Q l=>by
  obtain⟨F,e,f,r,S,q,k⟩:=l;obtain⟨d,p,q⟩:=aE q
  refine⟨F,e,f,d,S,p,fun j u E1=>?_⟩
  cases d with
  | true=>simp only [if_true]at q ⊢;exact⟨j,e,f,r,S.ext E1,q,fun h g w i R2=>k h g w (E1.trans i) R2⟩
  | false=>simp only [Qp,if_false]at q ⊢;exact⟨j,e,f,r,S.ext E1,q,fun h g w i R2=>k h g w (E1.trans i) R2⟩
variable {gr:aA->Option (List D)}
theorem aP:DA X [] aG:=nU fQ fun c H Q b=>by
 obtain⟨F,a,e,d,S,q,k⟩:=b;cases q;exact k F H [] (aH.refl F H) .nil
theorem Rq(h:DE X e ga)(g:DA X es gr)(hs:JU (e::es) X.env=(false,Za e X.env)::JU es X.env:=by rfl):DA X (e::es) (aC ga gr):=
 nU (eF h g hs) fun o H Q c=>by
  obtain⟨F,a,b,d,S,q,k⟩:=c;obtain⟨x,j,q⟩:=aE q;obtain⟨f,i,q⟩:=aE q;cases q
  exact⟨F,a,b,x,S,j,fun n r v E1 R1=>⟨n,a,b,f,S.ext E1,i,fun m l p E2 R2=>k m l _ (E1.trans E2) (.cons (R1.stay E2.stay) R2)⟩⟩
theorem fW{n:Nat}(h:n<=1000):n<=sizeLine:=Yr (qH h)
theorem Ry{x1}(h:DA X es gr):DE X (.Tuple es x1 pos) (cH gr):=
 bT (Wx h) fun l H Q g=>by
  obtain⟨F,a,f,d,S,q,k⟩:=g;obtain⟨c,i,q⟩:=aE q
  refine⟨F,a,f,c,S,i,fun j n m E1 R1=>?_⟩
  by_cases b:c.length<=1000
  ·rw [if_pos b]at q;cases q
   refine⟨fW (by rw [<- R1.length];exact b),fun p e=>k j _ _ (E1.trans (aH.fresh e)) (aM.newTup e R1)⟩
  ·rw [if_neg b]at q;cases q
theorem oH(h:DA X es gr):DE X (.List es pos) (gJ gr):=
 bT (BF h) fun j H Q g=>by
  obtain⟨F,a,f,d,S,q,k⟩:=g;obtain⟨c,i,q⟩:=aE q
  refine⟨F,a,f,c,S,i,fun n m l E1 R1=>?_⟩
  by_cases b:c.length<=1000
  ·rw [if_pos b]at q;cases q
   refine⟨fW (by rw [<- R1.length];exact b),fun p e=>k _ _ _ (E1.trans (aH.frozen e)) (aM.newLst e R1)⟩
  ·rw [if_neg b]at q;cases q
theorem GH{h:List D->Option D}{b:L2.St}{H:Hp}{Q:VK}(q:tD X.K (aR h gr) b H Q):Ah (iR X.K h) (Ai X.K gr) b H Q:=by
 obtain⟨F,a,e,d,S,q,k⟩:=q;obtain⟨c,f,q⟩:=aE q
 exact⟨F,a,e,c,S,f,fun l o n E1 g=>⟨l,c,d,(S.ext E1).fz,g,q,fun j i w m R2=>k j i w (E1.trans m) R2⟩⟩
theorem gX{id:String}{x:Str}{h:List D->Option D}(g:dA X (.builtin id) (iR X.K h))(f:Gl X x)(d:X.mg x=none)(b:Zn x=some (.builtin id))(i:DA X (e::es) gr)(c:x≠"__name__":=by decide)(a:(x == ("__debug__":Str))=false:=by decide)
  (he:JU (e::es) X.env=(false,Za e X.env)::JU es X.env:=by rfl) (hpl:(Zb pos (JU es X.env)).any (·.1)=false:=by rfl):DE X (.Call (.Name x p) (e::es) [] pos) (aR h gr):=
 bT (BD g f d b i c a he hpl) fun _ _ _ q=>GH q
theorem vZ(g:dA X (.type T) (iR X.K h))(f:Gl X x)(d:X.mg x=none)(b:Zn x=some (.type T))(i:DA X (e::es) gr)(c:x≠"__name__":=by decide)(a:(x == ("__debug__":Str))=false:=by decide)
  (he:JU (e::es) X.env=(false,Za e X.env)::JU es X.env:=by rfl) (hpl:(Zb pos (JU es X.env)).any (·.1)=false:=by rfl):DE X (.Call (.Name x p) (e::es) [] pos) (aR h gr):=
 bT (sV g f d b i c a he hpl) fun _ _ _ q=>GH q
def aX(K:PySem.W.Frag)(n:Nat)(G:List D->Option D):Sp:=fun b H Q _=>∃(F:YP->Prop) (ds:List D) (d:D),ds.length=n/\(∀ a,F a->H a≠none)/\Reps K F H ds b/\G ds=some d/\∀ F' H' v,aH F F' H H'->aM K F' H' d v->Q v H'
theorem Rs{k n:Nat}{f:YP}{i:J5}{h:List Str}{x:Str}{G:List D->Option D}(F:aK X.prog X.w X.K X.mg X.base aL k f i h (aX X.K n G))(o:bU k X.A)(t:Gl X x)(r:X.mg x=some (.ref f))(s:PySem.W.keepIn X.K (.ref f)=true)(u:Binds X.K i h [])
  (v:DA X (e::es) gr) (c:∀ ρ ds,gr ρ=some ds->ds.length=n) (g:(x == ("__debug__":Str))=false:=by decide) (he:JU (e::es) X.env=(false,Za e X.env)::JU es X.env:=by rfl) (hpl:(Zb pos (JU es X.env)).any (·.1)=false:=by rfl):
  DE X (.Call (.Name x p) (e::es) [] pos) (aR G gr):=
 bT (sU (E:=E0) F o t r s u .nil mS v g he hpl) fun N H Q l=>by
  obtain⟨F,a,ρ,d,S,q,k⟩:=l;obtain⟨b,j,q⟩:=aE q
  exact⟨F,a,ρ,b,S,j,fun J B m E1 y=>by
   show aX X.K n G (m++[]) B Q E0
   rw [QG]
   exact⟨J,b,d,c ρ b j,(S.ext E1).fz,y,q,fun I z w M R2=>k I z w (E1.trans M) R2⟩⟩
theorem Rf(h:aG ρ=some ds):ds.length=0:=by cases h;rfl
theorem xS{n:Nat}(h':∀ ρ ds,gr ρ=some ds->ds.length=n)(ρ:aA)(ds:List D)(h:aC ga gr ρ=some ds):ds.length=n+1:=by
 obtain⟨x,c,q⟩:=aE h;obtain⟨a,b,q⟩:=aE q;cases q
 simp [h' ρ a b]
end
end DL
namespace EX
open PySem.Spec L2
def mY(h:Heap)(e:YP)(cls:JS)(a:Option YP):Prop:=
 ∃ oe vs,h.get? e=some oe/\oe.cls=cls/\oe.data=.fields vs/\match a with
  | none=>vs[1]?=some .none
  | some T=>vs[1]?=some (.ref T)/\T≠e/\∃ oT ts,h.get? T=some oT/\oT.data=.fields ts/\ts[3]?=some .none
structure ThrownC(X:Cx)(pins:List (YP × Obj))(H:Hp)(s:JT)(a:YP)(cls:JS)(tr:Option YP):Prop where
 fly:mY s.heap a cls tr
 new:∀ b,(b=a ∨ some b=tr)->X.s₀.heap.get? b=none/\H b=none/\b≠X.env.locals/\(∀ x c,X.env.cells.lookup x=some c->c≠b)/\∀ p∈X.pn++pins,p.1≠b
section
variable {M:Model}{A:Around}{E:JS->JT->Prop}{s:JT}
structure rH(fs:List YP)(no:YP->Prop)(h h':Heap):Prop where
 keep:∀ b o,¬ no b->b∉fs->h.get? b=some o->h'.get? b=some o
 slot:∀ b o,¬ no b->h.get? b=some o->∃ sl,h'.get? b=some { o with slots:=sl }
theorem xT
  (v:A.frames=some (env::outer)) (F:s.heap.FunFrames base (env::outer)) (J:env.frame=some L)
  (he:s.heap.get? e=some oe) (w:oe.data=.fields vs) (hsz:1<vs.size)
  (h:∀ h' T,s.heap.objs.size<=T->mY h' e oe.cls (some T)->rH (dN (env::outer)) (·=e) s.heap h'->Q () { s with heap:=h' }):
  JW M A (do let a <- frameOf env;let pl <- entryPlaceOf L hadNext;let b <- EntryCells.newEntry head a .none (Z2 L) .none pl;setField (.ref e) 1 b) (fun _ s'=>JW M A (setFlight (.ref e) none) Q E s') E s:=by
 have q:e∉(env::outer).filterMap (·.frame):=fun I=>by
  obtain⟨_,o,t,u⟩:=F.mem I
  rw [he]at t;injection t with t;subst t;exact u vs w
 refine Qa (wpAny_frameOf_fun v F J fun c d=>?_);refine Qa (wpAny_entryPlaceOf fun pl p=>?_);unfold EntryCells.newEntry newFields;refine Qa (Yj ?_ (p.sizeOk5 _ _ _ _ _));have l:c.get? e=some oe:=(d.2.1 e q).trans he;have k:=Qf (h:=c) { cls:=.type "traceback",dict:=none,data:=.fields ([head,.ref L,.none,Z2 L,.none]++(if pl.isEmpty then ZA 6 J9 else pl)).toArray } l;refine YR k w hsz ?_;have n:c.objs.size≠e:=YZ (Qs l);have g:=Yq w (·.setIfInBounds 1 (J2 c.objs.size));have j:=Q1 (Zt (·.setIfInBounds 1 (J2 c.objs.size))) k (Y9 g)
 have m:=(Yk (c.push { cls:=.type "traceback",dict:=none,data:=.fields ([head,.ref L,.none,Z2 L,.none]++(if pl.isEmpty then ZA 6 J9 else pl)).toArray })
  (Zt (·.setIfInBounds 1 (J2 c.objs.size))) (ZI n)).trans (Qu c rfl)
 unfold setFlight;refine Qa (Jg j g (x:=.ref c.objs.size) (by simp [hsz]) ?_);rw [if_pos (show(J2 c.objs.size != J9)=true from by simp)];refine YR m rfl (by simp only [QI,Qm,Qo,JM] <;> lia) (h _ c.objs.size (by rw [d.1];exact Qj _) ?_ ?_)
 ·refine⟨_,_,?_,Uy _ _,g,by simp [hsz],n,_,_,Q1 _ m (Y9 (Yq rfl _)),Yq rfl _,by first | (simp;done) | (rcases p with rfl | ⟨_,_,_,_,_,_,_,rfl⟩ <;> simp)⟩
  rw [Yk _ _ n];exact j
 ·have keep:∀ b o,¬ (b=e)->c.get? b=some o->
    (((c.push { cls:=.type "traceback",dict:=none,data:=.fields ([head,.ref L,.none,Z2 L,.none]++(if pl.isEmpty then ZA 6 J9 else pl)).toArray }).update e (Zt (·.setIfInBounds 1 (J2 c.objs.size)))).update c.objs.size
     (Zt (·.setIfInBounds 3 ((none:Option YP).elim J9 fun f=>Z2 f)))).get? b=some o:=fun b o r i=>by
   have B:c.objs.size≠b:=YZ (Qs i);have z:e≠b:=ZI r;rw [Yk _ _ B,Yk _ _ z];exact Qf _ i
  refine⟨fun b o r y i=>keep b o r ((d.2.1 b y).trans i),fun b o r i=>?_⟩
  obtain⟨G,H⟩:=d.2.2 b o i
  exact⟨G,keep b _ r H⟩
theorem VV
  (k:A.frames=some (env::outer)) (x:s.heap.FunFrames base (env::outer)) (t:env.frame=some L) (F:mY s.heap e cls tr)
  (h:∀ h' T,s.heap.objs.size<=T->mY h' e cls (some T)->rH (dN (env::outer)) (fun b=>b=e ∨ some b=tr) s.heap h'->Q () { s with heap:=h' }):JW M A (leaving env (.ref e)) Q E s:=by
 obtain⟨I,r,n,G,p,f⟩:=F;subst G;unfold leaving noteFrame;simp only [t]
 cases tr with
 | none=>
  have m:r[1]?=some .none:=f;refine Qa (Qa (Jg n p m ?_));rw [if_neg (by decide)];refine xT k x t n p (Q5.mp m).1 fun h' T f w K'=>h h' T f w ⟨fun b o c=>K'.keep b o fun z=>c (.inl z),fun b o c=>K'.slot b o fun z=>c (.inl z)⟩
 | some T=>
  obtain⟨m,v,J,B,f,i,y⟩:=f;refine Qa (Qa (Jg n p m ?_));rw [if_pos (show(J2 T != J9)=true from by simp)];refine Qa (Jg f i y ?_);rw [if_neg (show ¬ ((J9 == Z2 L)=true)from by simp [Z2])];refine Qa (YR f i (Q5.mp y).1 ?_);have a:∀ b,b≠T->(s.heap.update T (Zt (·.setIfInBounds 3 J9))).get? b=s.heap.get? b:=fun b c=>Yk _ _ (ZI c)
  have d:∀ b o,s.heap.get? b=some o->(∀ r,o.data≠.fields r)->b≠T:=fun b o c g q=>by
   rw [q,f]at c;injection c with c;subst c;exact g B i
  refine xT (s:={ s with heap:=s.heap.update T (Zt (·.setIfInBounds 3 J9)) }) k (x.of_keeps fun b o c g=>⟨o,(a b (d b o c g)).trans c,rfl⟩) t ((a e (ZI v)).trans n) p (Q5.mp m).1 fun h' H l w K'=>h h' H (by rw [Heap.size_update]at l;exact l) w ?_
  exact⟨fun b o c u j=>K'.keep b o (fun z=>c (.inl z)) u ((a b fun z=>c (.inr (by rw [z]))).trans j),fun b o c j=>K'.slot b o (fun z=>c (.inl z)) ((a b fun z=>c (.inr (by rw [z]))).trans j)⟩
end
end EX
namespace DL
open PySem.Spec L2
inductive aQ where
 | nx (ρ:aA)
 | rt (d:D)
 | bk (ρ:aA)
 | ct (ρ:aA)
 | ex (x:Str) (ρ:aA)
theorem bA.refl(K:PySem.W.Frag)(F:YP->Prop)(H:Hp):bA K F F H H:=⟨fun _ h=>h,fun _ _ h=>h,fun _ _ _ h=>h,fun _ _ _ h=>h⟩
theorem bA.trans{K:PySem.W.Frag}{F i g:YP->Prop}{H e H2:Hp}(a:bA K F i H e)(b:bA K i g e H2):bA K F g H H2:=
 ⟨fun x h=>b.up x (a.up x h),fun x c h=>b.tp x c (a.tp x c h),fun x c f h=>b.ls x c (a.up x f) (a.ls x c f h),fun x d f h=>b.xt x d (a.up x f) (a.xt x d f h)⟩
def tT(X:Cx)(b:YP->Prop)(H₀:Hp)(F:YP->Prop)(H:Hp)(W:jR):aQ->Prop
 | .nx ρ=>∀ F' H' σ,aH b F' H₀ H'->bA X.K F F' H H'->aW X.K F' H' H₀ σ ρ->W.nx σ H'
 | .rt d=>∀ F' H' v,aH b F' H₀ H'->aM X.K F' H' d v->W.rt v H'
 | .bk ρ=>∀ F' H' σ,aH b F' H₀ H'->bA X.K F F' H H'->aW X.K F' H' H₀ σ ρ->W.bk σ H'
 | .ct ρ=>∀ F' H' σ,aH b F' H₀ H'->bA X.K F F' H H'->aW X.K F' H' H₀ σ ρ->W.ct σ H'
 | .ex x ρ=>∀ F' H' σ pins s a C tr,aH b F' H₀ H'->aW X.K F' H' H₀ σ ρ->Inv X pins σ H' s->PySem.W.nsIn X.K J4 x=some (some (.ref C))->EX.ThrownC X pins H' s a (.ref C) tr->X.xe (.ref a) s
theorem tT.from{X:Cx}{a F h:YP->Prop}{H₀ H g:Hp}{W:jR}{o:aQ}(T:bA X.K F h H g)(k:tT X a H₀ F H W o):tT X a H₀ h g W o:=by
 cases o with
 | nx ρ=>exact fun f e b E c S=>k f e b E (T.trans c) S
 | rt d=>exact k
 | bk ρ=>exact fun f e b E c S=>k f e b E (T.trans c) S
 | ct ρ=>exact fun f e b E c S=>k f e b E (T.trans c) S
 | ex x ρ=>exact k
inductive Dj(X:Cx)(g:aA->Option aQ)(W:jR)(σ:L2.St)(H:Hp):Prop
 | mk (F₀:YP->Prop) (H₀:Hp) (F:YP->Prop) (ρ:aA) (o:aQ) (E:aH F₀ F H₀ H) (S:aW X.K F H H₀ σ ρ) (q:g ρ=some o) (k:tT X F₀ H₀ F H W o):Dj X g W σ H
def vO(X:Cx)(g:aA->Option aQ):TS:=fun W a H=>Dj X g W a H
def DS(X:Cx)(st:Zj)(g:aA->Option aQ):Prop:=PS X st (vO X g)
def g8(X:Cx)(a:List Zj)(g:aA->Option aQ):Prop:=eX X a (vO X g)
def bK(g1 b:aA->Option aQ):aA->Option aQ:=fun a=>(g1 a).bind fun o=>match o with
 | .nx ρ'=>b ρ'
 | o=>some o
def fX:aA->Option aQ:=fun a=>some (.nx a)
def cJ(g:aA->Option D):aA->Option aQ:=fun a=>(g (a.map frz)).bind fun d=>some (.rt d)
def dI(i:Nat)(g:aA->Option D):aA->Option aQ:=fun a=>(g a).bind fun d=>some (.nx (a.set i (.dat d)))
def pI(i:Nat)(g:aA->Option (List D)):aA->Option aQ:=fun a=>(g a).bind fun b=>if b.length<=1000 then some (.nx (a.set i (.own b)))else none
def AV(i:Nat)(ρ:aA):aA:=match ρ[i]? with
 | some (.own ds)=>ρ.set i (.dat (.list ds))
 | _=>ρ
def N1(i:Nat)(g:aA->Option aQ):aA->Option aQ:=fun a=>g (AV i a)
def dY(t:aA->Option Bool)(g1 c:aA->Option aQ):aA->Option aQ:=fun a=>(t (a.map frz)).bind fun b=>if b=true then g1 a else c a
def n0(g:aA->Option D):aA->Option aQ:=fun a=>(g a).bind fun _=>some (.nx a)
def nO(i:Nat)(g:aA->Option D):aA->Option aQ:=fun a=>match a[i]? with
 | some (.own ds)=>(g a).bind fun d=>if ds.length<1000 then some (.nx (a.set i (.own (ds++[d]))))else none
 | _=>none
def l8(t:aA->Option Bool)(g:aA->Option aQ):Nat->aA->Option aQ
 | 0,_=>none
 | n+1,ρ=>(t (ρ.map frz)).bind fun b=>if b=true then(g ρ).bind fun o=>match o with
   | .nx ρ'=>l8 t g n ρ'
   | .ct ρ'=>l8 t g n ρ'
   | .bk ρ'=>some (.nx ρ')
   | .rt d=>some (.rt d)
   | .ex x ρ'=>some (.ex x ρ')
  else some (.nx ρ)
def hY(s:D->aA->Option aA)(g:aA->Option aQ):List D->aA->Option aQ
 | [],ρ=>some (.nx ρ)
 | d::ds,ρ=>(s d ρ).bind fun a=>(g a).bind fun o=>match o with
   | .nx ρ'=>hY s g ds ρ'
   | .ct ρ'=>hY s g ds ρ'
   | .bk ρ'=>some (.nx ρ')
   | .rt d=>some (.rt d)
   | .ex x ρ'=>some (.ex x ρ')
def iS(gi:aA->Option (List D))(s:D->aA->Option aA)(g:aA->Option aQ):aA->Option aQ:=fun a=>(gi a).bind fun b=>hY s g b a
section
variable {X:Cx}{e a b c tg:Expr}{es:List Expr}{st:Zj}{rest body orelse:List Zj}{g g1 g2 gb:aA->Option aQ}{ga:aA->Option D}{gr:aA->Option (List D)}{t:aA->Option Bool}{pos p:Pos}
theorem i8:g8 X [] fX:=wV HR fun W c H d=>by
 obtain⟨b,a,F,e,o,E,S,q,k⟩:=d;cases q;exact k F H c E (bA.refl _ F H) S
theorem zSv(E:aH F₀ F H₀ H)(S:aW X.K F H H₀ σ ρ)(q:bK g1 g2 ρ=some o)(k:tT X F₀ H₀ F H W o):vO X g1 { W with nx:=vO X g2 W } σ H:=by
 obtain⟨a,c,q⟩:=aE q
 refine⟨F₀,H₀,F,ρ,a,E,S,c,?_⟩
 cases a with
 | nx ρ'=>exact fun g i b h e f=>⟨F₀,H₀,g,ρ',o,h,f,q,k.from e⟩
 | rt d=>cases q;exact k
 | bk ρ'=>cases q;exact k
 | ct ρ'=>cases q;exact k
 | ex x ρ'=>cases q;exact k
theorem bW(d:DS X st g1)(c:g8 X rest g2):g8 X (st::rest) (bK g1 g2):=
 wV (sZ d c) fun W e H ⟨b,a,F,f,o,E,S,q,k⟩=>zSv E S q k
theorem bN(a:DS X st g):g8 X [st] g:=qB a
theorem aH.thaw{K:PySem.W.Frag}{c F l:YP->Prop}{H₀ H H':Hp}{k:L2.St}{ρ:aA}(E:aH c F H₀ H)(S:aW K F H H₀ k ρ)(E':aH (fun a=>F a ∨ dQ k ρ a) l H H'):aH c l H₀ H':=
 ⟨E.same.trans E'.same,fun a f=>E'.up a (.inl (E.up a f)),fun a f=>by
  rcases E'.new a f with(f | ⟨i,q,e,d⟩ | ⟨i,q,e,d⟩) | ⟨o,n⟩
  ·rcases E.new a f with f | ⟨f,p⟩
   ·exact .inl f
   ·exact .inr ⟨f,fun z=>p (E'.same.free z)⟩
  ·obtain⟨b,m,j,h,_,g,_⟩:=S.own e;rw [j]at d;cases d;exact .inr ⟨g,by rw [E'.same _ _ h];simp⟩
  ·obtain⟨b,m,r,j,h,_,g,_⟩:=S.ownD e;rw [j]at d;cases d;exact .inr ⟨g,by rw [E'.same _ _ h];simp⟩
  ·exact .inr ⟨E.same.free o,n⟩⟩
theorem c4(g:DE X e ga):DS X (.Return (some e) pos) (cJ ga):=ps_mono (wU g) fun W n H f=>by
 obtain⟨b,a,F,c,o,E,S,q,k⟩:=f;obtain⟨d,h,q⟩:=aE q;cases q
 exact⟨_,a,c.map frz,d,S.frz,h,fun l j v m i=>k l j v (E.thaw S m) i⟩
theorem eS(m:X.N.Nodup)(l:DE X e ga)(h:X.N[i]?=some x:=by rfl)(g:Loc X.env.scope x:=by first | exact Ze rfl | exact Zc rfl)(hs:ZC e (some (.Name x pos')) pos.line X.env=pure false:=by rfl)(j:X.fn x=true ∨ X.env.scope.names.lookup x=some .local:=by first | exact .inl rfl | exact .inr rfl | assumption):
  DS X (.Assign [.Name x pos'] e pos) (dI i ga):=ps_mono (ps_set m h g l hs j) fun W t H f=>by
 obtain⟨b,a,F,c,o,E,S,q,k⟩:=f;obtain⟨d,n,q⟩:=aE q;cases q
 exact⟨F,a,c,d,S,n,fun s r v E' p=>k s r _ (E.trans E') E'.stay ((S.ext E').put p)⟩
theorem aH.lend{K:PySem.W.Frag}{F j:YP->Prop}{H H₀ H':Hp}{d:L2.St}{ρ:aA}(S:aW K F H H₀ d ρ)(E':aH (fun a=>F a ∨ dQ d ρ a) j H H'):aH F (fun a=>j a/\¬ dQ d ρ a) H H':=
 ⟨E'.same,fun a f=>⟨E'.up a (.inl f),fun z=>by
   rcases z with⟨i,o,e,c⟩ | ⟨i,o,e,c⟩
   ·obtain⟨b,l,h,m,g,_⟩:=S.own e;rw [h]at c;cases c;exact g f
   ·obtain⟨b,l,p,h,m,g,_⟩:=S.ownD e;rw [h]at c;cases c
    exact g f⟩,fun a k=>by
  obtain⟨f,n⟩:=k;rcases E'.new a f with(f | f) | f
  ·exact .inl f
  ·exact absurd f n
  ·exact .inr f⟩
theorem xM(n:X.N.Nodup)(m:DA X es gr)(j:X.N[i]?=some x:=by rfl)(h:Loc X.env.scope x:=by first | exact Ze rfl | exact Zc rfl)(hs:ZC (.List es pos'') (some (.Name x pos')) pos.line X.env=pure false:=by rfl)(l:X.fn x=true ∨ X.env.scope.names.lookup x=some .local:=by first | exact .inl rfl | exact .inr rfl | assumption):
  DS X (.Assign [.Name x pos'] (.List es pos'') pos) (pI i gr):=ps_mono (ps_set n j h (BF m) hs l) fun W s H g=>by
 obtain⟨e,a,F,f,o,E,S,q,k⟩:=g;obtain⟨d,p,q⟩:=aE q;by_cases c:d.length<=1000
 ·rw [if_pos c]at q;cases q
  refine⟨F,a,f,d,S,p,fun r v t E' R'=>⟨fW (by rw [<- R'.length];exact c),fun u b=>?_⟩⟩
  exact k r _ _ ((E.trans E').trans (aH.fresh b)) (E'.stay.trans (aH.fresh b).stay) ((S.ext E').putOwn b ((E.trans E').same.free b) R')
 ·rw [if_neg c]at q;cases q
theorem i7(f:DT X c t)(h:g8 X body g1)(g:g8 X orelse g2):DS X (.If c body orelse pos) (dY t g1 g2):=ps_mono (HQ f h g) fun W j H e=>by
 obtain⟨b,a,F,d,o,E,S,q,k⟩:=e;obtain⟨r,i,q⟩:=aE q
 refine⟨_,a,d.map frz,r,S.frz,i,fun m l E'=>?_⟩
 have E2:=E'.lend S
 cases r with
 | true=>simp only [if_true]at q ⊢;exact⟨b,a,_,d,o,E.trans E2,S.ext E2,q,k.from E2.stay⟩
 | false=>simp only [Qp,if_false]at q ⊢;exact⟨b,a,_,d,o,E.trans E2,S.ext E2,q,k.from E2.stay⟩
theorem AC(h:DE X e ga)(hs:ZC e none pos.line X.env=pure false:=by rfl):DS X (.Expr e pos) (n0 ga):=ps_mono (sY h hs) fun W c H g=>by
 obtain⟨b,a,F,f,o,E,S,q,k⟩:=g;obtain⟨d,i,q⟩:=aE q;cases q
 exact⟨F,a,f,d,S,i,fun l j v E' m=>k l j c (E.trans E') E'.stay (S.ext E')⟩
theorem aH.turn{c F:YP->Prop}{H₀ H:Hp}{p:YP}{o:HO}(E:aH c F H₀ H)(e:H₀ p=none):aH c F H₀ (aJ H p o):=
 ⟨fun b u q=>by rw [aV (kE q e)];exact E.same b u q,E.up,fun a f=>by
  rcases E.new a f with f | ⟨h,g⟩
  ·exact .inl f
  ·refine .inr ⟨h,fun z=>?_⟩;by_cases d:a=p
   ·subst d;rw [cN]at z;cases z
   ·rw [aV d]at z;exact g z⟩
theorem Gd(O:DE X e ga)(Q:X.N[i]?=some x:=by rfl)(K:gG X.env.scope x:=by first | exact Ze rfl | exact Zc (Ze rfl) | exact Zc (Zc rfl))(M:(x == ("__debug__":Str))=false:=by decide)
  (r:(x == ("__classdict__":Str))=false:=by decide) (f:JU [e] X.env=(false,Za e X.env)::JU [] X.env:=by rfl)
  (c:Zo (.Name x p) "append" X.env (Za (.Name x p) X.env)=Za (.Name x p) X.env:=by rfl)
  (g:((Zb pos' (JU [e] X.env)).all (fun x => !x.1) && (ZU pos' (Zz [] X.env)).all (fun x=>x.1.isSome)
   && decide ([e].length+([]:List ZJ).length+(if([]:List ZJ).isEmpty then 0 else 1)<30))=true:=by rfl)
  (b:(apos.endLine == pos'.line)=true:=by rfl) (a:(Zb pos' (JU [] X.env)).any (·.1)=false:=by rfl) (n:ZC (.Call (.Attribute (.Name x p) "append" apos) [e] [] pos') none pos.line X.env=pure false:=by rfl):
  DS X (.Expr (.Call (.Attribute (.Name x p) "append" apos) [e] [] pos') pos) (nO i ga):=
 ps_mono (sY (p9 PySem.F.plainAttrs_list PySem.F.slot_list_append PySem.F.type_list_append Cg (pe_var Q K M r) (eF O fQ f) c g b f a) n) fun W A H G=>by
 obtain⟨z,h,F,B,o,E,S,q,k⟩:=G;unfold nO at q
 split at q
 ·rename_i Z s;obtain⟨d,Y,q⟩:=aE q;by_cases t:Z.length<1000
  ·rw [if_pos t]at q;cases q;obtain⟨l,vs,m,J,q3,I,q5⟩:=S.own s
   refine⟨_,m,.inl ⟨rfl,_,bY.of J⟩,F,h,B,d,S,Y,fun F' H' v E' R'=>?_⟩
   have S':=S.ext E';obtain⟨l',j,y,w,U,g4,u⟩:=S'.own s;rw [m]at y;cases y
   refine⟨l,j,v,rfl,rfl,w,qH (by rw [<- u.length];lia),?_⟩
   obtain⟨S2,T⟩:=S'.turn s m w U (u.append (.cons R' .nil));exact k F' _ A ((E.trans E').turn I) (E'.stay.trans T) S2
  ·rw [if_neg t]at q;cases q
 ·cases q
end
end DL
namespace DL
open PySem.Spec L2
inductive Di(K:PySem.W.Frag)(s:D->aA->Option aA)(v:V)(σ:L2.St)(H:Hp)(Q:L2.St->Hp->Prop):Prop
 | mk (F:YP->Prop) (H₀:Hp) (ρ:aA) (d:D) (ρ':aA) (S:aW K F H H₀ σ ρ) (R:aM K F H d v) (q:s d ρ=some ρ') (k:∀ σ',aW K F H H₀ σ' ρ'->Q σ' H):Di K s v σ H Q
def Aj(K:PySem.W.Frag)(s:D->aA->Option aA):TG:=fun v a H Q=>Di K s v a H Q
def Ow(K:PySem.W.Frag)(s:List D->aA->Option aA):nA:=fun b a H Q=>∃(F:YP->Prop) (H₀:Hp) (ρ:aA) (ds:List D) (ρ':aA),aW K F H H₀ a ρ/\Reps K F H ds b/\s ds ρ=some ρ'/\∀ σ',aW K F H H₀ σ' ρ'->Q σ' H
def DG(X:Cx)(a:Expr)(s:D->aA->Option aA):Prop:=PG X a (Aj X.K s)
def uN(X:Cx)(ts:List Expr)(s:List D->aA->Option aA):Prop:=lL X ts (Ow X.K s)
def bX(i:Nat):D->aA->Option aA:=fun d a=>some (a.set i (.dat d))
def j2:List D->aA->Option aA
 | [],ρ=>some ρ
 | _::_,_=>none
def gF(c:D->aA->Option aA)(b:List D->aA->Option aA):List D->aA->Option aA
 | [],_=>none
 | d::ds,ρ=>(c d ρ).bind fun a=>b ds a
def kW(n:Nat)(s:List D->aA->Option aA):D->aA->Option aA
 | .tuple ds,ρ=>if ds.length=n then s ds ρ else none
 | _,_=>none
section
variable {X:Cx}{e tg:Expr}{es:List Expr}{pos:Pos}
theorem wQ(h:PG X tg t)(m:∀ v σ H Q,t' v σ H Q->t v σ H Q):PG X tg t':=fun a s σ H v u Q I r q=>h a s σ H v u Q I r (m v σ H Q q)
theorem wR(h:lL X es t)(m:∀ v σ H Q,t' v σ H Q->t v σ H Q):lL X es t':=fun a s σ H v u Q I r q=>h a s σ H v u Q I r (m v σ H Q q)
theorem e9(h:X.N.Nodup)(f:X.N[i]?=some x:=by rfl)(e:Loc X.env.scope x:=by first | exact Ze rfl | exact Zc rfl)(g:X.fn x=true ∨ X.env.scope.names.lookup x=some .local:=by first | exact .inl rfl | exact .inr rfl | assumption):DG X (.Name x pos) (bX i):=
 wQ (mT h f e g) fun v j H Q c=>by
  obtain⟨F,a,l,d,b,S,R,q,k⟩:=c;cases q;exact k _ (S.put R)
theorem FV:uN X [] j2:=wR IN fun v b H Q d=>by
 obtain⟨F,a,e,f,c,S,R,q,k⟩:=d
 cases R with
 | nil=>cases q;exact⟨rfl,k b S⟩
 | cons _ _=>cases q
theorem v4(j:DG X e s1)(i:uN X es s2)
  (hs:(ZE (e::es) X.env).map (·.2)=assign e X.env::(ZE es X.env).map (·.2):=by rfl):uN X (e::es) (gF s1 s2):=
 wR (IM j i hs) fun v n H Q g=>by
  obtain⟨F,a,f,o,c,S,R,q,k⟩:=g
  cases R with
  | nil=>cases q
  | cons r h=>
   obtain⟨b,l,q⟩:=aE q
   exact⟨_,_,rfl,F,a,f,_,b,S,r,l,fun d m=>⟨F,a,b,_,c,m,h,q,k⟩⟩
theorem FU(l:X.calm=true)(h:uN X es s)(j:(ZE es X.env).length=n:=by rfl)(f:(ZE es X.env).findIdx? (·.1)=none:=by rfl):DG X (.Tuple es k pos) (kW n s):=
 wQ (IL l h j f) fun v m H Q i=>by
  obtain⟨F,c,e,d,ρ',S,R,q,k⟩:=i
  cases R with
  | @tup a vs ds hq r=>
   by_cases g:ds.length=n
   ·have b:(if ds.length=n then s ds e else none)=some ρ':=q;rw [if_pos g]at b
    exact⟨_,_,rfl,hq,by rw [<- r.length];exact g,F,c,e,_,ρ',S,r,b,k⟩
   ·have b:(if ds.length=n then s ds e else none)=some ρ':=q;rw [if_neg g]at b;cases b
  | non=>cases q
  | dct _ _ _ _ _=>cases q
  | exn _ _ _=>cases q
  | bl _=>cases q
  | int _=>cases q
  | str _=>cases q
  | lst _ _=>cases q
end
def NZ(ga:aA->Option D)(s:D->aA->Option aA):aA->Option aQ:=fun b=>(ga b).bind fun d=>(s d b).bind fun a=>some (.nx a)
section
variable {X:Cx}{e a b c tg iter:Expr}{es:List Expr}{st:Zj}{rest body orelse:List Zj}{g g1 g2 gb:aA->Option aQ}{ga:aA->Option D}{gr:aA->Option (List D)}{t:aA->Option Bool}{pos p:Pos}
theorem Rb(n:Nat)(I:PassesOwn (JX X.prog X.w) X.A X.env X.xe)(J:DT X c t)(M:g8 X body g):DS X (.While c body [] pos) (l8 t g n):=
 ps_mono (WM I J M) fun W U H G=>by
  obtain⟨f,a,z,y,o,E,S,q,k⟩:=G
  refine⟨fun m j v=>∃ F h,aH f F a v/\bA X.K z F H v/\aW X.K F v a j h/\l8 t g m h=some o,⟨n,z,y,E,bA.refl _ _ _,S,q⟩,?_⟩
  rintro m j v ⟨F,h,E',T',S',e⟩
  cases m with
  | zero=>cases e
  | succ m=>
   obtain⟨r,Q,e⟩:=aE e
   refine⟨_,a,h.map frz,r,S'.frz,Q,fun Y T E2'=>?_⟩
   have E2:=E2'.lend S'
   cases r with
   | false=>
    simp only [Qp,if_false]at e ⊢;cases e;exact k _ T j (E'.trans E2) (T'.trans E2.stay) (S'.ext E2)
   | true=>
    simp only [if_true]at e ⊢;obtain⟨B,O,e⟩:=aE e
    refine⟨fun b i=>∃ F h,aH f F a i/\bA X.K z F H i/\aW X.K F i a b h/\l8 t g m h=some o,fun b i N=>⟨m,JD m,N⟩,f,a,_,h,B,E'.trans E2,S'.ext E2,O,?_⟩
    cases B with
    | nx ρ3=>exact fun s i b u l p=>⟨s,ρ3,u,(T'.trans E2.stay).trans l,p,e⟩
    | ct ρ3=>exact fun s i b u l p=>⟨s,ρ3,u,(T'.trans E2.stay).trans l,p,e⟩
    | bk ρ3=>cases e;exact fun s i b u l p=>k s i b u ((T'.trans E2.stay).trans l) p
    | rt d=>cases e;exact k
    | ex x ρ3=>cases e;exact k
def kL(K:PySem.W.Frag)(F:YP->Prop)(H:Hp)(ds:List D)(J:It):Prop:=
 ∀ F2 H2,bA K F F2 H H2->(∀ a,F2 a->H2 a≠none)->∀ i:Nat,(∀ d,ds[i]?=some d->J.go i H2/\∀ x H3,J.yld i H2 x H3->∃ F3,aH F2 F3 H2 H3/\aM K F3 H3 d x)/\(ds.length<=i->J.stop i H2)
def DV(K:PySem.W.Frag)(gi:aA->Option (List D)):TI:=fun a H R=>m9 K a H gi fun F b=>∀ F' H' J,aH F F' H H'->kL K F' H' b J->R J H'
def DI(X:Cx)(b a:Expr)(gi:aA->Option (List D)):Prop:=PI X b a (DV X.K gi)
theorem wS(h:PI X tg iter wi)(m:∀ σ H R,wi' σ H R->wi σ H R):PI X tg iter wi':=fun a s σ H R I q=>h a s σ H R I (m σ H R q)
structure CM(K:PySem.W.Frag)(s:D->aA->Option aA)(g:aA->Option aQ)(xs:List D)(o:aQ)(F₀ F F1:YP->Prop)(H₀ H H1:Hp)(i:Nat)(σ2:L2.St)(H2:Hp)(F2:YP->Prop)(ρ2:aA):Prop where
 E:aH F₀ F2 H₀ H2
 T0:bA K F F2 H H2
 T1:bA K F1 F2 H1 H2
 S:aW K F2 H2 H₀ σ2 ρ2
 q:hY s g (xs.drop i) ρ2=some o
theorem oJ(hp:PassesOwn (JX X.prog X.w) X.A X.env X.xe)(hc:X.calm=true)(hi:DI X tg iter gi)(hg:DG X tg s)(hb:g8 X body g)
  (hs:∀ x,Zq iter X.env x=pure x:=by intro _;rfl):DS X (.For tg iter body [] pos) (iS gi s g):=
 ps_mono (BK hp hc hi hg hb hs) fun W σ H zz=>by
  obtain⟨e,a,F,Y,o,E,S,q,k⟩:=zz;obtain⟨b,e1,q⟩:=aE q
  refine⟨F,a,Y,b,S,e1,fun U H1 J E1 I1=>?_⟩
  refine⟨fun i m l I=>m=b.length-i/\i<=b.length/\∃ M n,CM X.K s g b o e F U a H H1 i l I M n,
   ⟨b.length,rfl,QR _,U,Y,E.trans E1,E1.stay,bA.refl _ _ _,S.ext E1,q⟩,?_⟩
  rintro i m l I ⟨rfl,a1,M,n,E2,T0,T1,S2,c⟩;obtain⟨Q,O⟩:=I1 M I T1 S2.fz i;by_cases f:i<b.length
  ·right
   have u:b[i]?=some b[i]:=by simp [f]
   obtain⟨go,N⟩:=Q _ u;rw [Q0 f]at c;obtain⟨t,e3,c⟩:=aE c;obtain⟨Z,e4,c⟩:=aE c
   refine⟨go,fun r H4=>∃ F4 ρ4,CM X.K s g b o e F U a H H1 (i+1) r H4 F4 ρ4,fun r H4 h=>⟨b.length-(i+1),by lia,rfl,f,h⟩,fun x H3 y=>?_⟩
   obtain⟨F3,E3,R3⟩:=N x H3 y
   refine⟨F3,a,n,b[i],t,S2.ext E3,R3,e3,fun a0 S5=>⟨e,a,F3,t,Z,E2.trans E3,S5,e4,?_⟩⟩
   have TT0:=T0.trans E3.stay;have TT1:=T1.trans E3.stay
   cases Z with
   | nx ρ6=>exact fun B T j G p z=>⟨B,ρ6,G,TT0.trans p,TT1.trans p,z,c⟩
   | ct ρ6=>exact fun B T j G p z=>⟨B,ρ6,G,TT0.trans p,TT1.trans p,z,c⟩
   | bk ρ6=>cases c;exact fun B T j G p z=>k B T j G (TT0.trans p) z
   | rt d=>cases c;exact k
   | ex x ρ6=>cases c;exact k
  ·left
   have v:b.length<=i:=Ya f
   refine⟨O v,?_⟩
   rw [YH v]at c;cases c;exact k M I l E2 T0 S2
def j0:List D->Option (List D)
 | [.int j]=>if -4611686018427387904<=j/\j<4611686018427387904 then some ((JZ j.toNat).map fun(k:Nat)=>.int (0+(k:Int)))else none
 | _=>none
theorem Hf{K:PySem.W.Frag}{F:YP->Prop}{H:Hp}(a:Int)(n:Nat):kL K F H ((JZ n).map fun(k:Nat)=>.int (a+(k:Int))) (uQ a n):=fun j m T z i=>by
 refine⟨fun d c=>?_,fun h=>?_⟩
 ·have e:i<n:=by
   have:=(Qe.mp c).1
   simpa using this
  have b:d=.int (a+(i:Int)):=by
   rw [QH,List.getElem?_range e]at c;cases c;rfl
  subst b
  refine⟨e,fun x l y=>?_⟩
  obtain⟨g,f⟩:=y;subst g f
  exact⟨j,aH.refl _ _,.int _⟩
 ·show n<=i
  simpa using h
theorem RC(g:Gl X "range")(f:X.mg "range"=none)(h:DA X [a] gr)(hs:JU [a] X.env=[(false,Za a X.env)]:=by rfl):DI X tg (.Call (.Name "range" p) [a] [] pos) (fun ρ=>(gr ρ).bind j0):=
 wS (IO g f h hs) fun s H R d=>by
  obtain⟨F,b,ρ,v,S,q,k⟩:=d;obtain⟨t,i,q⟩:=aE q;unfold j0 at q
  split at q
  ·rename_i j;by_cases c:-4611686018427387904<=j/\j<4611686018427387904
   ·rw [if_pos c]at q;cases q
    refine⟨F,b,ρ,_,S,i,fun n m u o l=>?_⟩
    cases l with
    | cons r e=>
     cases r;cases e
     exact⟨j,rfl,by lia,by lia,k n m _ o (Hf 0 _)⟩
   ·rw [if_neg c]at q;cases q
  ·cases q
def jJ:D->Option (List D)
 | .list a=>some a
 | .tuple a=>some a
 | _=>none
theorem He{K:PySem.W.Frag}{F:YP->Prop}{H:Hp}{a:YP}{vs:List V}{ds:List D}(h:kK K F H a vs)(r:Reps K F H ds vs):kL K F H ds (CO K a):=fun m o T z i=>by
 have b:=h.stay T;have c:=r.stay T
 refine⟨fun d l=>?_,fun k=>⟨vs,b.sq,by rw [<- c.length];exact k⟩⟩
 obtain⟨v,e,j⟩:=c.get l
 refine⟨⟨vs,v,b.sq,e⟩,fun x n y=>?_⟩
 obtain⟨g,f⟩:=y;subst g
 have:=f vs b.sq
 rw [e]at this;cases this
 exact⟨m,aH.refl _ _,j⟩
theorem Hg{K:PySem.W.Frag}{F:YP->Prop}{H:Hp}{a:YP}{vs:List V}{ds:List D}(h:bJ K H a vs)(r:Reps K F H ds vs):kL K F H ds (CP K a):=fun m o T z i=>by
 have b:=T.tp _ _ h;have c:=r.stay T
 refine⟨fun d l=>?_,fun k=>⟨vs,b,by rw [<- c.length];exact k⟩⟩
 obtain⟨v,e,j⟩:=c.get l
 refine⟨⟨vs,v,b,e⟩,fun x n y=>?_⟩
 obtain⟨g,f⟩:=y;subst g
 have:=f vs b
 rw [e]at this;cases this
 exact⟨m,aH.refl _ _,j⟩
theorem FW(A:DE X e ga):DI X tg e (fun ρ=>(ga ρ).bind jJ):=by
 intro i s u H R I h;obtain⟨F,l,ρ,E,S,q,k⟩:=h;obtain⟨d,B,q⟩:=aE q;refine aU (A i s u H (fun x f=>∃ g,aH F g H f/\aM X.K g f d x) I ⟨F,l,ρ,d,S,B,fun g f v m r=>⟨g,m,r⟩⟩) fun v c w=>?_;obtain⟨x,f,I1,t,g,m,r⟩:=w
 cases r with
 | @lst a vs ds' hq rr=>
  cases q;cases t;obtain⟨j,y,p,z⟩:=I1.list hq.sq;refine Uz p.isList ?_
  refine⟨c.heap.objs.size,[c.heap.objs.size],_,_,f,rfl,I1.kept (t':=c.toks) fun b o e=>Qf _ e,Kd a _,⟨_,Qu _ rfl,rfl,rfl⟩,fun b n=>?_,k g f _ m (He hq rr)⟩
  have e:b=c.heap.objs.size:=by simpa using n
  subst e;exact I1.fpOk (Qj _) (I1.hok.fresh (Qj _))
 | @tup a vs ds' hq rr=>
  cases q;cases t;obtain⟨j,y,p,z⟩:=I1.tuple hq;refine wpAny_pyIter_tuple (show c.heap.IsTuple a j.toArray from p) ?_
  refine⟨c.heap.objs.size,[c.heap.objs.size],_,_,f,rfl,I1.kept (t':=c.toks) fun b o e=>Qf _ e,Ke a _,⟨_,Qu _ rfl,rfl,rfl⟩,fun b n=>?_,k g f _ m (Hg hq rr)⟩
  have e:b=c.heap.objs.size:=by simpa using n
  subst e;exact I1.fpOk (Qj _) (I1.hok.fresh (Qj _))
 | non=>cases q
 | dct _ _ _ _ _=>cases q
 | exn _ _ _=>cases q
 | bl _=>cases q
 | int _=>cases q
 | str _=>cases q
end
def cE(n:Nat)(ds:List D):aA:=ds.map .dat++ZA (n-ds.length) .no
def cP(n:Nat)(g:aA->Option aQ):List D->Option D:=fun a=>match g (cE n a)with
 | some (.rt d)=>some d
 | some (.nx _)=>some .none
 | _=>none
theorem n4{K:PySem.W.Frag}{F:YP->Prop}{H:Hp}{N:List Str}{ds:List D}{vs:List V}(z:∀ a,F a->H a≠none)(r:Reps K F H ds vs):aW K F H H (L2.start N vs) (cE N.length ds):=by
 have k:=r.length
 refine⟨by simp [L2.start,cE,k],fun i s h=>?_,fun i j a o m l b=>?_,z⟩
 ·unfold cE at h;by_cases c:i<ds.length
  ·rw [QV (by simpa using c),QH]at h
   cases e:ds[i]? with
   | none=>rw [e]at h;cases h
   | some d=>
    rw [e]at h;cases h;obtain⟨v,n,g⟩:=r.get e
    refine⟨some v,?_,v,rfl,g⟩
    unfold L2.start;rw [QV (by simpa using(by lia:i<vs.length)),QH,n];rfl
  ·rw [Yc (by simpa using c),YF]at h
   split at h
   ·rename_i f;cases h
    refine⟨none,?_,trivial⟩
    unfold L2.start;rw [Yc (by simpa using(by lia:vs.length<=i)),YF,if_pos (by simp at f ⊢;lia)]
   ·cases h
 ·unfold cE at b;by_cases c:i<ds.length
  ·rw [QV (by simpa using c),QH]at b
   cases e:ds[i]? with
   | none=>rw [e]at b;cases b
   | some d=>rw [e]at b;cases b
  ·rw [Yc (by simpa using c),YF]at b
   split at b <;> cases b
theorem Mu{P:JY}{w:J1}{K:PySem.W.Frag}{l:Str->Option JS}{base:Heap}{x a:Str}{st:Zj}{f:YP}{o:J5}{N b:List Str}{k:Nat}{g:aA->Option aQ}(F:eG K x a st f o)(S:bQ N b (aS st))
  (B:∀(cdv:JS) (A:Around) (outer:List Env) (s:JT) (H:Hp) (E:XK),bU k (A.deeper (envOfC a (aS st) s.heap.objs.size f cdv))->
   g8 (gH aL P w K l base N a (aS st) f cdv A outer s H E).nox (cW st) g):aK P w K l base aL (k+1) f o b (aX K b.length (cP N.length g)):=by
 refine F.ok S (fun u H Q E h=>?_) (fun cdv A outer s H u Q E y h=>?_)
 ·obtain⟨F,G,d,n,_,r,_⟩:=h;rw [<- r.length,n]
 ·obtain⟨F,G,d,n,z,r,q,m⟩:=h
  refine⟨_,B cdv A outer s H E y,?_⟩
  unfold cP at q
  split at q
  ·rename_i J e;cases q
   exact⟨F,H,F,_,_,aH.refl F H,n4 z r,e,fun i c v j I=>m i c v j I⟩
  ·rename_i t e;cases q
   exact⟨F,H,F,_,_,aH.refl F H,n4 z r,e,fun i c p j M O=>m i c .non j .non⟩
  ·cases q
end DL
namespace DL
open PySem.Spec PySem.SeqAt L2
mutual
theorem aM.reads(I:L2.Inv X pins σ H s)(h:aM X.K F H d x)(c:d.canLay0=true)(r:L2.RelV x u):∃ as,Reads s.heap u d as:=by
 cases h with
 | non=>cases r;exact⟨_,.none⟩
 | bl b=>cases r;exact⟨_,.bool b⟩
 | int i=>obtain⟨t,rfl⟩:=r;exact⟨_,.int i t⟩
 | str x=>obtain⟨t,rfl⟩:=r;exact⟨_,.str x t⟩
 | tup h q=>
  cases r;obtain⟨e,a,⟨o,g,k,n,j⟩,_⟩:=I.tuple h;obtain⟨as,z⟩:=Reps.reads I q c a
  exact⟨_,.tuple g k j z⟩
 | lst h q=>
  cases r;obtain⟨e,a,m,_⟩:=I.list h.sq;obtain⟨o,n,g,k,_,j⟩:=m;obtain⟨as,z⟩:=Reps.reads I q c a
  exact⟨_,.list g k j z⟩
 | dct f h n l r=>cases c
 | exn f h n=>cases c
theorem Reps.reads(I:L2.Inv X pins σ H s)(h:Reps X.K F H ds xs)(c:Zl ds=true)(r:L2.Vals xs us):∃ as,ReadsAll s.heap us ds as:=by
 cases h with
 | nil=>cases r;exact⟨_,.nil⟩
 | cons h q=>
  have c:=QN.mp c
  cases r with
  | cons b a=>
   obtain⟨as,z⟩:=aM.reads I h c.1 b;obtain⟨bs,y⟩:=Reps.reads I q c.2 a
   exact⟨_,.cons z y⟩
end
def nD(t:Int->Int->D):D->D->Option D
 | .int i,.int j=>some (t i j)
 | _,_=>none
def rT(C:Int->Int->Bool)(t:Int->Int->D):D->D->Option D
 | .int i,.int j=>if C i j=true then some (t i j)else none
 | _,_=>none
def mR(i j:Int):Bool:=(decide (-18446744073709551616<i) && decide (i<18446744073709551616)) || (decide (-18446744073709551616<j) && decide (j<18446744073709551616))
def p5(_ j:Int):Bool:=decide (0<j) && decide (j<1073741824)
def Ip(_ j:Int):Bool:=decide (0<j)
section
variable {X:Cx}
theorem vD(h:bC X f (lW g))(r:∀ i j K F H,aM K F H (t i j) (g i j)):bC X f (cD X.K (nD t)):=
 sT h fun x y H Q b=>by
  obtain⟨F,d,e,q,z,c,R2,a,k⟩:=b;unfold nD at a
  split at a
  ·cases a;cases c;cases R2
   exact⟨_,_,rfl,rfl,k F H _ (aH.refl F H) (r _ _ _ _ _)⟩
  ·cases a
theorem zL(h:bC X f (rI C g))(l:∀ i j,B i j=true->C i j)(r:∀ i j K F H,aM K F H (t i j) (g i j)):bC X f (cD X.K (rT B t)):=
 sT h fun x y H Q c=>by
  obtain⟨F,d,e,q,z,m,R2,a,k⟩:=c;unfold rT at a
  split at a
  ·rename_i i j;by_cases b:B i j=true
   ·rw [if_pos b]at a;cases a;cases m;cases R2
    exact⟨_,_,rfl,rfl,l _ _ b,k F H _ (aH.refl F H) (r _ _ _ _ _)⟩
   ·rw [if_neg b]at a;cases a
  ·cases a
def u6:D->D->Option D:=nD fun i j=>.int (i-j)
def cY:D->D->Option D:=rT mR fun i j=>.int (i * j)
def k4:D->D->Option D:=rT p5 fun i j=>.int (i / j)
def hJ:D->D->Option D:=rT Ip fun i j=>.int (i % j)
def pA:D->D->Option D:=nD fun i j=>.bool (decide (i<j))
def o9:D->D->Option D:=nD fun i j=>.bool (decide (i<=j))
def rS:D->D->Option D:=nD fun i j=>.bool (decide (j<i))
def Mi:D->D->Option D:=nD fun i j=>.bool (decide (j<=i))
theorem Iu:bC X (Zy .Sub) (cD X.K u6):=vD W1 fun _ _ _ _ _=>.int _
theorem g7:bC X (Zy .Mult) (cD X.K cY):=zL WZ (fun i j h=>by
 unfold mR at h;simp only [JO,QF,decide_eq_true_eq]at h;unfold uM
 lia) fun _ _ _ _ _=>.int _
theorem sS:bC X (Zy .FloorDiv) (cD X.K k4):=zL WW (fun i j h=>by
 unfold p5 at h;simp only [QF,decide_eq_true_eq]at h
 exact h) fun _ _ _ _ _=>.int _
theorem nR:bC X (Zy .Mod) (cD X.K hJ):=zL WY (fun i j h=>by
 unfold Ip at h
 simpa using h) fun _ _ _ _ _=>.int _
theorem wO:bC X (Zf .Lt) (cD X.K pA):=vD NE fun _ _ _ _ _=>.bl _
theorem wN:bC X (Zf .LtE) (cD X.K o9):=vD ND fun _ _ _ _ _=>.bl _
theorem Cr:bC X (Zf .Gt) (cD X.K rS):=vD NC fun _ _ _ _ _=>.bl _
def jD:D->Option D
 | .int i=>some (.int (-i))
 | _=>none
theorem tJ:nC X (unaryOp .USub) (DM X.K jD):=zTk zTj fun x H Q b=>by
 obtain⟨F,d,q,z,c,a,k⟩:=b;unfold jD at a
 split at a
 ·cases a;cases c
  exact⟨_,rfl,k F H _ (aH.refl F H) (.int _)⟩
 ·cases a
def iO(d e:D):Option D:=if(shaped d && shaped e)=true then some (.bool (ZR d e))else none
def cA(d e:D):Option D:=if(shaped d && shaped e)=true then some (.bool (!PyData.eqv d e))else none
theorem Cq(j:X.A.units+64<Zg):bC X (Zf .Eq) (cD X.K iO):=fun f s n H x y v u Q I i h g=>by
 obtain⟨F,d,e,q,z,R1,R2,a,k⟩:=g;unfold iO at a;by_cases c:(shaped d && shaped e)=true
 ·rw [if_pos c]at a;cases a;have b:=QN.mp c;obtain⟨o,m⟩:=R1.reads I (QU b.1) i;obtain⟨bs,l⟩:=R2.reads I (QU b.2) h;exact eq_dataH m l b.1 b.2 j ⟨.bl _,H,I,rfl,k F H _ (aH.refl F H) (.bl _)⟩
 ·rw [if_neg c]at a;cases a
theorem iH(j:X.A.units+64<Zg):bC X (Zf .NotEq) (cD X.K cA):=fun f s n H x y v u Q I i h g=>by
 obtain⟨F,d,e,q,z,R1,R2,a,k⟩:=g;unfold cA at a;by_cases c:(shaped d && shaped e)=true
 ·rw [if_pos c]at a;cases a;have b:=QN.mp c;obtain⟨o,m⟩:=R1.reads I (QU b.1) i;obtain⟨bs,l⟩:=R2.reads I (QU b.2) h;exact ne_dataH m l b.1 b.2 j ⟨.bl _,H,I,rfl,k F H _ (aH.refl F H) (.bl _)⟩
 ·rw [if_neg c]at a;cases a
def dG(b:Bool)(d:D):D->Option D
 | .list a=>if(shaped d && shaped (.list a))=true then some (.bool (if b then !(a.any fun y=>ZR y d)else a.any fun y=>ZR y d))else none
 | .tuple a=>if(shaped d && shaped (.tuple a))=true then some (.bool (if b then !(a.any fun y=>ZR y d)else a.any fun y=>ZR y d))else none
 | _=>none
theorem yG(m:X.A.units+65<Zg):bC X (Zf .In) (cD X.K (dG false)):=fun l s p H x y v u Q I j i n=>by
 obtain⟨F,d,e,q,z,R1,R2,a,k⟩:=n;unfold dG at a
 split at a
 ·rename_i f;by_cases c:(shaped d && shaped (.list f))=true
  ·rw [if_pos c]at a;cases a;have b:=QN.mp c;obtain⟨o,h⟩:=R1.reads I (QU b.1) j;obtain⟨bs,g⟩:=R2.reads I (QU b.2) i;exact in_list_reads g h (QU b.2) (QU b.1) (U5 b.1 m) ⟨.bl _,H,I,rfl,k F H _ (aH.refl F H) (.bl _)⟩
  ·rw [if_neg c]at a;cases a
 ·rename_i f;by_cases c:(shaped d && shaped (.tuple f))=true
  ·rw [if_pos c]at a;cases a;have b:=QN.mp c;obtain⟨o,h⟩:=R1.reads I (QU b.1) j;obtain⟨bs,g⟩:=R2.reads I (QU b.2) i;exact in_tuple_reads g h (QU b.2) (QU b.1) (U5 b.1 m) ⟨.bl _,H,I,rfl,k F H _ (aH.refl F H) (.bl _)⟩
  ·rw [if_neg c]at a;cases a
 ·cases a
theorem p6(m:X.A.units+65<Zg):bC X (Zf .NotIn) (cD X.K (dG true)):=fun l s p H x y v u Q I j i n=>by
 obtain⟨F,d,e,q,z,R1,R2,a,k⟩:=n;unfold dG at a
 split at a
 ·rename_i f;by_cases c:(shaped d && shaped (.list f))=true
  ·rw [if_pos c]at a;cases a;have b:=QN.mp c;obtain⟨o,h⟩:=R1.reads I (QU b.1) j;obtain⟨bs,g⟩:=R2.reads I (QU b.2) i;exact notIn_list_reads g h (QU b.2) (QU b.1) (U5 b.1 m) ⟨.bl _,H,I,rfl,k F H _ (aH.refl F H) (.bl _)⟩
  ·rw [if_neg c]at a;cases a
 ·rename_i f;by_cases c:(shaped d && shaped (.tuple f))=true
  ·rw [if_pos c]at a;cases a;have b:=QN.mp c;obtain⟨o,h⟩:=R1.reads I (QU b.1) j;obtain⟨bs,g⟩:=R2.reads I (QU b.2) i;exact notIn_tuple_reads g h (QU b.2) (QU b.1) (U5 b.1 m) ⟨.bl _,H,I,rfl,k F H _ (aH.refl F H) (.bl _)⟩
  ·rw [if_neg c]at a;cases a
 ·cases a
def aO:D->D->Option D
 | .tuple xs,.int i=>atI xs i
 | .list xs,.int i=>atI xs i
 | _,_=>none
theorem Reps.atI{K:PySem.W.Frag}{F:YP->Prop}{H:Hp}{ds:List D}{vs:List V}{i:Int}{d:D}(r:Reps K F H ds vs)(h:L2.atI ds i=some d):∃ v,L2.atI vs i=some v/\aM K F H d v:=by
 unfold L2.atI at h ⊢;rw [r.length]at h
 cases e:ixN vs.length i with
 | none=>rw [e]at h;cases h
 | some j=>
  rw [e]at h;obtain⟨v,b,a⟩:=r.get (show ds[j]?=some d from h)
  exact⟨v,b,a⟩
theorem bD:fC X (cD X.K aO):=Hj (S4.or Tf) fun x y H Q h=>by
 obtain⟨F,d,e,q,z,g,R2,b,k⟩:=h;unfold aO at b
 split at b
 ·rename_i j i
  cases g with
  | @tup a vs _ h1 r1=>
   cases R2;obtain⟨v,f,c⟩:=r1.atI b;exact .inr ⟨a,vs,i,v,rfl,rfl,h1,f,k F H _ (aH.refl F H) c⟩
 ·rename_i j i
  cases g with
  | @lst a vs _ h1 r1=>
   cases R2;obtain⟨v,f,c⟩:=r1.atI b;exact .inl ⟨a,vs,i,v,rfl,rfl,h1.sq,f,k F H _ (aH.refl F H) c⟩
 ·cases b
def eK:List D->Option D
 | [.list xs]=>some (.int xs.length)
 | [.tuple xs]=>some (.int xs.length)
 | _=>none
theorem oF:dA X (.builtin "len") (iR X.K eK):=oD O6 fun e H Q d=>by
 obtain⟨F,f,q,z,R,b,k⟩:=d;unfold eK at b
 split at b
 ·cases b
  cases R with
  | cons c R2=>
   cases R2
   cases c with
   | @lst a vs _ h1 r1=>exact⟨a,vs,rfl,.inl h1.sq,by rw [<- r1.length];exact k F H _ (aH.refl F H) (.int _)⟩
 ·cases b
  cases R with
  | cons c R2=>
   cases R2
   cases c with
   | @tup a vs _ h1 r1=>exact⟨a,vs,rfl,.inr h1,by rw [<- r1.length];exact k F H _ (aH.refl F H) (.int _)⟩
 ·cases b
def rR:List D->Option D
 | [.int i]=>some (.int (if i<0 then -i else i))
 | _=>none
theorem EH:dA X (.builtin "abs") (iR X.K rR):=oD PL fun d H Q b=>by
 obtain⟨F,e,q,z,R,a,k⟩:=b;unfold rR at a
 split at a
 ·cases a
  cases R with
  | cons c R2=>cases R2;cases c;exact⟨_,rfl,k F H _ (aH.refl F H) (.int _)⟩
 ·cases a
def dJ:List D->Option (List Int)
 | []=>some []
 | .int i::r=>(dJ r).bind fun a=>some (i::a)
 | _=>none
theorem xX{K:PySem.W.Frag}{F:YP->Prop}{H:Hp}:∀{ds:List D}{vs:List V}{is:List Int},Reps K F H ds vs->dJ ds=some is->vs=is.map V.int:=by
 intro ds
 induction ds with
 | nil=>intro vs is r h;cases r;cases h;rfl
 | cons d ds c=>
  intro vs is r h
  cases r with
  | cons b a=>
   cases d with
   | int i=>
    cases b;obtain⟨f,e,h⟩:=aE h;cases h;rw [c a e];rfl
   | _=>cases h
def qZ:List D->Option D
 | [.list xs]=>some (.tuple xs)
 | [.tuple xs]=>some (.tuple xs)
 | _=>none
theorem EK:dA X (.type "tuple") (iR X.K qZ):=oD Pf fun f H Q e=>by
 obtain⟨F,g,q,z,R,b,k⟩:=e;unfold qZ at b
 split at b
 ·cases b
  cases R with
  | cons c R2=>
   cases R2
   cases c with
   | @lst a vs _ h1 r1=>exact⟨a,vs,rfl,.inl ⟨h1.sq,fun l d=>k F _ _ (aH.fresh d) (aM.newTup d r1)⟩⟩
 ·cases b
  cases R with
  | cons c R2=>
   cases R2
   cases c with
   | @tup a vs _ h1 r1=>exact⟨a,vs,rfl,.inr ⟨h1,k F H _ (aH.refl F H) (.tup h1 r1)⟩⟩
 ·cases b
def Eh:List D->Option D
 | [.list xs]=>some (.list xs)
 | [.tuple xs]=>some (.list xs)
 | _=>none
end
end DL
namespace CL
open PySem.Spec L2
theorem Be:∀(names:List (Str × UQ)) (acc:List (Str × YP)),(∀ x∈names,x.2=.free->∃ c,env.cells.lookup x.1=some c)->
  (∀ x c,acc.lookup x=some c->env.cells.lookup x=some c)->
  ∃ cl,(forIn names acc (fun(x:Str × UQ) (cs:List (Str × YP))=>(do
    if x.2 == .free then
     let c <- cellOf env x.1
     pure (ZF ((x.1,c)::cs))
    else pure (ZF cs):Sem (ForInStep (List (Str × YP)))))=(pure cl:Sem _))/\(∀ x c,cl.lookup x=some c->env.cells.lookup x=some c) /\
   (∀ x,(x,J7)∈names->∃ c,cl.lookup x=some c)/\(∀ x c,acc.lookup x=some c->∃ c',cl.lookup x=some c')/\(∀ x c,cl.lookup x=some c->(x,J7)∈names ∨ acc.lookup x=some c)
 | [],acc,_,h2=>⟨acc,by rw [List.forIn_nil],h2,fun x h=>by simp at h,fun x c h=>⟨c,h⟩,fun x c h=>.inr h⟩
 | (n,k)::r,acc,h1,h2=>by
  rw [List.forIn_cons];by_cases f:k=.free
  ·subst f;obtain⟨c,m⟩:=h1 (n,.free) (Qh) rfl;have b:env.cells.lookup n=some c:=m
   have g:∀ x c',((n,c)::acc).lookup x=some c'->env.cells.lookup x=some c':=fun x c' h=>by
    rw [QQ]at h
    cases e:x == n with
    | true=>rw [e]at h;cases h;rw [Yp e];exact b
    | false=>rw [e]at h;exact h2 x c' h
   obtain⟨cl,q,l,j,d,i⟩:=Be r ((n,c)::acc) (fun x a=>h1 x (Qg _ a)) g
   refine⟨cl,?_,l,fun x a=>?_,fun x c' h=>?_,fun x c' h=>?_⟩
   ·have o:cellOf env n=pure c:=by unfold cellOf;rw [b]
    simp only [beq_self_eq_true,if_true,o,pure_bind];exact q
   ·rcases Ql.mp a with a | a
    ·cases a;exact d n c (by rw [QQ,beq_self_eq_true])
    ·exact j x a
   ·cases e:x == n with
    | true=>rw [Yp e];exact d n c (by rw [QQ,beq_self_eq_true])
    | false=>exact d x c' (by rw [QQ,e];exact h)
   ·rcases i x c' h with h | h
    ·exact .inl (Qg _ h)
    ·rw [QQ]at h
     cases e:x == n with
     | true=>rw [Yp e];exact .inl Qh
     | false=>rw [e]at h;exact .inr h
  ·obtain⟨cl,q,l,j,d,i⟩:=Be r acc (fun x a=>h1 x (Qg _ a)) h2
   refine⟨cl,?_,l,fun x a=>?_,d,fun x c h=>(i x c h).imp (Qg _) id⟩
   ·have e:(k == J7)=false:=by simpa using f
    simp only [e,Qp,if_false,pure_bind];exact q
   ·rcases Ql.mp a with a | a
    ·cases a;exact absurd rfl f
    ·exact j x a
theorem Dq(h:∀ x∈scope.names,x.2=.free->∃ c,env.cells.lookup x.1=some c):
  ∃ cl,closureFor scope env=pure cl/\(∀ x c,cl.lookup x=some c->env.cells.lookup x=some c)/\(∀ x,(x,J7)∈scope.names->∃ c,cl.lookup x=some c)/\(∀ x c,cl.lookup x=some c->(x,J7)∈scope.names):=by
 obtain⟨cl,q,d,b,_,a⟩:=Be (env:=env) scope.names [] h (fun x c h=>by simp at h)
 refine⟨cl,?_,d,b,fun x c h=>(a x c h).elim id fun z=>by simp at z⟩
 simp only [closureFor]
 first
  | exact q
  | (rw [<- q];congr 1;funext x cs;obtain⟨n,k⟩:=x;rfl)
  | simpa using q
def c8(X:Cx)(N':List Str)(scope:ZY)(b:List (Str × YP))(C:YP)(a:List YP)(s:JT)(H:Hp):Cx:=
 { X with N:=N',s₀:=s,H₀:=H,env:=compEnvC scope b C X.env,outer:=X.stack,ex:=a,fn:=fun x=>scope.names.lookup x == some .local,pn:=[],xe:=fun _ _=>False }
structure kX(X:Cx)(N':List Str)(scope:ZY)(inner:List (Option Nat)):Prop where
 kind:scope.kind=.function
 nocell:∀ x∈scope.names,x.2≠.cell
 loc:∀ x∈scope.names,x.2=.local->scope.names.lookup x.1=some .local
 free:∀ x∈scope.names,x.2=.free->scope.names.lookup x.1=some .free/\(X.env.scope.names.lookup x.1=some .cell ∨ X.env.scope.names.lookup x.1=some .free)
 len:inner.length=N'.length
 out:∀(i j:Nat),inner[i]?=some (some j)->∃ x,N'[i]?=some x/\X.N[j]?=some x/\scope.names.lookup x=some .free
def iP(inner:List (Option Nat))(a:L2.St):L2.St:=inner.map fun o=>o.bind fun j=>(a[j]?).bind id
theorem HX{env:Env}:∀{names:List (Str × UQ)}{x:Str},names.lookup x=some .free->
  (names.map fun(n,k)=>if(k == J7 && env.scope.kind == .function && env.kindOf n == some .cell)then(n,Uc)else(n,k)).lookup x=some .free ∨
  (names.map fun(n,k)=>if(k == J7 && env.scope.kind == .function && env.kindOf n == some .cell)then(n,Uc)else(n,k)).lookup x=some .cell
 | [],_,h=>by simp at h
 | (n,k)::r,x,h=>by
  have c:=@HX env r x;rw [Qk]
  show ZN x ((if(k == J7 && env.scope.kind == .function && env.kindOf n == some .cell)=true then(n,Uc)else(n,k))::_)=_ ∨ ZN x ((if(k == J7 && env.scope.kind == .function && env.kindOf n == some .cell)=true then(n,Uc)else(n,k))::_)=_
  cases a:x == n with
  | true=>
   simp only [QQ,a]at h;cases h;by_cases b:(J7 == J7 && env.scope.kind == .function && env.kindOf n == some .cell)=true
   ·rw [if_pos b];right;simp [QQ,a]
   ·rw [if_neg b];left;simp [QQ,a]
  | false=>
   simp only [QQ,a]at h;by_cases b:(k == J7 && env.scope.kind == .function && env.kindOf n == some .cell)=true
   ·rw [if_pos b];simp only [QQ,a];exact c h
   ·rw [if_neg b];simp only [QQ,a];exact c h
theorem BQ{env:Env}:∀{names:List (Str × UQ)}{x:Str}{q:UQ},(∀ y∈names,y.2≠.cell)->(q=.cell ∨ q=.free)->
  (names.map fun(n,k)=>if(k == J7 && env.scope.kind == .function && env.kindOf n == some .cell)then(n,Uc)else(n,k)).lookup x=some q->(x,J7)∈names
 | [],_,_,_,_,h=>by simp at h
 | (n,k)::r,x,q,hn,hq,h=>by
  have f:=@BQ env r x q (fun y g=>hn y (Qg _ g)) hq;rw [Qk]at h;have a:ZN x ((if(k == J7 && env.scope.kind == .function && env.kindOf n == some .cell)=true then(n,Uc)else(n,k))::_)=some q:=h
  cases c:x == n with
  | true=>
   have e:x=n:=Yp c;by_cases b:(k == J7 && env.scope.kind == .function && env.kindOf n == some .cell)=true
   ·have:k=.free:=by
     have:=b
     simp only [QF,beq_iff_eq]at this;exact this.1.1
    rw [e,this];exact Qh
   ·rw [if_neg b]at a;simp only [QQ,c]at a;have d:k=q:=QA a;rcases hq with z | z
    ·exact absurd (d.trans z) (hn (n,k) Qh)
    ·rw [e,<- z,<- d];exact Qh
  | false=>
   by_cases b:(k == J7 && env.scope.kind == .function && env.kindOf n == some .cell)=true
   ·rw [if_pos b]at a;simp only [QQ,c]at a;exact Qg _ (f a)
   ·rw [if_neg b]at a;simp only [QQ,c]at a;exact Qg _ (f a)
section
variable {X:Cx}{N':List Str}{scope:ZY}{inner:List (Option Nat)}{cl:List (Str × YP)}{C:YP}{fp:List YP}{s s4:JT}{H:Hp}{σ:L2.St}{pins:List (YP × Obj)}
theorem SE(CS:kX X N' scope inner)(I:Inv X pins σ H s)(w:∀ b∈fp,g9 X pins H b)(n:∀ x c,cl.lookup x=some c->X.env.cells.lookup x=some c)(Q:∀ x,(x,J7)∈scope.names->∃ c,cl.lookup x=some c)(c3:∀ x c,cl.lookup x=some c->(x,J7)∈scope.names)
  (K:∀ b∈fp,b<s.heap.objs.size) (A:C=s.heap.objs.size) {h':Heap}{tk:Nat} (t:∀ b o,s.heap.get? b=some o->h'.get? b=some o) (J:h'.Ns C fun _=>none) (G:s4={ s with heap:=h',toks:=tk }):
  Inv (c8 X N' scope cl C fp s H) [] (iP inner σ) H s4:=by
 subst G
 have B:∀ b o,s.heap.get? b=some o->b≠C:=fun b o e=>by rw [A];exact QB (Qs e)
 have cC:∀ x c,cl.lookup x=some c->c≠C:=fun x c e=>by
  obtain⟨v,o,q,_⟩:=I.cell x c (n x c e);exact B c o q
 refine⟨⟨I.ok.mod,CS.kind,I.ok.glob,I.ok.blt,?_,fun x y c h1 h2=>I.ok.inj x y c (n x c h1) (n y c h2),fun x F=>?_,fun x c F h=>?_,I.ok.hd,I.ok.frames,.inl rfl,fun b l=>⟨?_,fun x c e z=>(w b l).2.2.2.2.1 x c (n x c e) z⟩,I.bs,Qr I.ok.bsz I.sz,fun b o e l=>?_,fun b l=>?_,I.stack,I.stkFree⟩,
  rfl,I.bare,Un.kept t,⟨_,J,fun i x v O g e3=>?_⟩,fun x c e=>?_,?_,fun x c e=>I.freeC x c (n x c e),fun p hp=>absurd (show p∈([]:List (YP × Obj))from hp) (by simp),I.hok.kept t,?_⟩
 ·show s.heap.objs.size<=C
  rw [A];exact Qj _
 ·have d:(relabel scope X.env).names.lookup x=some .cell ∨ (relabel scope X.env).names.lookup x=some .free:=F;rcases d with d | d
  ·exact Q x (BQ CS.nocell (.inl rfl) d)
  ·exact Q x (BQ CS.nocell (.inr rfl) d)
 ·have d:(scope.names.lookup x == some NameKind.local)=true:=F;have O:scope.names.lookup x=some .local:=Yp d;have g:=(CS.free _ (c3 x c h) rfl).1;rw [O]at g;cases g
 ·show b≠C
  rw [A];exact QB (K b l)
 ·rcases(w b l).2.2.2.1 with z | z
  ·exact I.ok.noex b o e z
  ·exact absurd (QJ (Qs e) (Qr I.ok.bsz z)) (Jl _)
 ·intro z;rcases Ql.mp (I.stkSub b z)with q | q
  ·exact(w b l).2.1 q
  ·exact(w b l).2.2.1 q
 ·
  unfold iP at g;rw [QH]at g
  cases M:inner[i]? with
  | none=>rw [M]at g;cases g
  | some o=>
   rw [M]at g
   cases o with
   | none=>cases g
   | some j=>
    have k:(σ[j]?).bind id=some v:=by simpa using g
    have e4:σ[j]?=some (some v):=by
     cases W:σ[j]? with
     | none=>rw [W]at k;cases k
     | some w'=>rw [W]at k;exact congrArg some k
    obtain⟨x',U,g2,T⟩:=CS.out i j M;have N:N'[i]?=some x:=O;rw [N]at U;cases U;have r:(x,J7)∈scope.names:=PySem.mem_of_lookup T;have f:=(CS.free _ r rfl).2;obtain⟨m,hm,hl⟩:=I.loc;have vis:gG X.env.scope x:=f.elim (fun z=>.inr (.inl z)) fun z=>.inr (.inr z);obtain⟨u,Z,lk⟩:=hl j x v g2 e4 vis
    refine⟨u,Z,?_⟩
    obtain⟨c,S⟩:=Q x r;rcases lk with⟨k1,_⟩ | ⟨_,c',k2,k3⟩
    ·have E:X.env.scope.names.lookup x=some .local:=k1
     rcases f with z | z <;> (rw [E]at z;cases z)
    ·have Y:=n x c S;rw [k2]at Y;cases Y;refine .inr ⟨?_,c,S,(let⟨o,q1,q2⟩:=k3;⟨o,t _ o q1,q2⟩)⟩
     have:=HX (env:=X.env) T
     exact this.elim .inr .inl
 ·obtain⟨v,q⟩:=I.cell x c (n x c e)
  exact⟨v,(let⟨o,q1,q2⟩:=q;⟨o,t _ o q1,q2⟩)⟩
 ·show H C=none
  exact I.hok.fresh (by rw [A];exact Qj _)
 ·show(iP inner σ).length=N'.length
  unfold iP;rw [Qd];exact CS.len
theorem Sy(I:Inv X pins σ H s)(h:∀ b∈fp,g9 X pins H b)(p:C=s.heap.objs.size)(J:Inv (c8 X N' scope cl C fp s H) [] σ' H' s5)(g:Zi C s5.heap h'):
  Inv X pins σ H' { s5 with heap:=h' }:=by
 have d:∀ b o,s.heap.get? b=some o->b≠C:=fun b o e=>by rw [p];exact QB (Qs e)
 have U:Un (dN X.stack) fp H H' s.heap s5.heap:=J.base;have l:H' C=none:=J.free;refine I.call' (ch:=fp) J.os ⟨fun b o e n a f=>?_,fun b o e n a f=>?_,U.free,fun b o e f=>?_,U.tups,U.frzs,U.tbls⟩ (fun b u e=>?_) J.bare fun b a=>?_
 ·rw [g.2 b (d b o e)];exact U.keep b o e n a f
 ·obtain⟨j,q⟩:=U.slot b o e n a f
  exact⟨j,by rw [g.2 b (d b o e)];exact q⟩
 ·obtain⟨k,q⟩:=U.there b o e f
  exact⟨k,by rw [g.2 b (d b o e)];exact q⟩
 ·have i:∀ c v,H' c=some v->c≠C:=fun c v q z=>by rw [z,l]at q;cases q
  refine(J.hok b u e).stay (fun c v m q=>?_) (fun _ q=>q) fun _ _ q=>q
  rw [g.2 c ?_]
  ·exact q
  ·rcases m with z | z
   ·rw [z];exact i b u e
   ·exact i c _ z
 ·exact⟨(h b a).2.2.2.1,(h b a).2.1,(h b a).2.2.2.2.1,(h b a).2.2.2.2.2⟩
end
def m7(X:Cx)(a:List Expr)(t:TT):Prop:=
 ∀(pins:List (YP × Obj)) (s:JT) (σ:L2.St) (H:Hp) (Q:Bool->Hp->Prop),Inv X pins σ H s->t σ H Q->
  JW (JX X.prog X.w) X.A (forIn a true fun c r=>if r=true then do let ok <- isTrue c X.env (Za c X.env);pure (ZF ok)else pure (ZF r)) (TP X pins σ Q) X.xe s
theorem WP:m7 X [] (fun _ H Q=>Q true H):=fun a s b H Q I h=>wpAny_tests_nil ⟨H,I,h⟩
theorem BL(h:PT X c t):m7 X [c] t:=fun a s b H Q I q=>wpAny_tests_one (h a s b H Q I q)
def oX(h:TI)(g:TG)(ti:TT)(te:TE)(inner:List (Option Nat)):TE:=fun c H Q=>h c H fun J f=>∀ D,f D=none->∃ W:Nat->Nat->L2.St->Hp->Prop,(∃ m,W 0 m (iP inner c) (aJ f D (.lst [])))/\∀ i m σ' H',W i m σ' H'->
 (J.stop i H'/\Q (.ref D) H') ∨ (J.go i H'/\∀ x H2,J.yld i H' x H2->g x σ' H2 fun a j=>ti a j fun b e=>if b=true then te a e fun y d=>∃ ys,d D=some (.lst ys)/\ys.length<sizeLine/\∃ m',m'<m/\W (i+1) m' a (aJ d D (.lst (ys++[y])))else ∃ m',m'<m/\W (i+1) m' a e)
section
variable {X:Cx}{elt tg iter:Expr}{ifs:List Expr}{scope:ZY}{pos:Pos}{N':List Str}{inner:List (Option Nat)}{wi:TI}{g:TG}{ti:TT}{te:TE}
theorem Sc{Y:Cx}{D G:YP}{f:List YP}{p:Nat->Heap->Prop}{J:It}{W:Nat->Nat->L2.St->Hp->Prop}{Qn:Hp->Prop}{RR:Result->JT->Prop}{l:L2.St}{U:Hp}{s4:JT}{m0:Nat}
  (hc:Y.calm=true) (c:∀ v s,¬ Y.xe v s) (hg:PG Y tg g) (ht:m7 Y ifs ti) (he:PE Y elt te) (T:kO Y.prog Y.w Y.K tg J f G p) (I:∀{H'':Hp},(∀ b∈f,H'' b=none)->∀ b∈f,g9 Y [] H'' b)
  (I4:Inv Y [] l U s4) (t4:p 0 s4.heap) (N:∀ b∈f,U b=none) (w0:W 0 m0 l U)
  (step:∀ i m σ' H',W i m σ' H'->(J.stop i H'/\Qn H') ∨ (J.go i H'/\∀ x H3,J.yld i H' x H3->g x σ' H3 fun σ3 H3=>ti σ3 H3 fun b H4=>if b=true then te σ3 H4 fun y H5=>∃ ys,H5 D=some (.lst ys)/\ys.length<sizeLine/\∃ m',m'<m/\W (i+1) m' σ3 (aJ H5 D (.lst (ys++[y])))else ∃ m',m'<m/\W (i+1) m' σ3 H4))
  (fin:∀ σ' H' s5,Inv Y [] σ' H' s5->Qn H'->RR (.ok .next) s5):
  Ui (JX Y.prog Y.w) Y.A (.compLoop (.ListComp elt [⟨tg,iter,ifs,0⟩] scope pos) 0 (.ref G) (.ref D) Y.env) RR s4:=by
 refine codeAny_loop rfl (fun m j=>∃ i σ' H',Inv Y [] σ' H' j/\p i j.heap/\(∀ b∈f,H' b=none)/\W i m σ' H') (fun m j hI=>?_) m0 ⟨0,_,_,I4,t4,N,w0⟩;obtain⟨i,σ',H',I',Z,n,w'⟩:=hI
 show JW _ Y.A ((compTurn (.ListComp elt [⟨tg,iter,ifs,0⟩] scope pos) 0 (.ref G) (.ref D) Y.env).onRaise (fun x=>do noteFrame x Y.env;theTreesLotGoes x)) _ _ j
 refine wpAny_noted ?_;rw [compTurn_list];refine Qa (wpAny_standAt (Qa ?_));rcases step i m σ' H' w' with⟨stop,qn⟩ | ⟨go,F⟩
 ·refine YW (T.done Y rfl rfl rfl hc i [] j σ' H' (fun _ _=>False) I' (I n) Z stop) (fun r s5 d=>?_) fun _ _ z=>z.elim;obtain⟨d,I5⟩:=d;subst d;exact Qb (fin σ' H' s5 I5 qn)
 ·refine YW (T.item Y rfl rfl rfl hc i [] j σ' H' (fun _ _=>False) I' (I n) Z go) (fun r s5 d=>?_) fun _ _ z=>z.elim;obtain⟨u,d,h5⟩:=d;subst d;refine Qa (YW h5 (fun _ s6 h6=>?_) fun _ _ z=>z.elim);obtain⟨x,H6,I6,r6,y6,E,M⟩:=h6;have Q:=I6.pinned (I M) (T.obj _ _ E)
  have back:∀{m':Nat}{a:L2.St}{k:Hp}{h:JT},Inv Y ([]++sX f s6.heap) a k h->m'<m->W (i+1) m' a k->
    ∃ m',m'<m/\∃ i σ' H',Inv Y [] σ' H' h/\p i h.heap/\(∀ b∈f,H' b=none)/\W i m' σ' H':=fun{m' a k h} I7 lt w7=>by
   refine⟨m',lt,i+1,a,k,I7.unpinned,T.keep _ _ _ E fun b t o e=>(I7.pin (b,o) (Qz _ (Qz _ (yA t e)))).1,fun b t=>?_,w7⟩
   obtain⟨o,e,_⟩:=T.obj _ _ E b t
   exact(I7.pin (b,o) (Qz _ (Qz _ (yA t e)))).2.1
  refine Qa (YW (hg _ s6 σ' H6 x u _ Q r6 (F x H6 y6)) (fun _ h h7=>?_) fun _ _ z=>absurd z (c _ _));obtain⟨a,k,I7,q7⟩:=h7;refine Qa (YW (ht _ h a k _ I7 q7) (fun ok s8 h8=>?_) fun _ _ z=>absurd z (c _ _));obtain⟨H8,I8,q⟩:=h8
  cases ok with
  | false=>
   simp only [Qp,if_false]at q ⊢;obtain⟨m',lt,w8⟩:=q;exact Qb ⟨rfl,back I8 lt w8⟩
  | true=>
   simp only [if_true]at q ⊢;refine Qa (Qa (YW (he _ s8 a H8 _ I8 q) (fun y s9 h9=>?_) fun _ _ z=>absurd z (c _ _)));obtain⟨B,H9,I9,r9,ys,d9,l9,m',lt,w9⟩:=h9;refine Qa (YW (Cg (X:=Y) _ s9 a H9 (.ref D) [B] _ [y] (fun v H'=>H'=aJ H9 D (.lst (ys++[B]))) I9 rfl (.cons r9 .nil) ⟨_,ys,B,rfl,rfl,d9,l9,rfl⟩) (fun _ a0 H=>?_) fun _ _ z=>absurd z (c _ _));obtain⟨_,a1,S,_,O⟩:=H;subst O;exact Qb (Qb ⟨rfl,back S lt w9⟩)
theorem tV(hc:X.calm=true)(CS:kX X N' scope inner)(hg:∀ f C d s H,PG (c8 X N' scope f C d s H) tg g)(ht:∀ f C d s H,m7 (c8 X N' scope f C d s H) ifs ti)(he:∀ f C d s H,PE (c8 X N' scope f C d s H) elt te)
  {pins:List (YP × Obj)}{r:L2.St}{s2:JT}{l:Hp}{E:YP}{d:List YP}{B:Nat->Heap->Prop}{J:It}{f:List (Str × YP)}{Q:VK}{RR:JS->YP->Result->JT->Prop}
  (c1:∀ x c,f.lookup x=some c->X.env.cells.lookup x=some c) (c2:∀ x,(x,J7)∈scope.names->∃ c,f.lookup x=some c) (c3:∀ x c,f.lookup x=some c->(x,J7)∈scope.names)
  (I2:Inv X pins r l s2) (T:kO X.prog X.w X.K tg J d E B) (U:B 0 s2.heap) (f2:∀ b∈d,g9 X pins l b)
  (q:∀ D,l D=none->∃ W:Nat->Nat->L2.St->Hp->Prop,(∃ m,W 0 m (iP inner r) (aJ l D (.lst [])))/\∀ i m σ' H',W i m σ' H'->
   (J.stop i H'/\Q (.ref D) H') ∨ (J.go i H'/\∀ x H3,J.yld i H' x H3->g x σ' H3 fun σ3 H3=>ti σ3 H3 fun b H4=>if b=true then te σ3 H4 fun y H5=>∃ ys,H5 D=some (.lst ys)/\ys.length<sizeLine/\∃ m',m'<m/\W (i+1) m' σ3 (aJ H5 D (.lst (ys++[y])))else ∃ m',m'<m/\W (i+1) m' σ3 H4))
  (fin:∀(D C:YP) (H':Hp) (s5:JT) (m:Str->Option JS),s5.heap.Ns C m->Q (.ref D) H'->(∀ h',Zi C s5.heap h'->Inv X pins r H' { s5 with heap:=h' })->(H' C=none/\C≠X.env.locals/\X.s₀.heap.objs.size<=C/\(∀ x c,X.env.cells.lookup x=some c->c≠C)/\∀ p∈X.pn++pins,p.1≠C)->RR (.ref D) C (.ok .next) s5):
  JW (JX X.prog X.w) X.A (newList []) (fun acc s₃=>JW (JX X.prog X.w) X.A (newFunctionEnv scope X.env.globals f [] X.env.qual none .none (some X.env)) (fun cenv s₄=>
   Ui (JX X.prog X.w) X.A (.compStart (.ListComp elt [⟨tg,iter,ifs,0⟩] scope pos) 0 (.ref E) acc { cenv with scope:=relabel scope X.env }) (RR acc cenv.locals) s₄) X.xe s₃) X.xe s2:=by
 refine wpAny_newList ?_;have hD:l s2.heap.objs.size=none:=I2.hok.fresh (Qj _);generalize hs3:({ s2 with heap:=s2.heap.push { cls:=.type "list",data:=.seq ([]:List JS).toArray } }:JT)=s3
 have G:∀ b o,s2.heap.get? b=some o->s3.heap.get? b=some o:=fun b o e=>by rw [<- hs3];exact Qf _ e
 have F:s3.heap.objs.size=s2.heap.objs.size+1:=by rw [<- hs3];exact YQ _ _
 have I3:Inv X pins r (aJ l s2.heap.objs.size (.lst [])) s3:=by
  rw [<- hs3];exact I2.laid (t':=s2.toks) (o:=.lst []) (fun b o e=>Qf _ e) (Qj _) ⟨QR _,[],0,.nil,Qu _ rfl⟩
 have u:∀ b∈d,b<s2.heap.objs.size:=fun b j=>by
  obtain⟨o,e,_⟩:=T.obj 0 _ U b j;exact Qs e
 have O:∀ b∈d,g9 X pins (aJ l s2.heap.objs.size (.lst [])) b:=fun b j=>by
  obtain⟨g0,g1⟩:=f2 b j
  exact⟨by rw [aV (QB (u b j))];exact g0,g1⟩
 have t3:B 0 s3.heap:=T.keep _ _ _ U fun b _ o e=>G b o e;obtain⟨W,⟨m0,Z⟩,step⟩:=q _ hD;refine wpAny_newFunctionEnv (fun x hx=>CS.nocell x hx) (by intro y hy;simp at hy) (fun k a h=>?_) CS.kind
 try dsimp only at a h ⊢
 have t:∀ b o,s3.heap.get? b=some o->k.get? b=some o:=fun b o e=>h.extBut b o (QB (Qs e)) (Qf _ e)
 have M:k.Ns s3.heap.objs.size fun _=>none:=by
  have:(fun x=>([]:List (Str × JS)).reverse.lookup x)=(fun _=>none:Str->Option JS):=by funext x;rfl
  rw [this]at a;exact a
 generalize hs4:({ s3 with heap:=k,toks:=s3.toks+([]:List (Str × JS)).length }:JT)=s4
 have I4:Inv (c8 X N' scope f s3.heap.objs.size d s3 (aJ l s2.heap.objs.size (.lst []))) [] (iP inner r) (aJ l s2.heap.objs.size (.lst [])) s4:=
  SE CS I3 O c1 c2 c3 (fun b j=>by rw [F];exact Nat.lt_succ_of_lt (u b j)) rfl t M hs4.symm
 have S:B 0 s4.heap:=by rw [<- hs4];exact T.keep _ _ _ t3 fun b _ o e=>t b o e
 have CL:s3.heap.objs.size≠X.env.locals:=YZ I3.lt
 have CC:∀ x c,X.env.cells.lookup x=some c->c≠s3.heap.objs.size:=fun x c e=>by
  obtain⟨v,o,z,_⟩:=I3.cell x c e;exact QB (Qs z)
 show Ui (JX X.prog X.w) X.A (.compStart (.ListComp elt [⟨tg,iter,ifs,0⟩] scope pos) 0 (.ref E) (.ref s2.heap.objs.size) (compEnvC scope f s3.heap.objs.size X.env)) (RR (.ref s2.heap.objs.size) s3.heap.objs.size) s4
 have n:Ui (JX X.prog X.w) X.A (.compLoop (.ListComp elt [⟨tg,iter,ifs,0⟩] scope pos) 0 (.ref E) (.ref s2.heap.objs.size) (compEnvC scope f s3.heap.objs.size X.env)) (RR (.ref s2.heap.objs.size) s3.heap.objs.size) s4:=by
  have fx:∀{H'':Hp},(∀ b∈d,H'' b=none)->∀ b∈d,g9 (c8 X N' scope f s3.heap.objs.size d s3 (aJ l s2.heap.objs.size (.lst []))) [] H'' b:=fun{H''} z b j=>
   ⟨z b j,(I4.ok.exf b j).1,I4.ok.exfs b j,.inl j,fun x c e=>(I4.ok.exf b j).2 x c e,fun p I=>absurd (show p∈([]:List (YP × Obj))from I) (by simp)⟩
  refine Sc (Y:=c8 X N' scope f s3.heap.objs.size d s3 (aJ l s2.heap.objs.size (.lst []))) hc (fun _ _ z=>z) (hg _ _ _ _ _) (ht _ _ _ _ _) (he _ _ _ _ _) T fx I4 S (fun b j=>(O b j).1) Z step fun σ' H' s5 I5 qn=>?_;obtain⟨m5,N,_⟩:=id I5.loc;exact fin _ _ H' s5 m5 N qn (fun h' sb=>Sy I3 O rfl I5 sb) ⟨I5.free,CL,I3.sz,CC,fun p I=>QB (Qs (I3.pin p I).1)⟩
 exact codeAny_compStart_list n (T.self X.A 0 s4 _ _ S n)
theorem BE(t:X.calm=true)(CS:kX X N' scope inner)(p:PI X tg iter wi)(r:∀ cl C fp s H,PG (c8 X N' scope cl C fp s H) tg g)(k:∀ cl C fp s H,m7 (c8 X N' scope cl C fp s H) ifs ti)(he:∀ cl C fp s H,PE (c8 X N' scope cl C fp s H) elt te)
  (hs:∀ x,Zq iter X.env x=pure x:=by intro _;rfl):PE X (.ListComp elt [⟨tg,iter,ifs,0⟩] scope pos) (oX wi g ti te inner):=by
 intro a s d H Q I h;obtain⟨cl,b,G,F,E⟩:=Dq (env:=X.env) (scope:=scope) fun x j o=>I.ok.has x.1 (CS.free x j o).2;rw [eval_ListComp];refine wpAny_comprehension_free (use:=none) rfl hs b CS.kind CS.loc (aU (p a s d H _ I h) fun N W y=>aU y fun i U v=>?_);obtain⟨Y,fp,O,J,Z,rfl,K,T,e,B,q⟩:=v;refine tV (RR:=fun c C=>compPost (JX X.prog X.w) X.A X.xe none (EP X a d Q) c C) t CS r k he G F E K T e B q ?_;intro D C M S m n l u _
 exact⟨m,n,fun z f=>⟨.ref D,M,u z f,rfl,l⟩⟩
theorem WJ(hN:X.N.Nodup)(hc:X.calm=true)(CS:kX X N' scope inner)(hi:PI X tg iter wi)(hg:∀ cl C fp s H,PG (c8 X N' scope cl C fp s H) tg g)(ht:∀ cl C fp s H,m7 (c8 X N' scope cl C fp s H) ifs ti)(he:∀ cl C fp s H,PE (c8 X N' scope cl C fp s H) elt te)
  (n:ZC (.ListComp elt [⟨tg,iter,ifs,0⟩] scope pos) (some (.Name y py)) spos.line X.env=pure true:=by rfl) (hy:X.N[i]?=some y:=by rfl) (l:Loc X.env.scope y:=by first | exact Ze rfl | exact Zc rfl) (hf:X.fn y=true ∨ X.env.scope.names.lookup y=some .local:=by first | exact .inl rfl | exact .inr rfl | assumption)
  (hs:∀ x,Zq iter X.env x=pure x:=by intro _;rfl):PS X (.Assign [.Name y py] (.ListComp elt [⟨tg,iter,ifs,0⟩] scope pos) spos) (DU (oX wi g ti te inner) (gY i)):=by
 intro c s z H D I h;obtain⟨cl,r,c1,c2,c3⟩:=Dq (env:=X.env) (scope:=scope) fun x l hk=>I.ok.has x.1 (CS.free x l hk).2;rw [exec_Assign_Name_used _ _ _ _ n];refine Qa (wpAny_standAt (Qa ?_))
 show JW _ X.A (do let _ <- comprehension (.ListComp elt [⟨tg,iter,ifs,0⟩] scope pos) scope X.env _ (newList []) false (Za iter X.env) (some (assign (.Name y py) X.env))) _ _ s
 refine Qa (YW (wpAny_comprehension_free (use:=some (assign (.Name y py) X.env)) (Q:=fun _ f=>SP X c D .next f) rfl hs r CS.kind CS.loc
  (aU (hi c s z H _ I h) fun xv s1 h1=>aU h1 fun a0 s2 h2=>?_)) (fun _ f p=>Qb (Qb p)) fun _ _ e=>e)
 obtain⟨it,fp,tn,J,H2,rfl,I2,T,M,f2,q⟩:=h2;refine tV (Q:=fun v u=>gY i v z u D.nx) (RR:=fun t C=>compPost (JX X.prog X.w) X.A X.xe (some (assign (.Name y py) X.env)) (fun _ f=>SP X c D .next f) t C) hc CS hg ht he c1 c2 c3 I2 T M f2 q ?_;intro j C u U m hm p hI hC;obtain⟨K,E,G,B,F⟩:=hC
 show JW _ X.A (assign (.Name y py) X.env (.ref j)) _ _ _
 have I5:=hI U.heap (JA ..);refine wpAny_assign_Name (KI (v:=.ref j) I5 hN hy l (show L2.RelV (.ref j) (J2 j)from rfl) (fun S I6 Z=>?_) hf);obtain⟨a,O,d⟩:=Z
 have Y:C≠a:=by
  rcases d with d | d
  ·rw [d];exact E
  ·exact(B y a d).symm
 refine⟨m,hm.sameBut O Y,fun h' k=>⟨_,u,?_,p⟩⟩
 exact I6.turned (t':=S.toks) (fun b o W e=>by rw [k.2 b W];exact e) K E (.inr G) B F
end
end CL
namespace DL
open PySem.Spec PySem.SeqAt L2 CL
def fV(inner:List (Option Nat))(ρ:aA):aA:=inner.map fun o=>match o with
 | some j=>match ρ[j]? with
  | some (.dat d)=>.dat d
  | _=>.no
 | none=>.no
def mG(s:D->aA->Option aA)(t:aA->Option Bool)(ge:aA->Option D):List D->aA->Option (List D)
 | [],_=>some []
 | d::ds,ρ=>(s d ρ).bind fun a=>(t a).bind fun b=>if b=true then(ge a).bind fun y=>(mG s t ge ds a).bind fun r=>some (y::r)else mG s t ge ds a
def fU(gi:aA->Option (List D))(s:D->aA->Option aA)(t:aA->Option Bool)(ge:aA->Option D)(inner:List (Option Nat)):aA->Option (List D):=
 fun b=>(gi b).bind fun c=>(mG s t ge c (fV inner b)).bind fun a=>if a.length<=1000 then some a else none
def fR(g:aA->Option (List D)):aA->Option D:=fun b=>(g b).bind fun a=>some (.list a)
def eT:aA->Option Bool:=fun _=>some true
def MI:Sl->Bool
 | .own _ | .ownD _ | .ownM _=>true
 | _=>false
def i4(ρ:aA):Prop:=∀(i:Nat) (s:Sl),MI s=true->ρ[i]?≠some s
def A4(s:D->aA->Option aA):Prop:=∀ d ρ ρ',i4 ρ->s d ρ=some ρ'->i4 ρ'
theorem BI(h:i4 ρ):i4 (ρ.set i (.dat d)):=fun j b a e=>by
 by_cases c:i=j
 ·subst c;by_cases l:i<ρ.length
  ·rw [Qx l]at e;cases e;cases a
  ·rw [Jz (by simpa using Ya l)]at e;cases e
 ·rw [Qq c]at e;exact h j b a e
theorem kC(i:Nat):A4 (bX i):=fun d b a h e=>by cases e;exact BI h
theorem mU(inner:List (Option Nat))(ρ:aA):i4 (fV inner ρ):=fun i ds a e=>by
 unfold fV at e;rw [QH]at e
 cases q:inner[i]? with
 | none=>rw [q]at e;cases e
 | some o=>
  rw [q]at e
  cases o with
  | none=>cases e;cases a
  | some j=>
   have b:(match ρ[j]? with | some (.dat d)=>Sl.dat d | _=>Sl.no)=ds:=QA e
   split at b <;> (subst b;cases a)
theorem Bt{K:PySem.W.Frag}{F:YP->Prop}{H:Hp}{p:YP}{vs us:List V}(c:H p=some (.lst vs))(d:¬ F p):bA K F F H (aJ H p (.lst us)):=
 ⟨fun _ h=>h,fun a e h=>by
  rcases h with(h | ⟨o,h⟩) | h
  ·exact .inl (.inl (by rw [aV (by intro z;subst z;rw [c]at h;cases h)];exact h))
  ·exact .inl (.inr ⟨o,by rw [aV (by intro z;subst z;rw [c]at h;cases h)];exact h⟩)
  ·exact .inr h,fun a e f h=>by
  have b:a≠p:=fun z=>d (by rw [<- z];exact f);rcases h with h | ⟨o,h⟩
  ·exact .inl (by rw [aV b];exact h)
  ·exact .inr ⟨o,by rw [aV b];exact h⟩,fun a g f h=>by rw [aV (fun z=>d (by rw [<- z];exact f))];exact h⟩
theorem aW.plain{K:PySem.W.Frag}{F g:YP->Prop}{H f H₀ b:Hp}{k:L2.St}{ρ:aA}(S:aW K F H H₀ k ρ)(pl:i4 ρ)(T:bA K F g H f)(z:∀ a,g a->f a≠none):aW K g f b k ρ:=
 ⟨S.len,fun i s h=>by
  obtain⟨o,q,w⟩:=S.sl i s h
  refine⟨o,q,?_⟩
  cases s with
  | no=>trivial
  | ownD c=>exact absurd h (pl i _ rfl)
  | ownM c=>exact absurd h (pl i _ rfl)
  | dat d=>obtain⟨v,e,r⟩:=w;exact⟨v,e,r.stay T⟩
  | own m=>exact absurd h (pl i _ rfl),fun i j a m n _ l=>absurd l (pl i _ rfl),z⟩
theorem aW.inner{K:PySem.W.Frag}{F:YP->Prop}{H H₀:Hp}{c:L2.St}{ρ:aA}(S:aW K F H H₀ c ρ)(inner:List (Option Nat)):aW K F H H₀ (iP inner c) (fV inner ρ):=
 ⟨by simp [iP,fV],fun i s h=>by
  unfold fV at h;unfold iP;rw [QH]at h ⊢
  cases q:inner[i]? with
  | none=>rw [q]at h;cases h
  | some o=>
   rw [q]at h
   cases o with
   | none=>cases h;exact⟨none,rfl,trivial⟩
   | some j=>
    have b:(match ρ[j]? with | some (.dat d)=>Sl.dat d | _=>Sl.no)=s:=QA h
    split at b
    ·rename_i d e;cases b;obtain⟨v,g,r⟩:=S.dat e
     exact⟨some v,by simp [g],v,rfl,r⟩
    ·cases b
     exact⟨_,rfl,trivial⟩,fun i j a l k _ f=>absurd f (mU inner ρ i _ rfl),S.fz⟩
def yM(X:Cx)(a:List Expr)(t:aA->Option Bool):Prop:=m7 X a (pJ X.K t)
theorem tZ:yM X [] eT:=fun a s e H Q I d=>by
 obtain⟨F,c,f,b,S,q,k⟩:=d;cases q;exact wpAny_tests_nil ⟨H,I,k F H (aH.refl F H)⟩
theorem t6(h:DT X c t):yM X [c] t:=BL h
section
variable {X:Cx}{elt tg iter:Expr}{ifs:List Expr}{scope:ZY}{pos:Pos}{N':List Str}{inner:List (Option Nat)}{gi:aA->Option (List D)}{s:D->aA->Option aA}{t:aA->Option Bool}{ge:aA->Option D}
structure Lo(X:Cx)(s:D->aA->Option aA)(t:aA->Option Bool)(ge:aA->Option D)(xs out:List D)(F1:YP->Prop)(H1:Hp)(D':YP)(i m:Nat)(σ':L2.St)(H':Hp)(F2:YP->Prop)(ρ2:aA)(vs:List V)(don rst:List D):Prop where
 em:m=xs.length-i
 hi:i<=xs.length
 E:aH F1 F2 H1 H'
 T:bA X.K F1 F2 H1 H'
 S:aW X.K F2 H' H1 σ' ρ2
 pl:i4 ρ2
 dD:H' D'=some (.lst vs)
 nf:¬ F2 D'
 rd:Reps X.K F2 H' don vs
 ec:mG s t ge (xs.drop i) ρ2=some rst
 eo:don++rst=out
 kp:∀ b o,b≠D'->H1 b=some o->H' b=some o
theorem R9(kp:A4 s)(S:aW X.K F H H₀ σ ρ)(q:fU gi s t ge inner ρ=some out)
  (fin:∀ F' H' D' vs,aH F F' H H'->bA X.K F F' H H'->H D'=none->H' D'=some (.lst vs)->¬ F' D'->Reps X.K F' H' out vs->aW X.K F' H' H₀ σ ρ->Q (.ref D') H'):
  oX (DV X.K gi) (Aj X.K s) (pJ X.K t) (tD X.K ge) inner σ H Q:=by
 obtain⟨g,e1,q⟩:=aE q;obtain⟨u,e2,q⟩:=aE q;by_cases hl:u.length<=1000
 ·rw [if_pos hl]at q;cases q
  refine⟨F,H₀,ρ,g,S,e1,fun M n J E1 I1 D' N=>?_⟩
  have S1:=S.ext E1
  refine⟨fun i m r H'=>∃ I j vs h k,Lo X s t ge g out M n D' i m r H' I j vs h k,?_,?_⟩
  ·have E2:aH M M n (aJ n D' (.lst [])):=aH.fresh N
   refine⟨g.length,M,fV inner ρ,[],[],out,rfl,QR _,E2,E2.stay,?_,mU inner ρ,cN,fun f=>S1.fz _ f N,.nil,e2,rfl,fun b o p e=>by rw [aV p];exact e⟩
   exact(S1.inner inner).plain (mU inner ρ) E2.stay (E2.fz S1.fz)
  ·rintro i m r H' ⟨I,j,vs,h,k,rfl,hi,E2,T2,S2,pl,E,Y,rd,a,B,w⟩;obtain⟨a0,Z⟩:=I1 I H' T2 S2.fz i;by_cases d:i<g.length
   ·right
    have z:g[i]?=some g[i]:=by simp [d]
    obtain⟨go,U⟩:=a0 _ z;rw [Q0 d]at a;obtain⟨c,e3,a⟩:=aE a;obtain⟨b,e4,a⟩:=aE a
    refine⟨go,fun x H3 y=>?_⟩
    obtain⟨F3,E3,R3⟩:=U x H3 y;have l:=kp _ _ _ pl e3
    refine⟨F3,n,j,g[i],c,S2.ext E3,R3,e3,fun a1 S5=>⟨F3,n,c,b,S5,e4,fun F6 H6 E6=>?_⟩⟩
    have S6:=S5.ext E6;have E36:=E3.trans E6;have d6:H6 D'=some (.lst vs):=E36.same _ _ E
    have W:¬ F6 D':=fun f=>by
     rcases E36.new _ f with f | ⟨f,_⟩
     ·exact Y f
     ·rw [E]at f;cases f
    cases b with
    | false=>
     simp only [Qp,if_false]at a ⊢
     exact⟨g.length-(i+1),by lia,F6,c,vs,h,k,rfl,d,E2.trans E36,T2.trans E36.stay,S6,l,d6,W,rd.stay E36.stay,a,B,fun b o p e=>E36.same _ _ (w b o p e)⟩
    | true=>
     simp only [if_true]at a ⊢;obtain⟨yd,e5,a⟩:=aE a;obtain⟨r',e6,a⟩:=aE a;cases a
     refine⟨F6,n,c,yd,S6,e5,fun G O T E7 R7=>?_⟩
     have E37:=E36.trans E7;have d7:O D'=some (.lst vs):=E37.same _ _ E
     have v:¬ G D':=fun f=>by
      rcases E37.new _ f with f | ⟨f,_⟩
      ·exact Y f
      ·rw [E]at f;cases f
     have T8:bA X.K G G O (aJ O D' (.lst (vs++[T]))):=Bt d7 v;have S7:=S6.ext E7;have E8:aH M G n (aJ O D' (.lst (vs++[T]))):=(E2.trans E37).turn N
     have ll:vs.length<1000:=by
      have h1:=rd.length;have h2:=congrArg ZO B;rw [Qm,Qo]at h2;lia
     refine⟨vs,d7,qH (Yr ll),g.length-(i+1),by lia,G,c,vs++[T],h++[yd],r',rfl,d,E8,(T2.trans E37.stay).trans T8,S7.plain l T8 (E8.fz S1.fz),l,cN,v,?_,e6,by rw [Qw];exact B,fun b o p e=>?_⟩
     ·exact((rd.stay E37.stay).append (.cons R7 .nil)).stay T8
     ·rw [aV p];exact E37.same _ _ (w b o p e)
   ·left
    have A:g.length<=i:=Ya d
    refine⟨Z A,?_⟩
    rw [YH A]at a;cases a;rw [QG]at B;subst B;have hH:H D'=none:=E1.same.free N;have EE:aH F I H H':=E1.trans E2;exact fin I H' D' vs EE (E1.stay.trans T2) hH E Y rd (S.ext EE)
 ·rw [if_neg hl]at q;cases q
theorem kA(n:X.calm=true)(y:kX X N' scope inner)(i:A4 s)(l:DI X tg iter gi)(m:∀ cl C fp s' H,DG (c8 X N' scope cl C fp s' H) tg s)(j:∀ cl C fp s' H,yM (c8 X N' scope cl C fp s' H) ifs t)(he:∀ cl C fp s' H,DE (c8 X N' scope cl C fp s' H) elt ge)
  (hs:∀ x,Zq iter X.env x=pure x:=by intro _;rfl):DE X (.ListComp elt [⟨tg,iter,ifs,0⟩] scope pos) (fR (fU gi s t ge inner)):=
 bT (BE (g:=Aj X.K s) (ti:=pJ X.K t) (te:=tD X.K ge) n y l (fun cl C fp s' H=>m cl C fp s' H) (fun cl C fp s' H=>j cl C fp s' H) (fun cl C fp s' H=>he cl C fp s' H) hs) fun z H Q e=>by
  obtain⟨F,c,A,d,S,q,k⟩:=e;obtain⟨h,r,q⟩:=aE q;cases q;refine R9 i S r fun v u w B E' I p b G o E=>?_;refine k (fun a=>v a ∨ a=w) u _ ⟨E'.same,fun a f=>.inl (E'.up a f),fun a f=>?_⟩ (.lst (.inl ⟨.inr rfl,.inl b⟩) (o.stay ⟨fun _ f=>.inl f,fun _ _ f=>f,fun _ _ _ f=>f,fun _ _ _ f=>f⟩));rcases f with f | rfl
  ·exact E'.new a f
  ·exact .inr ⟨p,by rw [b];simp⟩
end
end DL
namespace SD
open PySem.Spec PySem.SeqAt L2 DL SG
theorem pV:∀ a:List Int,HT.lexLt a a=false
 | []=>rfl
 | x::xs=>by rw [HT.lexLt_cons,if_pos rfl];exact pV xs
theorem x5:∀ a b c:List Int,HT.lexLt a b=true->HT.lexLt b c=true->HT.lexLt a c=true
 | [],b,[],h1,h2=>by cases b with | nil=>cases h1 | cons _ _=>cases h2
 | [],_,_::_,_,_=>rfl
 | _::_,[],_,h1,_=>by cases h1
 | _::_,_::_,[],_,h2=>by cases h2
 | x::xs,y::ys,z::zs,h1,h2=>by
  rw [HT.lexLt_cons]at h1 h2 ⊢;by_cases e:x=y
  ·subst e;rw [if_pos rfl]at h1;by_cases d:x=z
   ·subst d;rw [if_pos rfl]at h2 ⊢;exact x5 xs ys zs h1 h2
   ·rw [if_neg d]at h2 ⊢;exact h2
  ·rw [if_neg e]at h1;have f:x<y:=of_decide_eq_true h1;by_cases d:y=z
   ·subst d;rw [if_neg e];exact decide_eq_true f
   ·rw [if_neg d]at h2;have g:y<z:=of_decide_eq_true h2;rw [if_neg (by lia)];exact decide_eq_true (by lia)
theorem uG:∀ a b:List Int,HT.lexLt a b=false->HT.lexLt b a=false->a=b
 | [],[],_,_=>rfl
 | [],_::_,h1,_=>by cases h1
 | _::_,[],_,h2=>by cases h2
 | x::xs,y::ys,h1,h2=>by
  rw [HT.lexLt_cons]at h1 h2;by_cases c:x=y
  ·subst c;rw [if_pos rfl]at h1 h2;rw [uG xs ys h1 h2]
  ·rw [if_neg c]at h1;rw [if_neg (ZI c)]at h2;have e:¬ x<y:=of_decide_eq_false h1;have d:¬ y<x:=of_decide_eq_false h2;lia
theorem GG(a b c:List Int)(h:HT.lexLt a c=true):HT.lexLt a b=true ∨ HT.lexLt b c=true:=by
 cases e:HT.lexLt a b with
 | true=>exact .inl rfl
 | false=>
  right
  cases d:HT.lexLt b a with
  | false=>rw [<- uG a b e d];exact h
  | true=>exact x5 b a c d h
theorem Cb:∀(a b c d:List Int),a.length=b.length->HT.lexLt (a++c) (b++d)=if a=b then HT.lexLt c d else HT.lexLt a b
 | [],[],c,d,_=>by simp
 | [],_::_,_,_,h=>by simp at h
 | _::_,[],_,_,h=>by simp at h
 | x::xs,y::ys,c,d,h=>by
  rw [List.cons_append,List.cons_append,HT.lexLt_cons];have f:=Cb xs ys c d (by simpa using h);by_cases e:x=y
  ·subst e;rw [if_pos rfl,f,HT.lexLt_cons,if_pos rfl];simp
  ·rw [if_neg e,if_neg (by simp [e]),HT.lexLt_cons,if_neg e]
def r0(a:List (JS × List Int)):PyProof.Rows.KeyKind where
 α:=List Int
 blt:=HT.lexLt
 irrefl:=pV
 trans:=x5
 negTrans:=GG
 total:=uG
 keyOf:=fun v=>a.lookup v
 dflt:=[]
def iU:D->D->Bool
 | .int _,.int _=>true
 | .tuple xs,.tuple ys=>decide (xs.length=ys.length)
 | _,_=>false
def gZ:List D->List D->Bool
 | [],[]=>true
 | x::xs,y::ys=>iU x y && gZ xs ys
 | _,_=>false
def oM:D->Option (List Int)
 | .int i=>some [i]
 | .tuple a=>dJ a
 | _=>none
def i9:List D->Option (List Int)
 | []=>some []
 | d::ds=>(oM d).bind fun a=>(i9 ds).bind fun b=>some (a++b)
theorem V1(c:iU d x=true)(e:iU d y=true):iU x y=true:=by
 cases d with
 | int i=>
  cases x with
  | int _=>cases y with
   | int _=>rfl
   | _=>cases e
  | _=>cases c
 | tuple f=>
  cases x with
  | tuple h=>cases y with
   | tuple g=>
    have a:f.length=h.length:=of_decide_eq_true c;have b:f.length=g.length:=of_decide_eq_true e;exact decide_eq_true (a.symm.trans b)
   | _=>cases e
  | _=>cases c
 | _=>cases x <;> cases c
theorem x8:∀{d x y:List D},gZ d x=true->gZ d y=true->gZ x y=true
 | [],[],[],_,_=>rfl
 | [],[],_::_,_,h=>by cases h
 | [],_::_,_,h,_=>by cases h
 | _::_,[],_,h,_=>by cases h
 | _::_,_::_,[],_,h=>by cases h
 | d::ds,x::xs,y::ys,h1,h2=>by
  have a:=QN.mp h1;have b:=QN.mp h2;exact QN.mpr ⟨V1 a.1 b.1,x8 a.2 b.2⟩
theorem Hc:∀{xs ys:List D}{a b:List Int},dJ xs=some a->dJ ys=some b->Z1 xs ys=decide (a=b)
 | [],[],_,_,e,d=>by cases e;cases d;rfl
 | [],.int _::_,_,_,e,d=>by
  cases e;obtain⟨_,_,d⟩:=aE d;cases d
  simp [Z1]
 | .int _::_,[],_,_,e,d=>by
  cases d;obtain⟨_,_,e⟩:=aE e;cases e
  simp [Z1]
 | .int i::xs,.int j::ys,_,_,e,d=>by
  obtain⟨a,g,e⟩:=aE e;obtain⟨b,f,d⟩:=aE d
  cases e;cases d
  rw [Z1,Hc g f]
  simp [ZR]
  by_cases c:i=j <;> simp [c]
 | .none::_,_,_,_,e,_=>by cases e
 | .bool _::_,_,_,_,e,_=>by cases e
 | .str _::_,_,_,_,e,_=>by cases e
 | .list _::_,_,_,_,e,_=>by cases e
 | .tuple _::_,_,_,_,e,_=>by cases e
 | .dict _::_,_,_,_,e,_=>by cases e
 | _,.none::_,_,_,_,d=>by cases d
 | _,.bool _::_,_,_,_,d=>by cases d
 | _,.str _::_,_,_,_,d=>by cases d
 | _,.list _::_,_,_,_,d=>by cases d
 | _,.tuple _::_,_,_,_,d=>by cases d
 | _,.dict _::_,_,_,_,d=>by cases d
theorem mO:∀{xs:List D}{a:List Int},dJ xs=some a->Zl xs=true/\Zk xs=0/\xs.length=a.length/\xs=a.map J0
 | [],_,h=>by cases h;exact⟨rfl,rfl,rfl,rfl⟩
 | .int i::xs,_,h=>by
  obtain⟨a,e,h⟩:=aE h;cases h;obtain⟨f,d,c,b⟩:=mO e
  exact⟨by simp [Zl,Z3,f],by simp [Zk,UA,d],by simp [c],by rw [b];rfl⟩
 | .none::_,_,h=>by cases h
 | .bool _::_,_,h=>by cases h
 | .str _::_,_,h=>by cases h
 | .list _::_,_,h=>by cases h
 | .tuple _::_,_,h=>by cases h
 | .dict _::_,_,h=>by cases h
theorem B4:∀{xs:List D}{a:List Int}{us:List JS}{as:List YP},dJ xs=some a->ReadsAll h us xs as->Uu us a
 | [],_,_,_,e,r=>by cases e;cases r;exact .nil
 | .int i::xs,_,_,_,e,r=>by
  obtain⟨a,d,e⟩:=aE e;cases e
  cases r with
  | cons c b=>
   cases c;exact .cons i _ (B4 d b)
 | .none::_,_,_,_,h,_=>by cases h
 | .bool _::_,_,_,_,h,_=>by cases h
 | .str _::_,_,_,_,h,_=>by cases h
 | .list _::_,_,_,_,h,_=>by cases h
 | .tuple _::_,_,_,_,h,_=>by cases h
 | .dict _::_,_,_,_,h,_=>by cases h
section
variable {prog:JY}{w:J1}{A:Around}{E:JS->JT->Prop}{s:JT}
theorem Ft(l:iU x y=true)(g:oM x=some a)(f:oM y=some b):a.length=b.length:=by
 cases x with
 | int i=>cases y with
  | int j=>cases g;cases f;rfl
  | _=>cases l
 | tuple d=>cases y with
  | tuple c=>
   have e:d.length=c.length:=of_decide_eq_true l;rw [<- (mO (show dJ d=some a from g)).2.2.1,<- (mO (show dJ c=some b from f)).2.2.1,e]
  | _=>cases l
 | _=>cases y <;> cases l
theorem Mp(B:A.units+64<Zg)(h:Reads s.heap p x as)(g:Reads s.heap q y bs)(l:iU x y=true)(m:oM x=some a)(k:oM y=some b):EqAt A s p q (decide (a=b)):=by
 cases x with
 | int i=>cases y with
  | int j=>
   cases m;cases k
   cases h with
   | int _ t=>cases g with
    | int _ u=>
     have:=EqAt.int_int (A:=A) (s:=s) i t j u
     have e:(i == j)=decide ([i]=[j]):=by
      by_cases c:i=j
      ·subst c;simp
      ·simp [c]
     rw [<- e];exact this
  | _=>cases l
 | tuple f=>cases y with
  | tuple d=>
   have o:dJ f=some a:=m;have n:dJ d=some b:=k;obtain⟨z,v,_,_⟩:=mO o;obtain⟨w,r,_,_⟩:=mO n
   have:=eqAt_reads (.tuple f) (.tuple d) A s p q as bs h g z w (by show A.units+min (Zk f+1) (Zk d+1)<Zg;rw [v,r];lia)
   have e:ZR (.tuple f) (.tuple d)=decide (a=b):=by rw [ZR];exact Hc o n
   rw [e]at this;exact this
  | _=>cases l
 | _=>cases y <;> cases l
theorem Kb(h:Q b s):JW (JX prog w) A (truthOfDropped (.bool b)) Q E s:=by
 unfold truthOfDropped;exact Jd h
theorem Mq(N:A.units+64<Zg)(d:Reads s.heap p x as)(c:Reads s.heap q y bs)(l:iU x y=true)(h:oM x=some a)(g:oM y=some b)
  (t:f=true->∃ i,x=.int i) (k:Q (HT.lexLt a b) s) (o:a≠b):JW (JX prog w) A (oneLt' f p q) Q E s:=by
 cases x with
 | int i=>cases y with
  | int j=>
   cases h;cases g;cases d;cases c
   have e:HT.lexLt [i] [j]=decide (i<j):=by
    rw [HT.lexLt_cons,if_neg (by intro z;exact o (by rw [z]))]
   rw [e]at k
   cases f with
   | true=>exact oneLt_int k
   | false=>
    rw [oneLt'_eq];simp only [Qp,if_false];refine Qa (HT.rcLt_int A s i _ j _ prog w E _ (Kb k))
  | _=>cases l
 | tuple n=>
  cases f with
  | true=>obtain⟨i,r⟩:=t rfl;cases r
  | false=>cases y with
   | tuple m=>
    have M:dJ n=some a:=h;have K:dJ m=some b:=g
    cases d with
    | tuple F B v u=>cases c with
     | tuple J I H G=>
      rw [oneLt'_eq];simp only [Qp,if_false];exact Qa (HT.lt_tupInts ⟨_,F,B,_,v⟩ ⟨_,J,I,_,H⟩ (B4 M u) (B4 K G) (by lia) (Kb k))
   | _=>cases l
 | _=>cases y <;> cases l
theorem Ib(k:A.units+64<Zg):∀{xs ys:List D}{a c:List Int}{us vs:List JS}{as bs:List YP} (i:Nat),gZ xs ys=true->i9 xs=some a->i9 ys=some c->ReadsAll s.heap us xs as->ReadsAll s.heap vs ys bs->
  (b=true->i=0->∀ x r,xs=x::r->∃ n,x=.int n)->(a=c->Q fin s)->(a≠c->Q (HT.lexLt a c) s)->PySem.W.KatLex prog w A b fin Q (us.zip vs) i s
 | [],[],_,_,_,_,_,_,i,_,g,f,r1,r2,_,k1,k2=>by
  cases g;cases f;cases r1;cases r2
  exact PySem.W.kat_nil (k1 rfl)
 | [],_::_,_,_,_,_,_,_,_,l,_,_,_,_,_,_,_=>by cases l
 | _::_,[],_,_,_,_,_,_,_,l,_,_,_,_,_,_,_=>by cases l
 | x::xs,y::ys,_,_,_,_,_,_,i,l,g,f,r1,r2,hb,k1,k2=>by
  obtain⟨u,o,g⟩:=aE g;obtain⟨M,K,g⟩:=aE g;cases g;obtain⟨t,m,f⟩:=aE f;obtain⟨c2,J,f⟩:=aE f;cases f;obtain⟨j,F⟩:=QN.mp l;have d:=Ft j o m
  cases r1 with
  | cons q B=>cases r2 with
   | cons p v=>
    rw [Ul];refine PySem.W.kat_cons (Mp k q p j o m prog w _ _ ?_);by_cases c:u=t
    ·rw [decide_eq_true c];subst c;refine PySem.W.kat_yes (Ib k (i+1) F K J B v (fun _ h=>by lia) (fun e=>k1 (by rw [e])) fun e=>?_)
     have:=k2 (fun z=>e (List.append_cancel_left z))
     rw [Cb _ _ _ _ rfl,if_pos rfl]at this;exact this
    ·rw [decide_eq_false c];refine PySem.W.kat_no (Mq k q p j o m (fun G=>?_) ?_ c)
     ·obtain⟨I,H⟩:=QN.mp G;exact hb I (by simpa using H) x xs rfl
     ·have E:u++M≠t++c2:=fun z=>c (List.append_inj_left z d)
      have:=k2 E
      rw [Cb _ _ _ _ d,if_neg c]at this;exact this
theorem Cd{a:Type}{f:JS->Sem a}{g:JS->a}:∀{vs:List JS}{Q:List a->JT->Prop},(∀ v∈vs,∀(R:a->JT->Prop),R (g v) s->JW (JX prog w) A (f v) R E s)->Q (vs.map g) s->JW (JX prog w) A (vs.mapM f) Q E s
 | [],_,_,k=>by rw [List.mapM_nil];exact Qb k
 | v::vs,Q,h,k=>by
  rw [List.mapM_cons];refine Qa (h v Qh _ (Qa (Cd (fun u b=>h u (Qg _ b)) (Qb k))))
def isInt:D->Bool
 | .int _=>true
 | _=>false
def jM(h:Heap):JS->Option JS
 | .ref a=>match h.get? a with
  | some o=>match o.data with
   | .seq b _=>b[0]?
   | _=>none
  | none=>none
 | _=>none
def pK:JS->JS
 | .ref _=>.type "tuple"
 | _=>.type "int"
theorem Ti(v:JS):firstOfTuple' v=(typeOf v >>= fun t=>if(t != .type "tuple")=true then pure none else Builtin.List.listItems v >>= fun xs=>pure xs[0]?):=by
 unfold firstOfTuple';rfl
theorem Su{vs:List JS}{m:Bool}{d:D}(N:isInt d=m)(O:∀ v∈vs,∃ x xs as,Reads s.heap v (.tuple (x::xs)) as/\iU d x=true)(K:vs≠[]):
  JW (JX prog w) A (keyKind' vs.toArray) (fun q s'=>q=tuples' m/\s'=s) E s:=by
 rw [keyKind'_eq,List.mapM_toArray,map_eq_pure_bind];refine Qa (Qa (Cd (g:=fun v=>jM s.heap v) (fun v c R B=>?_) (Qb ?_)))
 ·obtain⟨x,xs,as,r,_⟩:=O v c
  cases r with
  | @tuple a o us n _ _ f I F H=>
   rw [Ti];refine Qa (YO (T:="tuple") ⟨o,f,I⟩ ?_)
   have e:(ZW "tuple" != ZW "tuple")=false:=by simp
   rw [if_neg (by rw [e];simp)];refine Qa (listItems_at f F (Qb ?_))
   have G:jM s.heap (.ref a)=us[0]?:=by
    show(match s.heap.get? a with | some o=>(match o.data with | .seq xs _=>xs[0]? | _=>none) | none=>none)=us[0]?
    rw [f]
    show(match o.data with | .seq xs _=>xs[0]? | _=>none)=us[0]?
    rw [F]
   rw [G]at B;exact B
 ·have h:∀ v∈vs,∃ u x as,jM s.heap v=some u/\Reads s.heap u x as/\iU d x=true:=fun v c=>by
   obtain⟨x,xs,as,r,l⟩:=O v c
   cases r with
   | @tuple a o us n _ _ f I F H=>
    have G:jM s.heap (.ref a)=us[0]?:=by
     show(match s.heap.get? a with | some o=>(match o.data with | .seq xs _=>xs[0]? | _=>none) | none=>none)=us[0]?
     rw [f]
     show(match o.data with | .seq xs _=>xs[0]? | _=>none)=us[0]?
     rw [F]
    generalize hl:us.toList=ul at H
    cases H with
    | @cons u vs' _ _ as' bs' r1 r2=>
     refine⟨u,x,as',?_,r1,l⟩
     rw [G,<- QL,hl];rfl
  have ty:∀ u x as,Reads s.heap u x as->iU d x=true->pK u=(if m=true then .type "int" else .type "tuple")/\∀(R:JS->JT->Prop),R (pK u) s->JW (JX prog w) A (typeOf u) R E s:=fun u x as r l=>by
   cases d with
   | int i=>
    cases x with
    | int j=>cases r;cases N;exact⟨rfl,fun R k=>YO (T:="int") (typeIs_int s _ _) k⟩
    | _=>cases l
   | tuple ds=>
    cases x with
    | tuple xs=>
     cases r with
     | tuple f I F H=>cases N;exact⟨rfl,fun R k=>YO (T:="tuple") ⟨_,f,I⟩ k⟩
    | _=>cases l
   | _=>cases x <;> cases l
  have all:((vs.map fun v=>jM s.heap v).toArray.all fun x=>x.isSome)=true:=by
   rw [List.all_toArray,List.all_map,QT];intro v c;obtain⟨u,x,as,e,_⟩:=h v c
   simp [e]
  rw [if_pos all];refine Qa (UK (Qa ?_));rw [oneTypeOnly'_eq]
  have Z:((vs.map fun v=>jM s.heap v).toArray.filterMap id)=(vs.filterMap fun v=>jM s.heap v).toArray:=by
   rw [List.filterMap_toArray,List.filterMap_map];rfl
  rw [Z,List.mapM_toArray,map_eq_pure_bind]
  have y:∀ u∈vs.filterMap (fun v=>jM s.heap v),∃ x as,Reads s.heap u x as/\iU d x=true:=fun u z=>by
   obtain⟨v,c,e⟩:=List.mem_filterMap.mp z;obtain⟨u',x,as,Q,r,l⟩:=h v c;rw [e]at Q;cases Q
   exact⟨x,as,r,l⟩
  refine Qa (Qa (Cd (g:=pK) (fun u z R k=>?_) (Qb ?_)))
  ·obtain⟨x,as,r,l⟩:=y u z
   exact(ty u x as r l).2 R k
  ·obtain⟨p,vs',rfl⟩:∃ p vs',vs=p::vs':=by
    cases vs with
    | nil=>exact absurd rfl K
    | cons a b=>exact⟨a,b,rfl⟩
   obtain⟨U,S,M,e0,W,X⟩:=h p Qh
   have Y:∀ t∈((p::vs').filterMap (fun v=>jM s.heap v)).map pK,t=(if m=true then .type "int" else .type "tuple"):=fun t J=>by
    obtain⟨u,z,rfl⟩:=QO.mp J;obtain⟨x,as,r,l⟩:=y u z
    exact(ty u x as r l).1
   have e1:(((p::vs').filterMap (fun v=>jM s.heap v)).map pK).toArray[0]?=some (if m=true then .type "int" else .type "tuple"):=by
    rw [YK,e0];simp only [Qk];rw [(ty U S M W X).1];rfl
   rw [e1]
   have G:((((p::vs').filterMap (fun v=>jM s.heap v)).map pK).toArray.all fun x=>x == (if m=true then .type "int" else .type "tuple"))=true:=by
    rw [List.all_toArray,QT];intro t J;rw [Y t J];simp
   dsimp only;rw [if_pos G];refine Qb (Qb ⟨?_,rfl⟩)
   cases m <;> rfl
end
end SD
namespace SD
open PySem.Spec PySem.SeqAt L2 DL SG
abbrev KD:=List Int × D
def lX(d0:List D):D->Option (List Int)
 | .tuple (x::xs)=>if gZ d0 (x::xs)=true then i9 (x::xs)else none
 | _=>none
def gE(d0:List D):List D->Option (List KD)
 | []=>some []
 | d::ds=>(lX d0 d).bind fun k=>(gE d0 ds).bind fun r=>some ((k,d)::r)
def jW(p:KD):List KD->List KD
 | []=>[p]
 | q::r=>if HT.lexLt q.1 p.1=true then q::jW p r else p::q::r
def fY:List KD->List KD
 | []=>[]
 | p::r=>jW p (fY r)
def k6:List D->Option D
 | [.list []]=>some (.list [])
 | [.list (.tuple d0::ds)]=>if ds.length<63 then(gE d0 (.tuple d0::ds)).bind fun l=>some (.list ((fY l).map (·.2)))else none
 | _=>none
def Le(p q:KD):Prop:=HT.lexLt q.1 p.1=false
theorem Le.trans{p q r:KD}(a:Le p q)(b:Le q r):Le p r:=by
 unfold Le at *
 cases e:HT.lexLt r.1 p.1 with
 | false=>rfl
 | true=>
  rcases GG _ q.1 _ e with h | h
  ·rw [b]at h;cases h
  ·rw [a]at h;cases h
theorem B3(p:KD):∀ l:List KD,(jW p l).Perm (p::l)
 | []=>.refl _
 | q::r=>by
  unfold jW;split
  ·exact((B3 p r).cons q).trans (.swap p q r)
  ·exact .refl _
theorem qI:∀ l:List KD,(fY l).Perm l
 | []=>.refl _
 | p::r=>(B3 p (fY r)).trans ((qI r).cons p)
theorem Ha(p:KD):∀ l:List KD,l.Pairwise Le->(jW p l).Pairwise Le
 | [],_=>by simp [jW]
 | q::r,h=>by
  obtain⟨d,f⟩:=Yg.mp h;unfold jW;split
  ·rename_i c;refine Yg.mpr ⟨fun z a=>?_,Ha p r f⟩;rcases Ql.mp ((B3 p r).mem_iff.mp a)with e | e
   ·subst e;unfold Le
    cases g:HT.lexLt z.1 q.1 with
    | false=>rfl
    | true=>have:=x5 _ _ _ c g;rw [pV]at this;cases this
   ·exact d z e
  ·rename_i c
   have b:Le p q:=by simpa [Le]using c
   refine Yg.mpr ⟨fun z a=>?_,h⟩;rcases Ql.mp a with e | e
   ·rw [e];exact b
   ·exact b.trans (d z e)
theorem tG:∀ l:List KD,(fY l).Pairwise Le
 | []=>.nil
 | p::r=>Ha p _ (tG r)
theorem Bq:∀{a b:List KD},a.Perm b->a.Pairwise Le->b.Pairwise Le->(∀ p∈a,∀ q∈a,p.1=q.1->p=q)->a=b
 | [],b,h,_,_,_=>h.nil_eq
 | x::r,[],h,_,_,_=>absurd h.length_eq (by simp)
 | x::r,y::t,h,ha,hb,inj=>by
  have d:y∈x::r:=h.mem_iff.mpr Qh;have f:x∈y::t:=h.mem_iff.mp Qh
  have e:x=y:=by
   refine inj x Qh y d (uG _ _ ?_ ?_)
   ·rcases Ql.mp f with c | c
    ·rw [c];exact pV _
    ·exact(Yg.mp hb).1 x c
   ·rcases Ql.mp d with c | c
    ·rw [c];exact pV _
    ·exact(Yg.mp ha).1 y c
  subst e;rw [Bq h.cons_inv (Yg.mp ha).2 (Yg.mp hb).2 fun p i q g=>inj p (Qg _ i) q (Qg _ g)]
theorem Wy{c i:Type}{f:c->i}{a b:List i}(h:a.Perm b):∀ l:List c,l.map f=a->∃ l':List c,l'.Perm l/\l'.map f=b:=by
 induction h with
 | nil=>intro l e;exact⟨l,.refl _,e⟩
 | cons x _ t=>
  intro l e
  cases l with
  | nil=>cases e
  | cons y l=>
   rw [Qk]at e
   injection e with e1 e2
   obtain⟨l',p,q⟩:=t l e2
   exact⟨y::l',p.cons y,by rw [Qk,e1,q]⟩
 | swap x y r=>
  intro l e
  match l,e with
  | a::b::l,e=>
   rw [Qk,Qk]at e
   injection e with e1 e2
   injection e2 with e2 e3
   exact⟨b::a::l,.swap a b l,by rw [Qk,Qk,e1,e2,e3]⟩
 | trans _ _ g d=>
  intro l e;obtain⟨s,n,k⟩:=g l e;obtain⟨o,m,j⟩:=d s k
  exact⟨o,m.trans n,j⟩
theorem Fr:∀{xs ys:List D}{a:List Int},gZ xs ys=true->i9 xs=some a->i9 ys=some a->xs=ys
 | [],[],_,_,_,_=>rfl
 | [],_::_,_,l,_,_=>by cases l
 | _::_,[],_,l,_,_=>by cases l
 | x::xs,y::ys,a,l,c,b=>by
  obtain⟨g,f,c⟩:=aE c;obtain⟨u,s,c⟩:=aE c;obtain⟨t,e,b⟩:=aE b;obtain⟨c2,r,b⟩:=aE b;obtain⟨d,m⟩:=QN.mp l;have n:=Ft d f e;have q:g++u=t++c2:=(QA c).trans (QA b).symm;obtain⟨p,o⟩:=List.append_inj q n;subst p o;rw [Fr m s r];congr 1
  cases x with
  | int i=>cases y with
   | int j=>cases f;cases e;rfl
   | _=>cases d
  | tuple k=>cases y with
   | tuple h=>rw [(mO (show dJ k=some g from f)).2.2.2,(mO (show dJ h=some g from e)).2.2.2]
   | _=>cases d
  | _=>cases y <;> cases d
theorem AO:∀{xs:List D}{a:List Int},i9 xs=some a->Zl xs=true
 | [],_,_=>rfl
 | x::xs,a,f=>by
  obtain⟨h,b,f⟩:=aE f;obtain⟨j,g,f⟩:=aE f;have d:=AO g
  have e:Z3 x=true:=by
   cases x with
   | int i=>rfl
   | tuple c=>exact(mO (show dJ c=some h from b)).1
   | _=>cases b
  simp [Zl,e,d]
theorem nX{d0:List D}{d:D}{k:List Int}(h:lX d0 d=some k):∃ x xs,d=.tuple (x::xs)/\gZ d0 (x::xs)=true/\i9 (x::xs)=some k:=by
 cases d with
 | tuple b=>
  cases b with
  | nil=>cases h
  | cons x xs=>
   have a:(if gZ d0 (x::xs)=true then i9 (x::xs)else none)=some k:=h;by_cases c:gZ d0 (x::xs)=true
   ·rw [if_pos c]at a;exact⟨x,xs,rfl,c,a⟩
   ·rw [if_neg c]at a;cases a
 | _=>cases h
theorem nW{d0:List D}{d e:D}{k:List Int}(f:lX d0 d=some k)(c:lX d0 e=some k):d=e:=by
 obtain⟨x,j,rfl,b,h⟩:=nX f;obtain⟨y,i,rfl,a,g⟩:=nX c;rw [Fr (x8 b a) h g]
theorem BS{d0:List D}:∀{ds:List D}{l:List KD},gE d0 ds=some l->l.map (·.2)=ds/\∀ p∈l,lX d0 p.2=some p.1
 | [],_,h=>by cases h;exact⟨rfl,fun p a=>nomatch a⟩
 | d::ds,_,h=>by
  obtain⟨k,g,h⟩:=aE h;obtain⟨r,f,h⟩:=aE h;cases h;obtain⟨c,b⟩:=BS f
  refine⟨by rw [Qk,c],fun p a=>?_⟩
  rcases Ql.mp a with e | e
  ·rw [e];exact g
  ·exact b p e
abbrev Tr:=KD × V × JS
section
variable {X:Cx}{pins:List (YP × Obj)}{σ:L2.St}{H:Hp}{s:JT}{F:YP->Prop}
theorem Lf{K:PySem.W.Frag}:∀{l:List KD}{vs:List V}{us:List JS},Reps K F H (l.map (·.2)) vs->L2.Vals vs us->∃ T:List Tr,T.map (·.1)=l/\T.map (·.2.1)=vs/\T.map (·.2.2)=us/\∀ t∈T,aM K F H t.1.2 t.2.1/\L2.RelV t.2.1 t.2.2
 | [],_,_,r,v=>by cases r;cases v;exact⟨[],rfl,rfl,rfl,fun t a=>nomatch a⟩
 | p::l,_,_,r,v=>by
  cases r with
  | cons f d=>cases v with
   | cons c b=>
    obtain⟨T,j,i,h,g⟩:=Lf (l:=l) d b
    refine⟨(p,_,_)::T,by rw [Qk,j],by rw [Qk,i],by rw [Qk,h],fun t a=>?_⟩
    rcases Ql.mp a with e | e
    ·rw [e];exact⟨f,c⟩
    ·exact g t e
theorem Ka{K:PySem.W.Frag}:∀{T:List Tr},(∀ t∈T,aM K F H t.1.2 t.2.1/\L2.RelV t.2.1 t.2.2)->Reps K F H (T.map (·.1.2)) (T.map (·.2.1))/\L2.Vals (T.map (·.2.1)) (T.map (·.2.2))
 | [],_=>⟨.nil,.nil⟩
 | t::T,h=>by
  obtain⟨c,b⟩:=h t Qh;obtain⟨e,d⟩:=Ka fun u a=>h u (Qg _ a)
  exact⟨.cons c e,.cons b d⟩
theorem wD:∀{T:List Tr}{v:JS}{k:List Int},(T.map fun t=>(t.2.2,t.1.1)).lookup v=some k->∃ t∈T,t.2.2=v/\t.1.1=k
 | [],_,_,h=>by cases h
 | t::T,v,k,h=>by
  rw [Qk,QQ]at h
  cases e:v == t.2.2 with
  | true=>rw [e]at h;cases h;exact⟨t,Qh,(Yp e).symm,rfl⟩
  | false=>
   rw [e]at h;obtain⟨u,a,c,b⟩:=wD h
   exact⟨u,Qg _ a,c,b⟩
theorem KY:∀{T:List Tr}{t:Tr},t∈T->∃ k,(T.map fun t=>(t.2.2,t.1.1)).lookup t.2.2=some k:=by
 intro T
 induction T with
 | nil=>intro t h;cases h
 | cons u T a=>
  intro t h;rw [Qk,QQ]
  cases e:t.2.2 == u.2.2 with
  | true=>exact⟨_,rfl⟩
  | false=>
   rcases Ql.mp h with z | z
   ·rw [z,beq_self_eq_true]at e;cases e
   ·exact a z
theorem HK{d0:List D}{its:List JS}{ds:List D}{vs:List V}{l:List KD}{Q:VK}(hu:X.A.units+66<Zg)(I:L2.Inv X pins σ H s)(rv:L2.Vals vs its)(r:Reps X.K F H ds vs)(hk:gE d0 ds=some l)(b5:ds.length<64)
  (k:∀ p vs',H p=none->Reps X.K F H ((fY l).map (·.2)) vs'->vs'.length<=1000->Q (.ref p) (aJ H p (.lst vs'))):JW (JX X.prog X.w) X.A.in1 (newList its >>= fun l=>Uh [l] (call (.builtin "list.sort") [l] []) >>= fun _=>ret l) (fun fin s'=>∃ v,fin=.done (.ret v)/\EP X pins σ Q v s') X.xe s:=by
 obtain⟨em,a5⟩:=BS hk;obtain⟨T,t1,t2,t3,t4⟩:=Lf (K:=X.K) (F:=F) (H:=H) (l:=l) (by rw [em];exact r) rv;have c:∀ t∈T,lX d0 t.1.2=some t.1.1:=fun t f=>a5 t.1 (by rw [<- t1];exact JI f)
 have b1:its.length<64:=by rw [<- rv.length,<- r.length];exact b5
 have all:KeysOf (r0 (T.map fun t=>(t.2.2,t.1.1))) (Vd its):=fun p hp=>by
  rw [pairsOf_toList]at hp
  have:p.1∈its:=(UV hp).1
  rw [<- t3]at this;obtain⟨t,f,e⟩:=QO.mp this;rw [<- e];exact KY f
 have rd:∀ t∈T,∀ g:Heap,(∀ b o,s.heap.get? b=some o->g.get? b=some o)->∃ as,Reads g t.2.2 t.1.2 as:=fun t f g B=>by
  obtain⟨y,ys,y1,_,y2⟩:=nX (c t f);obtain⟨as,z⟩:=(t4 t f).1.reads I (by rw [y1];exact AO y2) (t4 t f).2
  exact⟨as,Reads.keeps B z⟩
 have a0:∀ t∈T,∀ u∈T,t.2.2=u.2.2->t.1.1=u.1.1:=fun t f u E e=>by
  obtain⟨as,Z⟩:=rd t f s.heap fun _ _ q=>q;obtain⟨bs,z2⟩:=rd u E s.heap fun _ _ q=>q;obtain⟨x,xs,O,_,f1⟩:=nX (c t f);rw [e]at Z;have Y:t.1.2=u.1.2:=Reads.unique t.1.2 u.1.2 u.2.2 as bs (by rw [O];exact AO f1) Z z2;have N:=c t f;have M:=c u E;rw [Y,M]at N
  exact(QA N).symm
 refine Qa (wpAny_newList ?_ (hsz:=?_))
 rotate_left
 ·exact fW (by lia)
 show JW _ _ _ _ _ { s with heap:=s.heap.push (Ux "list" its.toArray 0) }
 have hL:(s.heap.push (Ux "list" its.toArray 0)).get? s.heap.objs.size=some (Ux "list" its.toArray 0):=Qu _ rfl
 have kp:∀ g:Heap,(∀ b o,b≠s.heap.objs.size->(s.heap.push (Ux "list" its.toArray 0)).get? b=some o->g.get? b=some o)->∀ b o,s.heap.get? b=some o->g.get? b=some o:=fun g B b o e=>
  B b o (QB (Qs e)) (Qf _ e)
 refine Qa (Q6 (Yi slot_list_sort ⟨_,hL,rfl⟩ entry_list_sort (XL (κ:=r0 (T.map fun t=>(t.2.2,t.1.1))) (kd:=tuples' (isInt (d0.headD .none))) hL all b1 (fun g B M=>?_) (fun g B=>?_) fun G p1 p2=>⟨_,rfl,Qb ⟨_,rfl,?_⟩⟩) (args_list_sort _)))
 ·
  refine Su (s:={ s with heap:=g }) (d:=d0.headD .none) rfl (fun v hv=>?_) (fun e=>by rw [e]at M;simp at M);rw [<- t3]at hv;obtain⟨t,f,e⟩:=QO.mp hv;obtain⟨x,xs,O,S,f1⟩:=nX (c t f);obtain⟨as,z⟩:=rd t f g (kp g B);rw [O]at z
  refine⟨x,xs,as,by rw [<- e];exact z,?_⟩
  cases d0 with
  | nil=>cases S
  | cons y ys=>exact(QN.mp S).1
 ·
  intro x y ka kb E' Q' N M U;obtain⟨t,f,O,g1⟩:=wD N;obtain⟨u,E,Y,g2⟩:=wD M;obtain⟨x1,b8,e3,S,f1⟩:=nX (c t f);obtain⟨y1,b6,e4,l2,f2⟩:=nX (c u E);obtain⟨as,Z⟩:=rd t f g (kp g B);obtain⟨bs,z2⟩:=rd u E g (kp g B);rw [e3,O]at Z;rw [e4,Y]at z2;rw [g1]at f1;rw [g2]at f2
  cases Z with
  | @tuple ax ox us n _ _ q1 q2 q3 q4=>cases z2 with
   | @tuple ay oy ws m _ _ w1 w2 w3 w4=>
    have ll:us.size=ws.size:=by
     have a1:=ReadsAll.length _ _ _ q4;have a2:=ReadsAll.length _ _ _ w4
     have a3:∀(p q:List D),gZ p q=true->p.length=q.length:=by
      intro p
      induction p with
      | nil=>intro q J;cases q with
       | nil=>rfl
       | cons _ _=>cases J
      | cons p0 p ih=>intro q J;cases q with
       | nil=>cases J
       | cons q0 q=>simp [ih q (QN.mp J).2]
     have a4:=a3 _ _ (x8 S l2);rw [Qt]at a1 a2;lia
    have ef:decide (us.size<ws.size)=false:=by rw [ll];simp
    refine PySem.W.kat_lt (s:={ s with heap:=g }) q1 q3 w1 w3 ?_;rw [ef];refine Ib (s:={ s with heap:=g }) (show X.A.in1.in1.units+64<Zg by show X.A.units+1+1+64<Zg;lia) 0 (x8 S l2) f1 f2 q4 w4 (fun hb _ z r' ez=>?_) (fun e=>?_) fun _=>U
    ·cases ez
     cases d0 with
     | nil=>cases S
     | cons y0 b7=>
      have l3:=(QN.mp S).1
      cases y0 with
      | int n=>cases x1 with
       | int m=>exact⟨m,rfl⟩
       | _=>cases l3
      | _=>cases hb
    ·have e5:HT.lexLt ka kb=false:=by rw [e];exact pV _
     have:(r0 (T.map fun t=>(t.2.2,t.1.1))).blt ka kb=false:=e5
     rw [this]at U;exact U
 ·
  have pm:(((J3 G).map (·.2)).toList).Perm its:=by
   have N:=Array.perm_iff_toList_perm.mp p1;have M:=N.map (·.2);rw [pairsOf_toList]at M;rw [Array.toList_map]
   have h3:(its.zip its).map (·.2)=its:=by
    rw [List.map_snd_zip];exact Qj _
   rw [h3]at M;exact M
  obtain⟨T',q1,q2⟩:=Wy pm.symm T t3;have h:∀ t∈T',t∈T:=fun t f=>q1.mem_iff.mp f;obtain⟨g1,g2⟩:=Ka (K:=X.K) (F:=F) (H:=H) (T:=T') fun t f=>t4 t (h t f)
  have lT:T'.length=its.length:=by rw [q1.length_eq,<- t3,Qd]
  have a9:(T'.map (·.1)).Pairwise Le:=by
   rw [Yb,List.pairwise_iff_getElem];intro i j hi hj b3
   have a8:(J3 G).size=T'.length:=by
    rw [p1.size_eq,JF,lT]
   have key:∀ m (hm:m<T'.length),KK (r0 (T.map fun t=>(t.2.2,t.1.1))) (J3 G) m=T'[m].1.1:=fun m hm=>by
    have b2:m<(J3 G).size:=by rw [a8];exact hm
    have O:(J3 G)[m]?=some (J3 G)[m]:=getElem?_pos _ m b2;have Y:(J3 G)[m]∈(Vd its).toList:=(Array.perm_iff_toList_perm.mp p1).mem_iff.mp (by simp);rw [pairsOf_toList]at Y
    have e3:(J3 G)[m].1=(J3 G)[m].2:=by
     obtain⟨n,hn,en⟩:=List.getElem_of_mem Y;rw [List.getElem_zip]at en;rw [<- en]
    have e4:(J3 G)[m].2=T'[m].2.2:=by
     have:=congrArg (fun(l:List JS)=>l[m]?) q2
     simp only [QH,Array.toList_map,QL,O]at this;rw [Qi hm]at this
     exact(QA this).symm
    unfold KK;rw [O]
    show((r0 (T.map fun t=>(t.2.2,t.1.1))).keyOf (J3 G)[m].1).getD []=_
    rw [e3,e4];obtain⟨kx,a6⟩:=KY (h T'[m] (Ys hm));obtain⟨t,f,e5,e6⟩:=wD a6
    show((T.map fun t=>(t.2.2,t.1.1)).lookup T'[m].2.2).getD []=_
    rw [a6]
    show kx=_
    rw [<- e6];exact a0 t f _ (h _ (Ys hm)) e5
   have:=p2 i j (Yr b3) (by rw [JF,<- lT];exact hj)
   rw [key i hi,key j hj]at this;exact this
  have a7:T'.map (·.1)=fY l:=by
   refine Bq (((q1.map (·.1)).trans (.of_eq t1)).trans (qI l).symm) a9 (tG l) fun p hp q J e=>?_;obtain⟨t,f,rfl⟩:=QO.mp hp;obtain⟨u,E,rfl⟩:=QO.mp J;have N:=c t (h t f);have M:=c u (h u E);rw [e]at N;exact Jf e (nW N M)
  have eD:(fY l).map (·.2)=T'.map (·.1.2):=by rw [<- a7,Q3];rfl
  have fresh:H s.heap.objs.size=none:=I.hok.fresh (Qj _);obtain⟨ep,b4⟩:=sortedHeap_at (out:=(J3 G).map (·.2)) hL
  have b0:∀ b o,s.heap.get? b=some o->(sortedHeap (s.heap.push (Ux "list" its.toArray 0)) s.heap.objs.size its ((J3 G).map (·.2))).get? b=some o:=fun b o e=>by
   have lt:=Qs e;rw [sortedHeap_old (QB lt) (by rw [size_push'];exact Nat.lt_succ_of_lt lt)];exact Qf _ e
  have lv:(T'.map (·.2.1)).length<=1000:=by rw [Qd,lT];lia
  refine⟨.ref s.heap.objs.size,_,I.laid (t':=s.toks) (o:=.lst (T'.map (·.2.1))) b0 (Qj _) ?_,rfl,k _ _ fresh (by rw [eD];exact g1) lv⟩
  refine⟨fW lv,T'.map (·.2.2),ep,g2,?_⟩
  rw [b4,q2]
theorem tH{d0:List D}{a:YP}{ds:List D}{vs:List V}{l:List KD}{Q:VK}(i:X.A.units+66<Zg)(I:L2.Inv X pins σ H s)(j:bY X.K H a vs)(r:Reps X.K F H ds vs)(n:gE d0 ds=some l)(d:ds.length<64)
  (k:∀ p vs',H p=none->Reps X.K F H ((fY l).map (·.2)) vs'->vs'.length<=1000->Q (.ref p) (aJ H p (.lst vs'))):JW (JX X.prog X.w) X.A (call (.builtin "sorted") [.ref a]) (EP X pins σ Q) X.xe s:=by
 obtain⟨c,f,g,h⟩:=I.list j;refine Calls.call_function_entry kind_sorted plain_sorted entry_sorted (args_sorted1 _) ?_;unfold Builtin.«sorted»;refine Qa (m:=checkCount "sorted" 1 1 _) (Qb (Qa (collect_list g.isList ?_ (hsz:=?_))))
 ·refine HK i (I.kept (h':=(s.heap.push (Ux "list" #[] 0)).update s.heap.objs.size (Um (·++c.toArray))) (t':=s.toks) fun b o e=>?_) f r n d k;rw [Heap.get?_update_ne _ _ _ _ (QB (Qs e))];exact Qf _ e
 ·rw [<- f.length];exact h
end
end SD
namespace DL
open PySem.Spec L2 SD
theorem EJ{X:Cx}(n:X.A.units+66<Zg):dA X (.builtin "sorted") (iR X.K k6):=fun m s t H v w Q I j o=>by
 obtain⟨F,x,q,z,R,b,k⟩:=o;unfold k6 at b
 split at b
 ·cases b
  cases R with
  | cons i R2=>
   cases R2
   cases i with
   | @lst a vs _ h1 r1=>
    obtain⟨u,rfl,f⟩:=jQ j;cases f;exact tH (d0:=[]) (l:=[]) n I h1.sq r1 rfl (by simp) fun p e d g _=>k _ _ _ (aH.frozen d) (aM.newLst d g)
 ·rename_i d0 h;by_cases c:h.length<63
  ·rw [if_pos c]at b;obtain⟨l,r,b⟩:=aE b;cases b
   cases R with
   | cons i R2=>
    cases R2
    cases i with
    | @lst a vs _ h1 r1=>
     obtain⟨u,rfl,f⟩:=jQ j;cases f;exact tH (d0:=d0) n I h1.sq r1 r (by simp;lia) fun p e d g _=>k _ _ _ (aH.frozen d) (aM.newLst d g)
  ·rw [if_neg c]at b;cases b
 ·cases b
end DL
namespace ZL
open PySem.Spec L2 DL
def yP(K:PySem.W.Frag)(a b:YP):It:=
 ⟨fun i H=>∃ xs ys x y,bY K H a xs/\bY K H b ys/\xs[i]?=some x/\ys[i]?=some y,
  fun i H v c=>∃ p,H p=none/\v=.ref p/\∃ x y,c=aJ H p (.tup [x,y])/\(∀ xs,bY K H a xs->xs[i]?=some x)/\∀ ys,bY K H b ys->ys[i]?=some y,
  fun i H=>∃ xs ys,bY K H a xs/\bY K H b ys/\(xs.length<=i ∨ ys.length<=i)⟩
theorem Ll{X:Cx}{pins:List (YP × Obj)}{g:L2.St}{H c:Hp}{s:JT}{ch:List YP}{h':Heap}{tk:Nat}(I:L2.Inv X pins g H s)(h:∀ b∈ch,g9 X pins H b)(k:∀ b o,b∉ch->s.heap.get? b=some o->h'.get? b=some o)
  (p:∀ b o,s.heap.get? b=some o->c b=H b) (f:∀ b o,H b=some o->c b=some o) (d:cX X.prog X.w c h'):L2.Inv X pins g c { s with heap:=h',toks:=tk }:=by
 refine I.step (g':=s.gens) (d':=s.drawn) (ch:=ch) (fun b l=>?_) (fun b o _ _ a e _=>k b o a e) (fun b o _ _ a e _=>⟨o.slots,k b o a e⟩) (fun b o _ e n=>by rw [p b o e];exact n)
  (fun b o a e=>⟨o,k b o a e⟩) (fun b B e=>f _ _ e) (fun b o u e=>f _ _ e) (fun b E e=>⟨#[],by rw [f _ _ e];simp⟩) (fun m j=>?_) d I.bare
 ·obtain⟨_,x,_,v,t,q⟩:=h b l
  exact⟨v,x,t,q⟩
 ·obtain⟨o,y,A,i,r⟩:=j
  exact⟨o,y,A,k _ o (fun z=>(h _ z).2.1 rfl) i,r⟩
theorem zTf{P:JY}{w:J1}{K:PySem.W.Frag}{a7:List Expr}{x1}{U:Pos}(a b z TI TO p n:YP)(D:ZipApart z TI TO p n a b):
  kO P w K (.Tuple a7 x1 U) (yP K a b) [z,TI,TO,p,n] z (fun i h=>IsZip h z TI TO .none/\IsPair h TI (.ref p) (.ref n)/\(∃ u v,IsPair h TO u v)/\h.IsListIter p a i/\h.IsListIter n b i) where
 mem:=by simp
 obj:=fun i h t c j=>by
  obtain⟨B,A,⟨u,v,F⟩,⟨o4,e4,_,d4⟩,⟨o5,e5,_,d5⟩⟩:=t;rcases Ql.mp j with rfl | j
  ·exact⟨_,B,fun v z=>by have T:Data.fields _=Data.cell v:=z;cases T⟩
  rcases Ql.mp j with rfl | j
  ·exact⟨_,A,fun v z=>by have T:Data.seq _ _=Data.cell v:=z;cases T⟩
  rcases Ql.mp j with rfl | j
  ·exact⟨_,F,fun v z=>by have T:Data.seq _ _=Data.cell v:=z;cases T⟩
  rcases Ql.mp j with rfl | j
  ·exact⟨o4,e4,fun v z=>by rw [d4]at z;cases z⟩
  rcases Ql.mp j with rfl | j
  ·exact⟨o5,e5,fun v z=>by rw [d5]at z;cases z⟩
  cases j
 keep:=fun i h h' t k=>by
  obtain⟨B,A,⟨u,v,F⟩,S,Q⟩:=t
  exact⟨k z (by simp) _ B,k TI (by simp) _ A,⟨u,v,k TO (by simp) _ F⟩,S.at fun o e=>k p (by simp) o e,Q.at fun o e=>k n (by simp) o e⟩
 item:=by
  intro X hP hw hK j i Y s σ H E I O t hg;subst hP hw hK;obtain⟨xs,ys,x,y,ha,hb,hx,hy⟩:=hg;obtain⟨B,A,⟨u,v,F⟩,S,Q⟩:=t;obtain⟨a9,rv,pl,_⟩:=I.list ha;obtain⟨a8,G,J,_⟩:=I.list hb;obtain⟨xu,ex,rx⟩:=rv.get hx;obtain⟨yu,ey,ry⟩:=G.get hy;refine wpAny_pyNext_zip_item D B A F S Q pl.isList J.isList (x:=xu) (y:=yu) (by simpa using ex) (by simpa using ey) fun h' a1 a2 a3 a4 a5 a6 hk=>⟨_,rfl,?_⟩;refine wpAny_letOwnedTupleGo_zip (s:={ s with heap:=h' }) a1 fun h'' z1 sb=>?_;have N:∀ c o,c≠z->h'.get? c=some o->h''.get? c=some o:=fun c o l e=>sb.extBut c o l e;have hn:H s.heap.objs.size=none:=I.hok.fresh (Qj _);have g:∀ c o,s.heap.get? c=some o->c≠s.heap.objs.size:=fun c o e=>QB (Qs e);have zT:s.heap.objs.size≠z:=(g z _ B).symm
  have Z:∀ c o,c∉[z,TI,TO,p,n]->s.heap.get? c=some o->h''.get? c=some o:=fun c o l e=>
   N c o (fun q=>l (by simp [q])) (hk c o (fun q=>l (by simp [q])) (fun q=>l (by simp [q])) (fun q=>l (by simp [q])) (fun q=>l (by simp [q])) e)
  have m:∀ c o,H c=some o->c∉[z,TI,TO,p,n]:=fun c o e f=>by
   have:=(O c f).1
   rw [this]at e;cases e
  have t2:IsPair h'' TI (.ref p) (.ref n):=N _ _ D.TIz (hk _ _ D.TIz D.TITO D.TIi1 D.TIi2 A);have t3:IsPair h'' TO xu yu:=N _ _ D.TOz a2;have t4:h''.IsListIter p a (i+1):=a3.at fun o e=>N _ o D.i1z e;have t5:h''.IsListIter n b (i+1):=a4.at fun o e=>N _ o D.i2z e
  have b0:cX X.prog X.w (aJ H s.heap.objs.size (.tup [x,y])) h'':=fun c o e=>by
   by_cases a0:c=s.heap.objs.size
   ·subst a0;rw [cN]at e;cases e
    exact⟨fW (by simp),[xu,yu],.cons rx (.cons ry .nil),⟨_,N _ _ zT a5,rfl,0,rfl⟩⟩
   ·rw [aV a0]at e
    refine(I.hok c o e).stay (fun d v M q=>Z d v ?_ q) (fun d q=>by rw [aV (kE q hn)];exact q) fun d xs q=>by rw [aV (kE q hn)];exact q
    rcases M with rfl | M
    ·exact m _ _ e
    ·exact m _ _ M
  refine⟨.ref s.heap.objs.size,_,Ll (s:=s) (h':=h'') (tk:=s.toks) I O Z (fun c o e=>aV (g c o e)) (fun c o e=>by rw [aV (kE e hn)];exact e) b0,rfl,⟨_,hn,rfl,x,y,rfl,fun b2 h'=>by rw [I.list_inj h' ha];exact hx,fun b1 h'=>by rw [I.list_inj h' hb];exact hy⟩,⟨z1,t2,⟨_,_,t3⟩,t4,t5⟩,fun c f=>?_⟩
  ·have e:=(O c f).1
   have nT:c≠s.heap.objs.size:=by
    rcases Ql.mp f with rfl | f
    ·exact g _ _ B
    rcases Ql.mp f with rfl | f
    ·exact g _ _ A
    rcases Ql.mp f with rfl | f
    ·exact g _ _ F
    rcases Ql.mp f with rfl | f
    ·obtain⟨_,e',_⟩:=S;exact g _ _ e'
    rcases Ql.mp f with rfl | f
    ·obtain⟨_,e',_⟩:=Q;exact g _ _ e'
    cases f
   rw [aV nT];exact e
 done:=by
  intro X hP hw hK j i Y s σ H E I O t hg;subst hP hw hK;obtain⟨xs,ys,ha,hb,r⟩:=hg;obtain⟨B,A,⟨u,v,F⟩,S,Q⟩:=t;obtain⟨a9,rv,pl,_⟩:=I.list ha;obtain⟨a8,G,J,_⟩:=I.list hb;have l1:=rv.length;have l2:=G.length
  refine wpAny_pyNext_zip_end (I.ok.hd j) D B A F S Q pl.isList J.isList (by
   rcases r with r | r
   ·left;simp;lia
   ·right;simp;lia) fun h' hk=>⟨rfl,?_⟩
  have Z:∀ c o,c∉[z,TI,TO,p,n]->s.heap.get? c=some o->h'.get? c=some o:=fun c o l e=>
   hk c o (fun q=>l (by simp [q])) (fun q=>l (by simp [q])) (fun q=>l (by simp [q])) (fun q=>l (by simp [q])) e
  have m:∀ c o,H c=some o->c∉[z,TI,TO,p,n]:=fun c o e f=>by
   have:=(O c f).1
   rw [this]at e;cases e
  refine Ll (s:=s) (h':=h') (tk:=s.toks) I O Z (fun _ _ _=>rfl) (fun _ _ e=>e) fun c o e=>?_
  refine(I.hok c o e).stay (fun d v M q=>Z d v ?_ q) (fun d q=>q) fun d xs q=>q
  rcases M with rfl | M
  ·exact m _ _ e
  ·exact m _ _ M
 self:=fun _ _ _ _ _ t h=>wpAny_pyIter_zip t.1 h
theorem fH{x y:Nat}(h:x≠y):@Ne YP x y:=h
theorem zTN{n a b:Nat}(d:a<n)(c:b<n):ZipApart (n+4) (n+2) (n+3) n (n+1) a b:=
 ⟨fH (by lia),fH (by lia),fH (by lia),fH (by lia),fH (by lia),fH (by lia),fH (by lia),fH (by lia),fH (by lia),fH (by lia),fH (by lia),fH (by lia),fH (by lia),fH (by lia),fH (by lia),fH (by lia),fH (by lia),fH (by lia)⟩
def rZ(K:PySem.W.Frag)(f:TA):TI:=fun d H R=>f d H fun e c=>∃ a b,e=[.ref a,.ref b]/\(∃ xs,bY K c a xs)/\(∃ ys,bY K c b ys)/\R (yP K a b) c
theorem Wz{X:Cx}{m:List Expr}{x1}{i:Pos}{a b:Expr}{t:TA}{p j:Pos}(W:Gl X "zip")(T:X.mg "zip"=none)(Y:PA X [a,b] t)(hs:JU [a,b] X.env=[(false,Za a X.env),(false,Za b X.env)]:=by rfl)(l:JU [b] X.env=[(false,Za b X.env)]:=by rfl):
  PI X (.Tuple m x1 i) (.Call (.Name "zip" p) [a,b] [] j) (rZ X.K t):=by
 intro g s o H R I h;refine Call_ (oS I W T boot_zip (Y0 (aU (Y j g s o H _ I h) fun us d ⟨vs,A,I1,E,G⟩=>?_) (by rw [hs,l]) (by rw [l];rfl)));obtain⟨z,x,e,⟨xs,S⟩,⟨ys,Q⟩,q⟩:=G;subst e
 cases E with
 | cons r n=>
  cases n with
  | cons F n=>
   cases n;cases r;cases F;obtain⟨O,rv,u,_⟩:=I1.list S;obtain⟨N,B,k,_⟩:=I1.list Q;refine call_zip_2 u.isList k.isList fun w y a2 a3 a4 Z a6 U=>?_;have I2:L2.Inv X g o A { d with heap:=w }:=I1.kept (t':=d.toks) U;refine wpAny_pyIter_zip (s:={ d with heap:=w }) y ?_
   have M:z<d.heap.objs.size:=by obtain⟨_,e,_⟩:=u.isList;exact Qs e
   have J:x<d.heap.objs.size:=by obtain⟨_,e,_⟩:=k.isList;exact Qs e
   refine⟨_,[d.heap.objs.size+4,d.heap.objs.size+2,d.heap.objs.size+3,d.heap.objs.size,d.heap.objs.size+1],_,_,A,rfl,I2,zTf z x (d.heap.objs.size+4) (d.heap.objs.size+2) (d.heap.objs.size+3) d.heap.objs.size (d.heap.objs.size+1) (zTN M J),⟨y,a2,⟨_,_,a3⟩,a4,Z⟩,fun c f=>?_,q⟩
   have v:d.heap.objs.size<=c:=by
    rcases Ql.mp f with rfl | f
    ·exact Yt _ _
    rcases Ql.mp f with rfl | f
    ·exact Yt _ _
    rcases Ql.mp f with rfl | f
    ·exact Yt _ _
    rcases Ql.mp f with rfl | f
    ·exact Qj _
    rcases Ql.mp f with rfl | f
    ·exact Yt _ _
    cases f
   exact I1.fpOk v (I1.hok.fresh v)
end ZL
namespace DL
open PySem.Spec L2 ZL
def CK:List D->Option (List D)
 | [.list xs,.list ys]=>some (List.zipWith (fun x y=>.tuple [x,y]) xs ys)
 | _=>none
theorem SX{K:PySem.W.Frag}{F:YP->Prop}{H:Hp}{a b:YP}{vs us:List V}{ds es:List D}(I:kK K F H a vs)(t:Reps K F H ds vs)(G:kK K F H b us)(s:Reps K F H es us):kL K F H (List.zipWith (fun x y=>.tuple [x,y]) ds es) (yP K a b):=fun M S T z i=>by
 have g:=I.stay T;have f:=G.stay T;have k:=t.stay T;have j:=s.stay T
 refine⟨fun d c=>?_,fun E=>⟨vs,us,g.sq,f.sq,?_⟩⟩
 ·rw [List.getElem?_zipWith]at c
  cases e:ds[i]? with
  | none=>rw [e]at c;cases c
  | some x=>
   cases h:es[i]? with
   | none=>rw [e,h]at c;cases c
   | some y=>
    rw [e,h]at c;cases c;obtain⟨v,q,J⟩:=k.get e;obtain⟨u,o,R2⟩:=j.get h
    refine⟨⟨vs,us,v,u,g.sq,f.sq,q,o⟩,fun w Q r=>?_⟩
    obtain⟨p,n,rfl,O,N,rfl,B,A⟩:=r;have m:=B vs g.sq;have l:=A us f.sq;rw [q]at m;cases m;rw [o]at l;cases l
    exact⟨M,aH.fresh n,aM.newTup n (.cons J (.cons R2 .nil))⟩
 ·rw [List.length_zipWith]at E;rw [<- k.length,<- j.length];lia
theorem RD{x1}(h:Gl X "zip")(g:X.mg "zip"=none)(i:DA X [a,b] gr)(hs:JU [a,b] X.env=[(false,Za a X.env),(false,Za b X.env)]:=by rfl)(e:JU [b] X.env=[(false,Za b X.env)]:=by rfl):
  DI X (.Tuple elts x1 tpos) (.Call (.Name "zip" p) [a,b] [] pos) (fun ρ=>(gr ρ).bind CK):=
 wS (Wz h g i hs e) fun s H R f=>by
  obtain⟨F,c,ρ,v,S,q,k⟩:=f;obtain⟨t,j,q⟩:=aE q;unfold CK at q
  split at q
  ·cases q
   refine⟨F,c,ρ,_,S,j,fun n m u o l=>?_⟩
   cases l with
   | cons r d=>
    cases r with
    | @lst a' vs' _ h1 r1=>
     cases d with
     | cons r d=>
      cases r with
      | @lst b' us' _ h2 r2=>
       cases d
       exact⟨a',b',rfl,⟨_,h1.sq⟩,⟨_,h2.sq⟩,k n m _ o (SX h1 r1 h2 r2)⟩
  ·cases q
end DL
namespace DL
open PySem.Spec PySem.SeqAt L2 CL SD ZL
def cutD(xs:List D)(a b:Option Int):List D:=(xs.drop (HT.sIx xs.length 0 a)).take (HT.sIx xs.length xs.length b-HT.sIx xs.length 0 a)
def Ox(K:PySem.W.Frag)(g:aA->Option (Option Int)):TO:=fun a H Q=>m9 K a H g fun F o=>∀ F' H',aH F F' H H'->Q o H'
def DO(X:Cx)(e:Option Expr)(g:aA->Option (Option Int)):Prop:=PO X e (Ox X.K g)
def pG:aA->Option (Option Int):=fun _=>some none
def oE(g:aA->Option D):aA->Option (Option Int):=fun a=>(g a).bind fun d=>(u5 d).bind fun i=>some (some i)
section
variable {X:Cx}{a b e:Expr}{ga:aA->Option D}{pos p p2:Pos}{lo hi:Option Expr}{gl gh:aA->Option (Option Int)}
theorem HN(h:PO X o t)(m:∀ σ H Q,t' σ H Q->t σ H Q):PO X o t':=fun a s σ H Q I q=>h a s σ H Q I (m σ H Q q)
theorem Gb:DO X none pG:=HN WG fun c H Q b=>by
 obtain⟨F,a,d,o,S,q,k⟩:=b;cases q;exact k F H (aH.refl F H)
theorem tY(h:DE X e ga):DO X (some e) (oE ga):=HN (WH h) fun p H Q c=>by
 obtain⟨F,a,b,o,S,q,k⟩:=c;obtain⟨d,g,q⟩:=aE q;obtain⟨i,f,q⟩:=aE q;cases q
 exact⟨F,a,b,d,S,g,fun m l v n j=>⟨i,zSh j f,k m l n⟩⟩
theorem Reps.cut{K:PySem.W.Frag}{F:YP->Prop}{H:Hp}{ds:List D}{vs:List V}(r:Reps K F H ds vs)(a b:Option Int):Reps K F H (cutD ds a b) (lQ vs a b):=by
 unfold cutD lQ;rw [r.length]
 exact(r.drop _).take _
def Ak:D->String
 | .none=>"NoneType"
 | .bool _=>"bool"
 | .int _=>"int"
 | .str _=>"str"
 | .list _=>"list"
 | .tuple _=>"tuple"
 | .dict _=>"dict"
def jX(T:String)(d:D):Bool:=Ak d == T || (T == "int" && Ak d == "bool")
def k9:D->Bool
 | .dict _=>true
 | _=>false
def rW(T:String)(ga:aA->Option D):aA->Option D:=fun a=>(ga a).bind fun d=>if k9 d=true then none else some (.bool (jX T d))
theorem Sv(K:PySem.W.Frag)(T:String)(a:T="list" ∨ T="tuple" ∨ T="int" ∨ T="bool" ∨ T="str" ∨ T="dict")(d:D):PySem.W.kitOne K (.type (Ak d)) (.type T)=some (jX T d):=by
 rcases a with rfl | rfl | rfl | rfl | rfl | rfl <;> cases d <;> (first | rfl | (unfold PySem.W.kitOne;with_unfolding_all rfl) | decide +kernel)
theorem O5(A:T="list" ∨ T="tuple" ∨ T="int" ∨ T="bool" ∨ T="str" ∨ T="dict"):dA X (.builtin "isinstance") (fun xs H Q=>∃(F:YP->Prop) (d:D) (x:V),aM X.K F H d x/\k9 d=false/\xs=[x,.ty T]/\Q (.bl (jX T d)) H):=by
 intro f s p H xs B Q I v h;obtain⟨F,d,x,R,m,rfl,q⟩:=h;obtain⟨u,r,rfl,c,w⟩:=Bz v
 cases(show r=ZW T from w)
 have ok:=Sv X.K T A d;have fin:∀ g,EP X f p Q (.bool (jX T d)) { s with toks:=g }:=fun g=>⟨.bl _,H,I.tok g,rfl,q⟩
 cases R with
 | non=>cases(show u=J9 from c);exact PySem.W.kia_one PySem.W.kitx_none I.kIn Uk ok (fun z=>nomatch z) fin
 | dct _ _ _ _ _=>cases m
 | exn _ _ _=>cases m
 | bl b=>cases(show u=U3 b from c);exact PySem.W.kia_one PySem.W.kitx_bool I.kIn Uk ok (fun z=>nomatch z) fin
 | int i=>obtain⟨t,e⟩:=(show ∃ t,u=U1 i t from c);cases e;exact PySem.W.kia_one PySem.W.kitx_int I.kIn Uk ok (fun z=>nomatch z) fin
 | str y=>obtain⟨t,e⟩:=(show ∃ t,u=Value.str y t from c);cases e;exact PySem.W.kia_one PySem.W.kitx_str I.kIn Uk ok (fun z=>nomatch z) fin
 | @tup a vs ds h1 r1=>
  cases(show u=J2 a from c)
  obtain⟨j,_,⟨o,l,k,_⟩,_⟩:=I.tuple h1;exact PySem.W.kia_one PySem.W.kitx_tuple I.kIn ⟨o,l,k⟩ ok (fun z=>nomatch z) fin
 | @lst a vs ds h1 r1=>
  cases(show u=J2 a from c)
  obtain⟨j,_,⟨o,n,l,k,_⟩,_⟩:=I.list h1.sq;exact PySem.W.kia_one PySem.W.kitx_list I.kIn ⟨o,l,k⟩ ok (fun z=>nomatch z) fin
theorem PH:Zn "isinstance"=some (.builtin "isinstance"):=by decide +kernel
theorem Bm(t:T="list" ∨ T="tuple" ∨ T="int" ∨ T="bool" ∨ T="str" ∨ T="dict")(r:Gl X "isinstance")(o:X.mg "isinstance"=none)(h:Gl X Tn)(g:X.mg Tn=none)(b:Zn Tn=some (.type T))(n:Tn≠"__name__")(s:DE X e ga)
  (hs:JU [e,.Name Tn p'] X.env=(false,Za e X.env)::JU [.Name Tn p'] X.env:=by rfl) (f:JU [.Name Tn p'] X.env=(false,Za (.Name Tn p') X.env)::JU [] X.env:=by rfl) (i:(Tn == ("__debug__":Str))=false:=by decide)
  (hpl:(Zb pos (JU [.Name Tn p'] X.env)).any (·.1)=false:=by rfl):DE X (.Call (.Name "isinstance" p) [e,.Name Tn p'] [] pos) (rW T ga):=
 bT (BD (O5 t) r o PH (eF s (eF (Xe (v:=.ty T) h g b rfl n i) fQ f) hs) (he:=hs) (hpl:=hpl)) fun A H Q m=>by
  obtain⟨F,a,l,d,S,q,k⟩:=m;obtain⟨x,u,q⟩:=aE q;by_cases c:k9 x=true
  ·rw [if_pos c]at q;cases q
  ·rw [if_neg c]at q;cases q
   exact⟨F,a,l,x,S,u,fun j y v z w=>⟨j,x,v,w,by simpa using c,rfl,k j y _ z (.bl _)⟩⟩
end
def D8(a:ZY)(oN N':List Str)(scope:ZY)(inner:List (Option Nat)):Bool:=
 scope.kind == .function && scope.names.all (fun x=>x.2 != .cell) && scope.names.all (fun x=>x.2 != .local || scope.names.lookup x.1 == some .local) &&
 scope.names.all (fun x=>x.2 != .free || (scope.names.lookup x.1 == some .free && (a.names.lookup x.1 == some .cell || a.names.lookup x.1 == some .free))) && inner.length == N'.length &&
 (JZ inner.length).all fun i=>match inner[i]? with
  | some (some j)=>match N'[i]? with
   | some x=>oN[j]? == some x && scope.names.lookup x == some .free
   | none=>false
  | _=>true
theorem gM(a:ZY)(oN:List Str)(k:X.env.scope=a)(g:X.N=oN)(h:D8 a oN N' scope inner=true):kX X N' scope inner:=by
 unfold D8 at h;simp only [QF]at h;obtain⟨⟨⟨⟨⟨r,q⟩,p⟩,o⟩,n⟩,m⟩:=h
 refine⟨Yp r,fun x b e=>?_,fun x b e=>?_,fun x b e=>?_,Yp n,fun i j e=>?_⟩
 ·have:=QT.mp q x b
  rw [e]at this;cases this
 ·have:=QT.mp p x b
  rw [e]at this;rcases Bool.or_eq_true_iff.mp this with z | z
  ·cases z
  ·exact Yp z
 ·have:=QT.mp o x b
  rw [e]at this;rcases Bool.or_eq_true_iff.mp this with z | z
  ·cases z
  ·obtain⟨d,c⟩:=QN.mp z
   refine⟨Yp d,?_⟩
   rw [k];rcases Bool.or_eq_true_iff.mp c with z | z
   ·exact .inl (Yp z)
   ·exact .inr (Yp z)
 ·have f:i<inner.length:=(Qe.mp e).1
  have:=QT.mp m i (QP.mpr f)
  rw [e]at this;dsimp only at this
  split at this
  ·rename_i x l;obtain⟨d,c⟩:=QN.mp this
   exact⟨x,l,by rw [g];exact Yp d,Yp c⟩
  ·cases this
theorem eP(r:bU k A):A.units+64<Zg:=by have:=r.un;lia
theorem gL(r:bU k A):A.units+65<Zg:=by have:=r.un;lia
theorem jK(r:bU k A):A.units+66<Zg:=by have:=r.un;lia
def xL(K:PySem.W.Frag)(G:List D->Option D):Sp:=fun b H Q E=>∃(a:YP) (ns:List Int),b=[.ref a]/\bY K H a (ns.map V.int)/\ns.length<=63/\∀ H',Q (.bl true) H'
theorem rG{K:PySem.W.Frag}{F:YP->Prop}{H:Hp}:∀ ns:List Int,Reps K F H (ns.map J0) (ns.map V.int)
 | []=>.nil
 | n::ns=>.cons (.int n) (rG ns)
theorem MU{P:JY}{w:J1}{K:PySem.W.Frag}{g:Str->Option JS}{base:Heap}{CX:gQ}{k:Nat}{f:YP}{i:J5}{d:List Str}{G:List D->Option D}(F:aK P w K g base CX k f i d (aX K 1 G))
  (h:∀ ns:List Int,ns.length<=63->G [.list (ns.map J0)]=some (.bool true)):aK P w K g base CX k f i d (xL K G):=
 F.imp fun p H Q E j=>by
  obtain⟨a,ns,e,c,l,q⟩:=j;subst e
  refine⟨fun b=>H b≠none,[.list (ns.map J0)],.bool true,rfl,fun _ z=>z,.cons ?_ .nil,h ns l,fun r n v s m=>?_⟩
  ·rcases c with c | c
   ·refine .lst (.inl ⟨?_,c⟩) (rG ns)
    rcases c with c | ⟨o,c⟩ <;> (rw [c];simp)
   ·exact .lst (.inr (.inr c)) (rG ns)
  ·cases m;exact q n
theorem dU{P:JY}{w:J1}{K:PySem.W.Frag}{c:Str->Option JS}{base:Heap}{x a:Str}{st:Zj}{f:YP}{d:J5}{N b:List Str}{k n m:Nat}{g:aA->Option aQ}{G:List D->Option D}(j:G=cP m g)(e:b.length=n)(h:N.length=m)(F:eG K x a st f d)(S:bQ N b (aS st))
  (i:∀(cdv:JS) (A:Around) (outer:List Env) (s:JT) (H:Hp) (E:XK),bU k (A.deeper (envOfC a (aS st) s.heap.objs.size f cdv))->
   g8 (gH aL P w K c base N a (aS st) f cdv A outer s H E).nox (cW st) g):aK P w K c base aL (k+1) f d b (aX K n G):=by
 subst e h j;exact Mu F S i
end DL
namespace ST
open PySem.SetTable
def fI(M i:Nat):Nat:=(i * 5+1) % (M+1)
def jG(M:Nat):Nat->Nat->Nat
 | 0,i=>i
 | n+1,i=>jG M n (fI M i)
theorem uD(M:Nat):∀ a b i,jG M (a+b) i=jG M b (jG M a i)
 | 0,b,i=>by rw [Nat.zero_add];rfl
 | a+1,b,i=>by rw [Nat.succ_add];exact uD M a b (fI M i)
def zM(M:Nat):Nat->Nat->List Nat
 | 0,_=>[]
 | n+1,i=>i::zM M n (fI M i)
theorem Iy(M:Nat):∀(n i j:Nat),j∈zM M n i->∃ k,k<n/\jG M k i=j
 | 0,i,j,h=>nomatch h
 | n+1,i,j,h=>by
  rcases Ql.mp h with h | h
  ·exact⟨0,Nat.succ_pos n,h.symm⟩
  ·obtain⟨k,b,a⟩:=Iy M n _ j h
   exact⟨k+1,Nat.succ_lt_succ b,a⟩
def kZ(M:Nat):Bool:=(jG M (M+1) 0 == 0) && (JZ (M+1)).all fun j=>(zM M (M+1) 0).contains j
theorem Mh:kZ 7=true:=by decide +kernel
theorem Mf:kZ 31=true:=by decide +kernel
theorem Rn:kZ 127=true:=by decide +kernel
theorem Me:kZ 15=true:=by decide +kernel
theorem Mg:kZ 63=true:=by decide +kernel
theorem Ro:kZ 255=true:=by decide +kernel
theorem Rp:kZ 511=true:=by decide +kernel
def c7(M:Nat):Prop:=M=7 ∨ M=31 ∨ M=127 ∨ M=15 ∨ M=63 ∨ M=255 ∨ M=511
theorem c7.cyc(g:c7 M):kZ M=true:=by
 rcases g with rfl | rfl | rfl | rfl | rfl | rfl | rfl
 ·exact Mh
 ·exact Mf
 ·exact Rn
 ·exact Me
 ·exact Mg
 ·exact Ro
 ·exact Rp
theorem Md(g:c7 M):jG M (M+1) 0=0/\∀ j,j<=M->∃ k,k<=M/\jG M k 0=j:=by
 have h:=g.cyc;unfold kZ at h;rw [QF,beq_iff_eq,QT]at h
 refine⟨h.1,fun j b=>?_⟩
 have:=h.2 j (QP.mpr (by lia))
 obtain⟨k,c,a⟩:=Iy M (M+1) 0 j (QC.mp this)
 exact⟨k,by lia,a⟩
theorem cyc(g:c7 M)(b:i<=M)(a:j<=M):∃ k,k<=M/\jG M k i=j:=by
 obtain⟨z,c⟩:=Md g;obtain⟨m,e,rfl⟩:=c i b;obtain⟨n,d,rfl⟩:=c j a;by_cases q:m<=n
 ·refine⟨n-m,by lia,?_⟩
  rw [<- uD];congr 1;lia
 ·refine⟨n+(M+1)-m,by lia,?_⟩
  rw [<- uD,show m+(n+(M+1)-m)=(M+1)+n by lia,uD,z]
def hE(M:Nat)(p:Probe):Probe:=
 if p.more > 0 then{ p with j:=p.j+1,more:=p.more-1 } else
 { p with j:=(leap M p.i p.perturb).1,more:=ZS M (leap M p.i p.perturb).1-(leap M p.i p.perturb).1,i:=(leap M p.i p.perturb).1,perturb:=(leap M p.i p.perturb).2 }
def run(M:Nat)(l:Nat × Nat):Probe:={ j:=l.1,more:=ZS M l.1-l.1,i:=l.1,perturb:=l.2,dummy:=none }
def L(M:Nat)(h:Int):Nat->Nat × Nat
 | 0=>(bits h % (M+1),bits h)
 | k+1=>leap M (L M h k).1 (L M h k).2
def P(M:Nat)(h:Int):Nat->Probe
 | 0=>run M (L M h 0)
 | n+1=>hE M (P M h n)
theorem uR(M:Nat)(h:Int):∀ k,(L M h k).1<=M
 | 0=>YT (Nat.mod_lt _ (Nat.succ_pos _))
 | k+1=>YT (Nat.mod_lt _ (Nat.succ_pos _))
theorem w6(h:i<=M):i<=ZS M i/\ZS M i<=M/\ZS M i-i<=9:=by
 unfold ZS
 split <;> lia
theorem y3(M:Nat)(h:Int):∀ n,(P M h n).j+(P M h n).more<=M/\(P M h n).dummy=none
 | 0=>by
  have:=w6 (uR M h 0)
  show(L M h 0).1+(ZS M (L M h 0).1-(L M h 0).1)<=M/\none=none
  exact⟨by lia,rfl⟩
 | n+1=>by
  obtain⟨b,a⟩:=y3 M h n
  show(hE M (P M h n)).j+(hE M (P M h n)).more<=M/\(hE M (P M h n)).dummy=none
  unfold hE;split
  ·exact⟨by show(P M h n).j+1+((P M h n).more-1)<=M;lia,a⟩
  ·refine⟨?_,a⟩
   have:(leap M (P M h n).i (P M h n).perturb).1<=M:=YT (Nat.mod_lt _ (Nat.succ_pos _))
   have:=w6 this
   show(leap M (P M h n).i (P M h n).perturb).1+(ZS M (leap M (P M h n).i (P M h n).perturb).1-(leap M (P M h n).i (P M h n).perturb).1)<=M
   lia
theorem yZ(M:Nat)(h:Int)(n:Nat):(P M h n).j<=M:=by have:=(y3 M h n).1;lia
theorem A7(e:P M h n=run M (L M h k)):∀ d,d<=ZS M (L M h k).1-(L M h k).1->
  P M h (n+d)={ j:=(L M h k).1+d,more:=ZS M (L M h k).1-(L M h k).1-d,i:=(L M h k).1,perturb:=(L M h k).2,dummy:=none }
 | 0,_=>e
 | d+1,hd=>by
  show hE M (P M h (n+d))=_
  rw [A7 e d (by lia)];unfold hE;rw [if_pos (show ZS M (L M h k).1-(L M h k).1-d > 0 by lia)];rfl
theorem El(e:P M h n=run M (L M h k)):P M h (n+(ZS M (L M h k).1-(L M h k).1)+1)=run M (L M h (k+1)):=by
 show hE M (P M h (n+(ZS M (L M h k).1-(L M h k).1)))=_
 rw [A7 e _ (Qj _)];unfold hE;rw [if_neg (show ¬ ZS M (L M h k).1-(L M h k).1-(ZS M (L M h k).1-(L M h k).1) > 0 by lia)];rfl
theorem Dd(M:Nat)(h:Int):∀ k,∃ n,n<=10 * k/\P M h n=run M (L M h k)
 | 0=>⟨0,Qj _,rfl⟩
 | k+1=>by
  obtain⟨n,a,e⟩:=Dd M h k
  have:=w6 (uR M h k)
  exact⟨_,by lia,El e⟩
theorem EO(M:Nat)(h:Int):∀ k,(L M h k).2=bits h / 32 ^ k
 | 0=>by show bits h=_;rw [Nat.pow_zero,Nat.div_one]
 | k+1=>by
  show(L M h k).2 / 32=_
  rw [EO M h k,Nat.div_div_eq_div_mul,<- Nat.pow_succ]
theorem PD(h:Int):bits h<36893488147419103232:=by
 unfold bits
 have:h % (2 ^ 64:Int)<2 ^ 64:=Jr _ (by decide)
 have a:(2 ^ 64:Int)=18446744073709551616:=by decide
 rw [a]at this ⊢;lia
theorem CQ(M:Nat)(h:Int):∀ k,(L M h (13+k)).2=0/\(L M h (13+k)).1=jG M k (L M h 13).1
 | 0=>by
  refine⟨?_,rfl⟩
  rw [EO];exact Nat.div_eq_of_lt (PD h)
 | k+1=>by
  obtain⟨b,a⟩:=CQ M h k
  show(L M h (13+k)).2 / 32=0/\((L M h (13+k)).1 * 5+1+(L M h (13+k)).2 / 32) % (M+1)=jG M (k+1) (L M h 13).1
  rw [b,a,uD]
  exact⟨rfl,rfl⟩
theorem Ee(g:c7 M)(h:Int)(a:j<=M):∃ k,k<Vi M/\(L M h k).1=j:=by
 obtain⟨k,b,e⟩:=cyc g (uR M h 13) a
 exact⟨13+k,by unfold Vi;lia,by rw [(CQ M h k).2,e]⟩
theorem Mc(g:c7 M)(h:Int)(a:j<=M):∃ n,n<10 * Vi M/\(P M h n).j=j:=by
 obtain⟨k,c,e⟩:=Ee g h a;obtain⟨n,b,q⟩:=Dd M h k
 exact⟨n,by lia,by rw [q,<- e];rfl⟩
abbrev Up(l:List Nat):Prop:=l.Pairwise (· < ·)
theorem Up.at{l:List Nat}(s:Up l){i k x y:Nat}(b:l[i]?=some x)(a:l[k]?=some y)(h:i<k):x<y:=by
 obtain⟨d,rfl⟩:=Qe.mp b;obtain⟨c,rfl⟩:=Qe.mp a;exact List.pairwise_iff_getElem.mp s i k d c h
theorem Up.le{l:List Nat}(s:Up l){i k x y:Nat}(b:l[i]?=some x)(a:l[k]?=some y)(h:i<=k):x<=y:=by
 by_cases e:i=k
 ·subst e;rw [b]at a;cases a;exact Qj _
 ·exact Yr (s.at b a (by lia))
theorem Up.nodup(s:Up l):l.Nodup:=s.imp fun h=>QB h
theorem Ar(xs:Array Nat)(s:Up xs.toList)(j:Nat):∀ fuel lo hi,lo<=hi->hi<=xs.size->hi-lo<=fuel->
  (∀ i x,xs.toList[i]?=some x->i<lo->x<j)->(∀ i x,xs.toList[i]?=some x->hi<=i->j<=x)->
  below.go xs j fuel lo hi<=xs.size/\(∀ i x,xs.toList[i]?=some x->i<below.go xs j fuel lo hi->x<j)/\(∀ i x,xs.toList[i]?=some x->below.go xs j fuel lo hi<=i->j<=x)
 | 0,lo,hi,h1,h2,h3,a,b=>by
  have e:lo=hi:=by lia
  subst e
  exact⟨h2,a,b⟩
 | fuel+1,lo,hi,h1,h2,h3,a,b=>by
  unfold below.go;by_cases c:lo<hi
  ·rw [if_pos c];dsimp only
   have k:(lo+hi) / 2<xs.size:=by lia
   have h:xs.toList[(lo+hi) / 2]?=some (xs.getD ((lo+hi) / 2) j):=by
    rw [QL,QK k]
    simp [U6,k]
   by_cases d:xs.getD ((lo+hi) / 2) j<j
   ·rw [if_pos d];exact Ar xs s j fuel _ _ (by lia) h2 (by lia) (fun i x g f=>Yl (s.le g h (by lia)) d) b
   ·rw [if_neg d];exact Ar xs s j fuel _ _ (by lia) (by lia) (by lia) a (fun i x g f=>Qr (by lia) (s.le h g f))
  ·rw [if_neg c]
   have e:lo=hi:=by lia
   subst e
   exact⟨h2,a,b⟩
theorem qY(xs:Array Nat)(s:Up xs.toList)(j:Nat):Zm xs j<=xs.size/\(∀ i x,xs.toList[i]?=some x->i<Zm xs j->x<j)/\(∀ i x,xs.toList[i]?=some x->Zm xs j<=i->j<=x):=
 Ar xs s j _ _ _ (QR _) (Qj _) (by lia) (fun i x _ h=>absurd h (YC _)) fun i x a h=>by
  obtain⟨q,_⟩:=Qe.mp a;rw [Qt]at q;lia
structure gB(t:SetTable)(hs:List Int):Prop where
 good:c7 t.mask
 dum:t.dummies=#[]
 len:t.place.toList.length=hs.length
 up:Up t.place.toList
 le:∀ x∈t.place.toList,x<=t.mask
 room:t.place.toList.length * 5<t.mask * 3
 reach:∀ q∈t.place.toList.zip hs,∃ n,(P t.mask q.2 n).j=q.1/\∀ m,m<n->(P t.mask q.2 m).j∈t.place.toList
theorem xI{t:SetTable}(h:t.dummies=#[])(s:Up t.place.toList)(j:Nat):(∃ i,t.slot j=.live i/\t.place.toList[i]?=some j) ∨ (t.slot j=.empty/\j∉t.place.toList):=by
 obtain⟨n,m,l⟩:=qY t.place s j;unfold slot;dsimp only;by_cases c:(t.place[Zm t.place j]? == some j)=true
 ·rw [if_pos c];exact .inl ⟨_,rfl,by rw [QL];exact Yp c⟩
 ·rw [if_neg c,h];refine .inr ⟨rfl,fun g=>c ?_⟩;obtain⟨i,d⟩:=QY g
  have e:i=Zm t.place j:=by
   by_cases a:i<Zm t.place j
   ·have:=m i j d a;lia
   ·by_cases b:i=Zm t.place j
    ·exact b
    ·have k:Zm t.place j<t.place.toList.length:=by
      obtain⟨q,_⟩:=Qe.mp d;lia
     have f:=Qi k
     have:=s.at f d (by lia)
     have:=l _ _ f (Qj _)
     lia
  rw [<- e,<- QL,d];simp
theorem HI{t:SetTable}(b:t.dummies=#[])(s:Up t.place.toList){j i:Nat}(h:t.slot j=.live i):t.place.toList[i]?=some j:=by
 rcases xI b s j with⟨d,a,c⟩ | ⟨a,_⟩
 ·rw [h]at a;cases a;exact c
 ·rw [h]at a;cases a
theorem MW{p:Nat->Prop}[DecidablePred p]:∀ n,p n->∃ m,m<=n/\p m/\∀ k,k<m->¬ p k:=by
 intro n
 induction n using Nat.strongRecOn with
 | ind n d=>
  intro h;by_cases c:∃ k,k<n/\p k
  ·obtain⟨k,b,a⟩:=c;obtain⟨m,g,f,e⟩:=d k b a
   exact⟨m,by lia,f,e⟩
  ·exact⟨n,Qj _,h,fun k b a=>c ⟨k,b,a⟩⟩
theorem Om{M:Nat}{l:List Nat}(h:l.length<=M):∃ j,j<=M/\j∉l:=by
 refine Yv fun c=>?_
 have:JZ (M+1) ⊆ l:=fun j b=>Yv fun a=>c ⟨j,by have:=QP.mp b;lia,a⟩
 have:=YN List.nodup_range this
 rw [QM]at this;lia
theorem Fy{M:Nat}{l:List Nat}(g:c7 M)(h:l.length<=M)(x:Int):∃ n,n<10 * Vi M/\(P M x n).j∉l/\∀ m,m<n->(P M x m).j∈l:=by
 obtain⟨j,e,c⟩:=Om h;obtain⟨n,o,f⟩:=Mc g x e;obtain⟨m,i,b,a⟩:=MW (p:=fun n=>(P M x n).j∉l) n (by rw [f];exact c)
 exact⟨m,by lia,b,fun k d=>Yv (a k d)⟩
section
variable {t:SetTable}{hs:List Int}{hashAt:Nat->Int}{h:Int}{n:Nat}
theorem FN(T:gB t hs)(u:(P t.mask h n).j∉t.place.toList)(s:∀ m,m<n->(P t.mask h m).j∈t.place.toList):∀ fuel c,c<=n->n-c<fuel->
  (US t hashAt h fuel (P t.mask h c)=some (.empty (P t.mask h n).j none)/\∀ m,c<=m->m<n->∀ i,t.slot (P t.mask h m).j=.live i->hashAt i≠h)
  ∨ ∃ m i,c<=m/\m<n/\t.slot (P t.mask h m).j=.live i/\hashAt i=h/\(∀ m',c<=m'->m'<m->∀ i,t.slot (P t.mask h m').j=.live i->hashAt i≠h)/\US t hashAt h fuel (P t.mask h c)=some (.candidate (P t.mask h m).j i (P t.mask h (m+1)))
 | 0,c,_,hf=>absurd hf (YC _)
 | fuel+1,c,hc,hf=>by
  unfold US;by_cases e:c=n
  ·subst e;rcases xI T.dum T.up (P t.mask h c).j with⟨i,f,l⟩ | ⟨f,_⟩
   ·exact absurd (QD l) u
   ·rw [f];refine .inl ⟨?_,fun m a b=>by lia⟩
    show some (Met.empty (P t.mask h c).j (P t.mask h c).dummy)=_
    rw [(y3 t.mask h c).2]
  ·rcases xI T.dum T.up (P t.mask h c).j with⟨i,f,l⟩ | ⟨_,l⟩
   ·rw [f];dsimp only;by_cases k:(hashAt i == h)=true
    ·rw [if_pos k];exact .inr ⟨c,i,Qj _,by lia,f,Yp k,fun m' a b=>by lia,rfl⟩
    ·rw [if_neg k];have r:hashAt i≠h:=fun e=>k (by rw [e];simp);rcases FN T u s fuel (c+1) (by lia) (by lia)with⟨a,b⟩ | ⟨m,i',a1,a2,a3,a4,a5,a6⟩
     ·refine .inl ⟨a,fun m p g o d=>?_⟩;by_cases q:m=c
      ·subst q;rw [f]at d;cases d;exact r
      ·exact b m (by lia) g o d
     ·refine .inr ⟨m,i',by lia,a2,a3,a4,fun m' p g o d=>?_,a6⟩;by_cases q:m'=c
      ·subst q;rw [f]at d;cases d;exact r
      ·exact a5 m' (by lia) g o d
   ·exact absurd (s c (by lia)) l
theorem met(T:gB t hs)(k:(P t.mask h n).j∉t.place.toList){i j:Nat}(b:t.place.toList[i]?=some j)(g:hs[i]?=some h):∃ m,m<n/\(P t.mask h m).j=j:=by
 have f:(j,h)∈t.place.toList.zip hs:=QD (i:=i) (by rw [Yw];exact⟨b,g⟩);obtain⟨m,e,a⟩:=T.reach _ f
 refine⟨m,Yv fun c=>k ?_,e⟩
 by_cases d:n=m
 ·subst d;rw [e];exact QD b
 ·exact a n (by lia)
end
theorem k8{a:Type}(xs:Array a)(p:Nat)(x:a):(Zs xs p x).toList=xs.toList.take p++x::xs.toList.drop p:=by
 rw [SetTable.toList_insertAt]
theorem Wk(T:gB t hs)(B:(P t.mask h n).j∉t.place.toList)(A:∀ m,m<n->(P t.mask h m).j∈t.place.toList)
  (G:(t.place.toList.length+1) * 5<t.mask * 3) (pl:Bool):
  gB { (t.put (P t.mask h n).j).1 with plain:=pl } (hs.take (t.put (P t.mask h n).j).2++h::hs.drop (t.put (P t.mask h n).j).2):=by
 obtain⟨H,F,E⟩:=qY t.place T.up (P t.mask h n).j
 have c:∀ x,x∈(Zs t.place (Zm t.place (P t.mask h n).j) (P t.mask h n).j).toList ↔ x=(P t.mask h n).j ∨ x∈t.place.toList:=by
  intro x;rw [k8,QE,Ql]
  conv=>rhs;rw [<- Yh (Zm t.place (P t.mask h n).j) t.place.toList,QE]
  constructor
  ·rintro(a | a | a)
   ·exact .inr (.inl a)
   ·exact .inl a
   ·exact .inr (.inr a)
  ·rintro(a | a | a)
   ·exact .inr (.inl a)
   ·exact .inl a
   ·exact .inr (.inr a)
 refine⟨T.good,?_,?_,?_,?_,?_,?_⟩
 ·show(if has t.dummies _=true then _ else t.dummies)=#[]
  rw [T.dum];rfl
 ·show(Zs t.place (Zm t.place (P t.mask h n).j) (P t.mask h n).j).toList.length=(hs.take (Zm t.place (P t.mask h n).j)++h::hs.drop (Zm t.place (P t.mask h n).j)).length
  rw [k8];simp only [Qm,Q2,Qo,Ye];rw [T.len]
 ·show Up (Zs t.place (Zm t.place (P t.mask h n).j) (P t.mask h n).j).toList
  rw [k8];unfold Up;rw [List.pairwise_append]
  have o:∀ x∈t.place.toList.take (Zm t.place (P t.mask h n).j),x<(P t.mask h n).j:=fun x f=>by
   obtain⟨i,d⟩:=QY f;rw [Uo]at d
   split at d
   ·rename_i q;exact F i x d q
   ·cases d
  have p:∀ x∈t.place.toList.drop (Zm t.place (P t.mask h n).j),(P t.mask h n).j<x:=fun x f=>by
   obtain⟨i,d⟩:=QY f;rw [Y7]at d
   have:=E _ x d (by lia)
   have w:x≠(P t.mask h n).j:=fun e=>B (e ▸ QD d);lia
  refine⟨T.up.sublist (Ut _ _),Yg.mpr ⟨p,T.up.sublist (List.drop_sublist _ _)⟩,fun a s b r=>?_⟩
  rcases Ql.mp r with rfl | r
  ·exact o a s
  ·exact Nat.lt_trans (o a s) (p b r)
 ·intro x f
  rcases(c x).mp f with rfl | f
  ·exact yZ _ _ _
  ·exact T.le x f
 ·show(Zs t.place (Zm t.place (P t.mask h n).j) (P t.mask h n).j).toList.length * 5<t.mask * 3
  rw [k8];simp only [Qm,Q2,Qo,Ye];lia
 ·intro q v
  have u:(Zs t.place (Zm t.place (P t.mask h n).j) (P t.mask h n).j).toList.zip (hs.take (Zm t.place (P t.mask h n).j)++h::hs.drop (Zm t.place (P t.mask h n).j))=(t.place.toList.take (Zm t.place (P t.mask h n).j)).zip (hs.take (Zm t.place (P t.mask h n).j))++((P t.mask h n).j,h)::(t.place.toList.drop (Zm t.place (P t.mask h n).j)).zip (hs.drop (Zm t.place (P t.mask h n).j)):=by
   rw [k8,List.zip_append (by rw [Q2,Q2,T.len]),Ul]
  have g:q=((P t.mask h n).j,h) ∨ q∈t.place.toList.zip hs:=by
   have l:q∈(Zs t.place (Zm t.place (P t.mask h n).j) (P t.mask h n).j).toList.zip (hs.take (Zm t.place (P t.mask h n).j)++h::hs.drop (Zm t.place (P t.mask h n).j)):=v;rw [u,QE,Ql]at l
   conv=>rhs;rw [<- Yh (Zm t.place (P t.mask h n).j) t.place.toList,<- Yh (Zm t.place (P t.mask h n).j) hs,List.zip_append (by rw [Q2,Q2,T.len]),QE]
   rcases l with a | a | a
   ·exact .inr (.inl a)
   ·exact .inl a
   ·exact .inr (.inr a)
  rcases g with rfl | g
  ·exact⟨n,rfl,fun m y=>(c _).mpr (.inr (A m y))⟩
  ·obtain⟨m,e,a⟩:=T.reach q g
   exact⟨m,e,fun k z=>(c _).mpr (.inr (a k z))⟩
structure dQ(M:Nat)(hs:List Int)(ow:Array (Option Nat)):Prop where
 size:ow.size=M+1
 lt:∀ j i:Nat,ow[j]?=some (some i)->i<hs.length
 all:∀ i,i<hs.length->∃ j:Nat,ow[j]?=some (some i)
 inj:∀ j j' i:Nat,ow[j]?=some (some i)->ow[j']?=some (some i)->j=j'
 reach:∀(j i:Nat) (h:Int),ow[j]?=some (some i)->hs[i]?=some h->∃ n,(P M h n).j=j/\∀ m,m<n->∃ i',ow[(P M h m).j]?=some (some i')
theorem dQ.free(W:dQ M hs ow)(h:hs.length<=M):∃ j:Nat,j<=M/\ow[j]?=some none:=by
 refine Yv fun c=>?_
 have m:∀ j,j<=M->∃ i,ow[j]?=some (some i):=fun j f=>by
  have d:j<ow.size:=by rw [W.size];lia
  cases e:ow[j]with
  | none=>exact absurd ⟨j,f,by rw [QK d,e]⟩ c
  | some i=>exact⟨i,by rw [QK d,e]⟩
 have e:∀ j,j<=M->ow[j]?=some (some ((ow.getD j none).getD 0)):=fun j f=>by
  obtain⟨i,g⟩:=m j f
  have d:j<ow.size:=by rw [W.size];lia
  rw [g];rw [QK d]at g
  have:ow.getD j none=some i:=by simp [U6,d];exact QA g
  rw [this];rfl
 have k:(JZ (M+1)).map (fun j=>(ow.getD j none).getD 0) ⊆ JZ hs.length:=fun i g=>by
  obtain⟨j,f,rfl⟩:=QO.mp g;exact QP.mpr (W.lt j _ (e j (by have:=QP.mp f;lia)))
 have n:((JZ (M+1)).map (fun j=>(ow.getD j none).getD 0)).Nodup:=by
  unfold UL;rw [Yb];refine List.Pairwise.imp_of_mem ?_ List.nodup_range;intro a b q p l o;refine l (W.inj a b _ (e a (by have:=QP.mp q;lia)) ?_);rw [o];exact e b (by have:=QP.mp p;lia)
 have:=YN n k
 rw [Qd,QM,QM]at this;lia
theorem Fz(hsz:ow.size=M+1):∀ fuel k n,P M h n=run M (L M h k)->(∀ m,m<n->∃ i,ow[(P M h m).j]?=some (some i))->
  (∃ kk,k<=kk/\kk<k+fuel/\ow[(L M h kk).1]?=some none)->
  ∃ n',layClean.free M ow fuel (L M h k).1 (L M h k).2=some (P M h n').j/\ow[(P M h n').j]?=some none/\∀ m,m<n'->∃ i,ow[(P M h m).j]?=some (some i)
 | 0,k,n,e,a,⟨kk,h1,h2,_⟩=>by lia
 | fuel+1,k,n,e,a,⟨kk,h1,h2,h3⟩=>by
  have z:=w6 (uR M h k)
  have b:∀ d,d<=ZS M (L M h k).1-(L M h k).1->ow[(L M h k).1+d]?=some (ow.getD ((L M h k).1+d) (some 0)):=fun d l=>by
   have s:(L M h k).1+d<ow.size:=by lia
   rw [QK s]
   simp [U6,s]
  have p:∀ d,d<=ZS M (L M h k).1-(L M h k).1->(P M h (n+d)).j=(L M h k).1+d:=fun d l=>by rw [A7 e d l]
  unfold layClean.free
  cases q:(JZ (ZS M (L M h k).1+1-(L M h k).1)).find? fun d=>(ow.getD ((L M h k).1+d) (some 0)).isNone with
  | some d=>
   rw [List.find?_range_eq_some]at q;obtain⟨w,v,u⟩:=q
   have l:d<=ZS M (L M h k).1-(L M h k).1:=by have:=QP.mp v;lia
   refine⟨n+d,?_,?_,fun m x=>?_⟩
   ·rw [p d l]
   ·rw [p d l,b d l,Option.isNone_iff_eq_none.mp w]
   ·by_cases c:m<n
    ·exact a m c
    ·have:=u (m-n) (by lia)
     have f:m-n<=ZS M (L M h k).1-(L M h k).1:=by lia
     have o:=p (m-n) f;rw [show n+(m-n)=m by lia]at o;rw [o,b (m-n) f]
     cases r:ow.getD ((L M h k).1+(m-n)) (some 0)with
     | none=>rw [r]at this;simp at this
     | some i=>exact⟨i,rfl⟩
  | none=>
   rw [List.find?_eq_none]at q
   have g:∀ d,d<=ZS M (L M h k).1-(L M h k).1->∃ i,ow[(L M h k).1+d]?=some (some i):=fun d l=>by
    have:=q d (QP.mpr (by lia))
    rw [b d l]
    cases r:ow.getD ((L M h k).1+d) (some 0)with
    | none=>rw [r]at this;simp at this
    | some i=>exact⟨i,rfl⟩
   have A:kk≠k:=fun y=>by
    subst y;obtain⟨i,t⟩:=g 0 (QR _);rw [Nat.add_zero,h3]at t;cases t
   refine Fz hsz fuel (k+1) _ (El e) (fun m x=>?_) ⟨kk,by lia,by lia,h3⟩;by_cases c:m<n
   ·exact a m c
   ·have f:m-n<=ZS M (L M h k).1-(L M h k).1:=by lia
    have o:=p (m-n) f;rw [show n+(m-n)=m by lia]at o;rw [o];exact g (m-n) f
theorem dQ.put(W:dQ M hs ow)(q:ow[(P M h n).j]?=some none)(v:∀ m,m<n->∃ i,ow[(P M h m).j]?=some (some i)):
  dQ M (hs++[h]) (ow.setIfInBounds (P M h n).j (some hs.length)):=by
 have t:(P M h n).j<ow.size:=by rw [W.size];have:=yZ M h n;lia
 have f:∀ j,(ow.setIfInBounds (P M h n).j (some hs.length))[j]?=if(P M h n).j=j then some (some hs.length)else ow[j]?:=fun j=>by
  rw [Array.getElem?_setIfInBounds];split
  ·first | rfl | rw [if_pos t]
  ·rfl
 have g:∀ j:Nat,(∃ i,ow[j]?=some (some i))->∃ i,(ow.setIfInBounds (P M h n).j (some hs.length))[j]?=some (some i):=fun j r=>by
  obtain⟨i,o⟩:=r;rw [f];split
  ·exact⟨_,rfl⟩
  ·exact⟨i,o⟩
 refine⟨by simpa using W.size,fun j i b=>?_,fun i o=>?_,fun j p i b d=>?_,fun j i x b l=>?_⟩
 ·rw [Qm,Yo];rw [f]at b
  split at b
  ·cases b;lia
  ·have:=W.lt j i b;lia
 ·rw [Qm,Yo]at o;by_cases c:i<hs.length
  ·obtain⟨j,b⟩:=W.all i c
   refine⟨j,?_⟩
   rw [f,if_neg (fun e=>by rw [e,b]at q;cases q)];exact b
  ·refine⟨(P M h n).j,?_⟩
   rw [f,if_pos rfl,show i=hs.length by lia]
 ·rw [f]at b d
  split at b
  ·rename_i e;cases b
   split at d
   ·rename_i w;rw [<- e,<- w]
   ·have:=W.lt p _ d;lia
  ·split at d
   ·cases d
    have:=W.lt j _ b;lia
   ·exact W.inj j p i b d
 ·rw [f]at b
  split at b
  ·rename_i e;cases b;rw [Yc (Qj _),Nat.sub_self]at l;cases l
   exact⟨n,e,fun m s=>g _ (v m s)⟩
  ·rw [QV (W.lt j i b)]at l;obtain⟨m,e,a⟩:=W.reach j i x b l
   exact⟨m,e,fun k u=>g _ (a k u)⟩
def zD(M:Nat)(a:Option (Array (Option Nat) × Nat))(h:Int):Option (Array (Option Nat) × Nat):=do
 let(owner,k) <- a
 let j <- layClean.free M owner (Vi M) (bits h % (M+1)) (bits h)
 pure (owner.setIfInBounds j (some k),k+1)
theorem Fv(g:c7 M):∀(rest done:List Int) (ow:Array (Option Nat)),dQ M done ow->(done++rest).length<=M->∃ ow',rest.foldl (zD M) (some (ow,done.length))=some (ow',(done++rest).length)/\dQ M (done++rest) ow'
 | [],done,ow,W,_=>⟨ow,by rw [QG];rfl,by rw [QG];exact W⟩
 | h::rest,done,ow,W,hl=>by
  rw [Qm,Qo]at hl;obtain⟨j,l,o⟩:=W.free (by lia);obtain⟨i,q,e⟩:=Ee g h l;obtain⟨n,f,d,c⟩:=Fz (h:=h) W.size (Vi M) 0 0 rfl (fun m k=>absurd k (YC _)) ⟨i,QR _,by lia,by rw [e];exact o⟩;have p:=W.put d c;obtain⟨ow',b,a⟩:=Fv g rest (done++[h]) _ p (by simp;lia)
  refine⟨ow',?_,by rw [<- List.append_cons]at a;exact a⟩
  rw [Ym]
  have:zD M (some (ow,done.length)) h=some (ow.setIfInBounds (P M h n).j (some done.length),(done++[h]).length):=by
   show(layClean.free M ow (Vi M) (L M h 0).1 (L M h 0).2).bind _=_
   rw [f,Qm];rfl
  rw [this,b,<- List.append_cons]
theorem NG(M:Nat):dQ M [] (Uj (M+1) none):=by
 have:∀(j:Nat) (i:Nat),(Uj (M+1) (none:Option Nat))[j]?=some (some i)->False:=fun j i h=>by
  rw [Array.getElem?_replicate]at h
  split at h <;> simp at h
 exact⟨by simp,fun j i h=>(this j i h).elim,fun i a=>absurd a (YC _),fun j b i h=>(this j i h).elim,fun j i _ h=>(this j i h).elim⟩
theorem VU(g:c7 M)(hs:Array Int)(a:hs.size<=M):∃ ow,layClean M hs=some ow/\dQ M hs.toList ow:=by
 obtain⟨ow,c,b⟩:=Fv g hs.toList [] _ (NG M) (by simpa using a)
 refine⟨ow,?_,b⟩
 unfold layClean;rw [<- Array.foldl_toList]
 show(hs.toList.foldl (zD M) (some (Uj (M+1) none,0))).map (·.1)=_
 rw [show(0:Nat)=([]:List Int).length from rfl,c];rfl
def gD(M:Nat)(a:Array (Option Nat)):List (Nat × Nat):=(JZ (M+1)).filterMap fun j=>(a.getD j none).map (j,·)
theorem oU(W:dQ M hs ow)(q:Nat × Nat):q∈gD M ow ↔ q.1<=M/\ow[q.1]?=some (some q.2):=by
 unfold gD;rw [List.mem_filterMap];constructor
 ·rintro⟨j,c,e⟩
  have a:j<ow.size:=by rw [W.size];exact QP.mp c
  cases b:ow.getD j none with
  | none=>rw [b]at e;cases e
  | some i=>
   rw [b]at e;cases e
   refine⟨by have:=QP.mp c;show j<=M;lia,?_⟩
   show ow[j]?=some (some i)
   rw [QK a]
   simp [U6,a]at b
   rw [b]
 ·rintro⟨f,d⟩
  have a:q.1<ow.size:=by rw [W.size];lia
  refine⟨q.1,QP.mpr (by lia),?_⟩
  rw [QK a]at d
  have:ow.getD q.1 none=some q.2:=by simp [U6,a];exact QA d
  rw [this];rfl
theorem GN(M:Nat)(e:Array (Option Nat)):(gD M e).Pairwise fun p q=>p.1<q.1:=by
 unfold gD;rw [List.pairwise_filterMap];refine List.Pairwise.imp ?_ List.pairwise_lt_range;intro a b f x d y c
 cases h:e.getD a none with
 | none=>rw [h]at d;cases d
 | some i=>
  cases g:e.getD b none with
  | none=>rw [g]at c;cases c
  | some k=>
   rw [h]at d;rw [g]at c
   cases d;cases c
   exact f
theorem Hu(z w:Nat)(le pl:Bool)(g:c7 M)(B:hs.size * 5<M * 3):
  ∃ t' order,laid M z w le pl hs=some (t',order)/\Zd order.toList (JZ hs.size)/\gB t' (order.toList.map fun i=>hs.toList.getD i 0)/\t'.led=le/\t'.plain=pl:=by
 obtain⟨d,F,W⟩:=VU g hs (by lia)
 have f:Zd ((gD M d).map (·.2)) (JZ hs.size):=by
  rw [List.perm_ext_iff_of_nodup ?_ List.nodup_range]
  ·intro i;rw [QO,QP];constructor
   ·rintro⟨q,h,rfl⟩
    have:=W.lt _ _ ((oU W q).mp h).2
    simpa using this
   ·intro v;obtain⟨j,y⟩:=W.all i (by simpa using v);have u:j<d.size:=(Q5.mp y).1
    exact⟨(j,i),(oU W (j,i)).mpr ⟨by rw [W.size]at u;show j<=M;lia,y⟩,rfl⟩
  ·unfold UL;rw [Yb];refine List.Pairwise.imp_of_mem ?_ (GN M d);intro p q t h l E;have a:=((oU W p).mp t).2;have b:=((oU W q).mp h).2;rw [E]at a
   have:=W.inj _ _ _ a b
   lia
 have o:(gD M d).length=hs.size:=by
  have:=f.length_eq
  rwa [Qd,QM]at this
 refine⟨{ mask:=M,place:=((gD M d).map (·.1)).toArray,dummies:=#[],finger:=z,led:=le,moves:=w,plain:=pl },((gD M d).map (·.2)).toArray,?_,f,?_,rfl,rfl⟩
 ·unfold laid;rw [F];rfl
 ·refine⟨g,rfl,?_,?_,?_,?_,?_⟩
  ·show((gD M d).map (·.1)).length=(((gD M d).map (·.2)).map fun i=>hs.toList.getD i 0).length
   simp
  ·show Up ((gD M d).map (·.1))
   unfold Up;rw [Yb];exact GN M d
  ·intro x s;have r:x∈(gD M d).map (·.1):=s;obtain⟨q,h,rfl⟩:=QO.mp r
   exact((oU W q).mp h).1
  ·show((gD M d).map (·.1)).length * 5<M * 3
   rw [Qd,o];exact B
  ·intro q h;have k:q∈((gD M d).map (·.1)).zip (((gD M d).map (·.2)).map fun i=>hs.toList.getD i 0):=h;rw [Q3,List.zip_map']at k;obtain⟨p,t,rfl⟩:=QO.mp k;obtain⟨a,b⟩:=(oU W p).mp t;have l:=W.lt _ _ b
   have s:hs.toList[p.2]?=some (hs.toList.getD p.2 0):=by
    rw [YI,Qi l];rfl
   obtain⟨n,e,c⟩:=W.reach _ _ _ b s
   refine⟨n,e,fun m A=>?_⟩
   obtain⟨i,v⟩:=c m A
   show(P M (hs.toList.getD p.2 0) m).j∈(gD M d).map (·.1)
   exact QO.mpr ⟨((P M (hs.toList.getD p.2 0) m).j,i),(oU W _).mpr ⟨yZ _ _ _,v⟩,rfl⟩
theorem zSg{t:SetTable}{hs:Array Int}{a M:Nat}(c:Zh a-1=M)(g:c7 M)(b:hs.size * 5<M * 3):
  ∃ t' order,t.relaid hs a=some (t',order)/\Zd order.toList (JZ hs.size)/\gB t' (order.toList.map fun i=>hs.toList.getD i 0)/\t'.led=t.led/\t'.plain=t.plain:=by
 unfold relaid;rw [c];exact Hu _ _ _ _ g b
section
variable {prog:JY}{w:J1}{A:Around}{E:JS->JT->Prop}{s:JT}
abbrev TK(prog:JY)(w:J1)(h:Heap)(k:List Int)(a:YP):Prop:=IsTupleKey (intKind prog w) h k a
abbrev TH(prog:JY)(w:J1)(k:List Int):Int:=tupleKeyHash (intKind prog w) k
theorem items_int(h:ItemsAre (intKind prog w) ks vs):∀ v∈vs,∃ i t,v=.int i t:=by
 induction h with
 | nil=>intro v a;simp at a
 | @cons k v' ks vs h1 _ ih=>
  intro v a;rcases Ql.mp a with rfl | a
  ·obtain⟨t,e⟩:=Us h1
   exact⟨k,t,e⟩
  ·exact ih v a
theorem Gx(n:Nat)(l:TK prog w s.heap k a)(h:Q false s):JW (JX prog w) A (ofAClassStatement (n+2) (.ref a)) Q E s:=by
 have y:=l.typeIs;obtain⟨o,f,n,p,_,x,q⟩:=l;have m:=items_int q;unfold ofAClassStatement;refine Qa (YO y ?_)
 show JW _ _ (do let b <- (if("tuple" == "tuple")=true then pure true else isSubtype (.type "tuple") (.type "tuple"));_) Q E s
 refine Qa ?_;rw [if_pos (by decide)];refine Qb ?_;simp only [Yy,Qp,if_false];refine Qa (wpAny_seqItems p x ?_);dsimp only;refine Qa ?_;rw [<- Uq];refine Y3 _ (fun c r e=>r.1=none/\e=s/\∀ v∈c,∃ i t,v=U1 i t) _ ?_ ?_ _ _ ⟨rfl,rfl,m⟩
 ·rintro v c r e ⟨j,rfl,d⟩;obtain⟨i,t,rfl⟩:=d v Qh;refine Qa ?_;unfold ofAClassStatement;refine Qb ?_;simp only [Qp,if_false];exact Qb ⟨rfl,rfl,fun u g=>d u (Qg _ g)⟩
 ·rintro⟨B,z⟩ e ⟨j,rfl,_⟩
  simp only at j
  subst j;exact Qb h
theorem PK(n:Nat)(j:TK prog w s.heap k a)(h:Q true s):JW (JX prog w) A (hashByValue (n+2) (.ref a)) Q E s:=by
 have x:=j.typeIs;obtain⟨o,d,n,m,_,q,p⟩:=j;have l:=items_int p;unfold hashByValue;refine Qa (Jx x F.slot_tuple_hash.lookup ?_);dsimp only;refine Qa (wpAny_seqItems m q ?_);refine Qa ?_
 show JW _ _ (forIn d _ _) _ _ s
 rw [<- Uq];refine Y3 _ (fun b r e=>r.1=none/\e=s/\∀ v∈b,∃ i t,v=U1 i t) _ ?_ ?_ _ _ ⟨rfl,rfl,l⟩
 ·rintro v b r e ⟨g,rfl,c⟩;obtain⟨i,t,rfl⟩:=c v Qh;refine Qa ?_;unfold hashByValue;refine Qb ?_;simp only [Yy,Qp,if_false];exact Qb ⟨rfl,rfl,fun u f=>c u (Qg _ f)⟩
 ·rintro⟨z,y⟩ e ⟨g,rfl,_⟩
  simp only at g
  subst g;exact Qb h
theorem GA{k:List Int}{a:YP}{d:List JS}{Q:Bool->JT->Prop}(m:TK prog w s.heap k a)(hs:∀ y∈d,∃ k' b,y=.ref b/\TK prog w s.heap k' b)(h:Q false s):
  JW (JX prog w) A (searchCouldBeSeen (.ref a) d) Q E s:=by
 unfold searchCouldBeSeen;refine Qa ?_;refine Y3 _ (fun e r i=>r.1=none/\i=s/\∀ y∈e,∃ k' b,y=.ref b/\TK prog w s.heap k' b) _ ?_ ?_ _ _ ⟨rfl,rfl,hs⟩
 ·rintro v e r i ⟨l,rfl,g⟩;have f:∀ y∈e,∃ k' b,y=.ref b/\TK prog w i.heap k' b:=fun u j=>g u (Qg _ j);obtain⟨k',b,rfl,n⟩:=g v Qh;dsimp only;by_cases c:(a == b)=true
  ·rw [c];simp only [Bool.true_or,if_true];exact Qb ⟨rfl,rfl,f⟩
  ·rw [if_neg (by simp [carriedByValue,c])];refine Qa (wpAny_eqIsQuiet_tuple m ?_);simp only [Yy,Qp,if_false];refine Qa (wpAny_eqIsQuiet_tuple n ?_);simp only [Yy,Qp,if_false];refine Qa (Gx 6 m ?_);simp only [Qp,if_false];refine Qa (Gx 6 n ?_);simp only [Qp,if_false];exact Qb ⟨rfl,rfl,f⟩
 ·rintro⟨p,o⟩ i ⟨l,rfl,_⟩
  simp only at l
  subst l;exact Qb h
inductive bL(prog:JY)(w:J1)(h:Heap):List (Int × JS)->List (List Int)->Prop
 | nil:bL prog w h [] []
 | cons {k:List Int}{b:YP}{es:List (Int × JS)}{ks:List (List Int)}:TK prog w h k b->bL prog w h es ks->bL prog w h ((TH prog w k,.ref b)::es) (k::ks)
theorem bL.at(X:bL prog w h es ks):∀{i:Nat}{e:Int × JS},es[i]?=some e->∃ k b,ks[i]?=some k/\e=(TH prog w k,.ref b)/\TK prog w h k b:=by
 induction X with
 | nil=>intro i e h;simp at h
 | @cons k b es ks h1 _ ih=>
  intro i e h
  cases i with
  | zero=>cases h;exact⟨k,b,rfl,rfl,h1⟩
  | succ i=>exact ih (i:=i) (by simpa using h)
theorem bL.length(X:bL prog w h es ks):es.length=ks.length:=by
 induction X with
 | nil=>rfl
 | cons _ _ a=>simp [a]
theorem bL.append(X:bL prog w h es ks)(Y:bL prog w h es' ks'):bL prog w h (es++es') (ks++ks'):=by
 induction X with
 | nil=>exact Y
 | cons b _ a=>exact .cons b a
theorem bL.take(X:bL prog w h es ks):∀ n,bL prog w h (es.take n) (ks.take n):=by
 induction X with
 | nil=>intro n;simpa using bL.nil
 | cons b _ a=>
  intro n
  cases n with
  | zero=>exact .nil
  | succ n=>exact .cons b (a n)
theorem bL.drop(X:bL prog w h es ks):∀ n,bL prog w h (es.drop n) (ks.drop n):=by
 induction X with
 | nil=>intro n;simpa using bL.nil
 | @cons k b es ks h1 hr ih=>
  intro n
  cases n with
  | zero=>exact .cons h1 hr
  | succ n=>exact ih n
theorem bL.mono(X:bL prog w h es ks)(m:∀ k b,TK prog w h k b->TK prog w h' k b):bL prog w h' es ks:=by
 induction X with
 | nil=>exact .nil
 | cons c _ a=>exact .cons (m _ _ c) a
theorem bL.pick(X:bL prog w h es ks):∀(l:List Nat),(∀ i∈l,i<es.length)->bL prog w h (l.filterMap (es[·]?)) (l.filterMap (ks[·]?)):=by
 intro l
 induction l with
 | nil=>intro _;exact .nil
 | cons i l d=>
  intro a;have c:=a i Qh;obtain⟨k,b,m,g,f⟩:=X.at (Qi c);rw [Ud (b:=(TH prog w k,J2 b)) (by rw [Qi c,g]),Ud (b:=k) m];exact .cons f (d fun j e=>a j (Qg _ e))
theorem gB.fits(T:gB t hs)(e:hs.length=n):t.fits n=true:=by
 have a:=T.len;have b:=T.room;rw [Qt]at a b;unfold Ue Uf;rw [T.dum,a,e];rw [a]at b;simp only [QF,beq_iff_eq,decide_eq_true_eq]
 refine⟨?_,?_⟩
 ·trivial
 ·show n+0<=t.mask
  lia
theorem gB.odd(T:gB t hs):t.gaveWay=false:=by
 unfold SetTable.gaveWay
 rcases T.good with h | h | h | h | h | h | h <;> rw [h] <;> rfl
theorem HC
  (hu:A.units<Zg) (U:s.heap.get? a=some o) (hd:o.data=.set es ep t) (T:gB t (es.toList.map (·.1))) (X:bL prog w s.heap es.toList ks) (Z:TK prog w s.heap k x)
  (h1:(P t.mask (TH prog w k) n).j∉t.place.toList) (h2:∀ m,m<n->(P t.mask (TH prog w k) m).j∈t.place.toList)
  (q1:k∈ks->Q (.there none) s) (q2:k∉ks->Q (.free (P t.mask (TH prog w k) n).j false) s):
  ∀ fuel c,c<=n->n<10 * Vi t.mask->n-c<fuel->(∀ m,m<c->∀ i,t.slot (P t.mask (TH prog w k) m).j=.live i->ks[i]?≠some k)->∀ stand:Option Probe,stand.getD (t.probeStart (TH prog w k))=P t.mask (TH prog w k) c->
  JW (JX prog w) A (setSearchFrom a (.ref x) (TH prog w k) true fuel stand) Q E s
 | 0,c,_,_,hf,_,_,_=>absurd hf (YC _)
 | fuel+1,c,hc,hN,hf,inv,stand,hst=>by
  have r:t.fits es.size=true:=T.fits (by simp);unfold setSearchFrom;refine Qa (QS U hd r ?_);dsimp only;rw [hst,if_neg (by rw [T.odd];exact Qv)];refine Qa (Qb ?_);generalize M:t.probe _ (TH prog w k) (P t.mask (TH prog w k) c)=met;obtain⟨f,a4,M⟩:∃ f:Nat->Int,(∀ i,f i=(es[i]?.map (·.1)).getD 0)/\t.probe f (TH prog w k) (P t.mask (TH prog w k) c)=met:=⟨_,fun _=>rfl,M⟩
  have key:∀ m i,t.slot (P t.mask (TH prog w k) m).j=.live i->f i≠TH prog w k->ks[i]?≠some k:=fun m i F W Y=>by
   have S:=HI T.dum T.up F
   have q:i<es.toList.length:=by
    have:=(Qe.mp S).1
    rw [T.len]at this
    simpa using this
   obtain⟨B,b,u,K,e3⟩:=X.at (Qi q);rw [Y]at u;cases u;apply W;rw [a4,<- QL,Qi q,K];rfl
  have a3:=FN (hashAt:=f) T h1 h2 (10 * Vi t.mask) c hc (by lia);rcases a3 with⟨g1,g2⟩ | ⟨m,i,g1,g2,g3,g4,g5,g6⟩
  ·have:met=some (.empty (P t.mask (TH prog w k) n).j none):=M.symm.trans g1
   subst this;dsimp only;refine Qb (q2 fun I=>?_);obtain⟨i,F⟩:=QY I
   have q:i<es.toList.length:=by rw [X.length];exact(Qe.mp F).1
   obtain⟨B,b,u,K,e3⟩:=X.at (Qi q);rw [F]at u;cases u
   have H:i<t.place.toList.length:=by rw [T.len];simpa using q
   obtain⟨m,hm,hj⟩:=met T h1 (Qi H) (h:=TH prog w k) (by rw [QH,Qi q,K];rfl);obtain⟨p,z,d⟩ | ⟨_,d⟩:=xI T.dum T.up (P t.mask (TH prog w k) m).j
   ·have a0:p=i:=by
     rw [hj]at d;have a1:=Qi H;by_cases O:p<i
     ·have:=T.up.at d a1 O;lia
     ·by_cases N:i<p
      ·have:=T.up.at a1 d N;lia
      ·lia
    subst a0;by_cases cm:m<c
    ·exact inv m cm p z F
    ·exact key m p z (g2 m (by lia) hm p z) F
   ·rw [hj]at d;exact d (Ys _)
  ·have:met=some (.candidate (P t.mask (TH prog w k) m).j i (P t.mask (TH prog w k) (m+1))):=M.symm.trans g6
   subst this;have S:=HI T.dum T.up g3
   have q:i<es.toList.length:=by
    have:=(Qe.mp S).1
    rw [T.len]at this
    simpa using this
   obtain⟨B,b,u,K,e3⟩:=X.at (Qi q)
   have J:es[i]?=some (TH prog w B,.ref b):=by rw [<- QL,Qi q,K]
   dsimp only
   have v:∀ y∈(es.filter (fun x=>x.1 == TH prog w k)).toList.map (fun x=>x.2),∃ B b,y=.ref b/\TK prog w s.heap B b:=fun y hy=>by
    obtain⟨e,he,rfl⟩:=QO.mp hy
    have a5:e∈es.toList:=by
     rw [Array.toList_filter]at he
     exact(Q8.mp he).1
    obtain⟨i2,a2⟩:=QY a5;obtain⟨k2,b2,_,z2,z3⟩:=X.at a2
    exact⟨k2,b2,by rw [z2],z3⟩
   split
   all_goals try (refine Qa (GA Z v ?_);rw [if_neg Qv])
   all_goals
    rw [J];dsimp only;refine Qa (Q6 (wpAny_eqBool_tuple hu e3 Z ?_));refine Qa (QS U hd r ?_);dsimp only;by_cases g:B=k
    ·rw [if_pos (by simp [g])];exact Qb (q1 (g ▸ QD u))
    ·rw [if_neg (by simp [g]),show t.sameMemory t.moves t.mask=some true by unfold sameMemory;simp];dsimp only;rw [if_pos rfl,g3];dsimp only;rw [J];dsimp only;refine Qa (wpAny_isSame_ref_self ?_);simp only [if_true];refine Qa (Qb ?_);dsimp only;rw [if_neg (by simp [g])];refine HC hu U hd T X Z h1 h2 q1 q2 fuel (m+1) (by lia) hN (by lia) (fun G a6 p l=>?_) _ rfl;by_cases O:G<c
     ·exact inv G O p l
     ·by_cases N:G=m
      ·subst N;rw [g3]at l;cases l;rw [u];exact fun e=>g (QA e)
      ·exact key G p l (g5 G (by lia) (by lia) p l)
theorem TK.keep(i:h.get? a=some o)(l:o.data=.set es ep t)(hs:Zi a h h')(x:TK prog w h k b):TK prog w h' k b:=by
 obtain⟨g,c,n,e,m,d,j⟩:=x
 have f:b≠a:=by
  rintro rfl
  obtain rfl:g=o:=QA (e.symm.trans i)
  rw [l]at d;exact nomatch d
 exact⟨g,c,n,(hs.2 b f).trans e,m,d,j⟩
def jH(w:J1):Bool := !w.params.followText "set-order"
def cG(prog:JY)(w:J1)(V:JS->Prop)(h:Heap)(a:YP)(b:List (List Int)):Prop:=
 ∃ o es ep t,h.get? a=some o/\o.ExactSet/\o.data=.set es ep t/\gB t (es.toList.map (·.1))/\(t.plain=true/\t.led=jH w)/\bL prog w h es.toList b/\b.Nodup/\∀ e∈es.toList,V e.2
theorem AA(es:List (Int × JS)):∀ l:List Nat,(∀ i∈l,i<es.length)->(l.filterMap (es[·]?)).map (·.1)=l.map fun i=>(es.map (·.1)).getD i 0
 | [],_=>rfl
 | i::l,h=>by
  have a:=h i Qh;rw [Ud (b:=es[i]) (Qi a),Qk,Qk,AA es l fun j c=>h j (Qg _ c)];congr 1;rw [YI,QH,Qi a];rfl
theorem TM(T:gB t hs)(b:(t.place.toList.length+1) * 5 >= t.mask * 3)(c:t.place.toList.length+1<=76):
  ∃ M,Zh (grown (t.place.toList.length+1))-1=M/\c7 M/\(t.place.toList.length+1) * 5<M * 3/\¬ Zh (grown (t.place.toList.length+1)) > sizeLine:=by
 have a:=T.room;rcases T.good with g | g | g | g | g | g | g
 ·rw [g]at a b
  have e:t.place.toList.length+1=5:=by lia
  rw [e]
  exact⟨31,by decide,.inr (.inl rfl),by decide,by rw [QW];decide⟩
 ·rw [g]at a b
  have e:t.place.toList.length+1=19:=by lia
  rw [e]
  exact⟨127,by decide,.inr (.inr (.inl rfl)),by decide,by rw [QW];decide⟩
 ·rw [g]at a b;lia
 ·rw [g]at a b
  have e:t.place.toList.length+1=9:=by lia
  rw [e]
  exact⟨63,by decide,.inr (.inr (.inr (.inr (.inl rfl)))),by decide,by rw [QW];decide⟩
 ·rw [g]at a b
  have e:t.place.toList.length+1=38:=by lia
  rw [e]
  exact⟨255,by decide,.inr (.inr (.inr (.inr (.inr (.inl rfl))))),by decide,by rw [QW];decide⟩
 ·rw [g]at a b;lia
 ·rw [g]at a b;lia
theorem HY
  (u:s.heap.get? a=some o) (x:o.ExactSet) (q:o.data=.set es ep t) (n:t.fits es.size=true) (y:t.plain=true/\t.led=jH w) (X:bL prog w s.heap es.toList ks) (v:ks.Nodup) (N:∀ e∈es.toList,V e.2)
  (O:Zh wanted-1=M) (g:c7 M) (H:es.size * 5<M * 3) (hz:¬ Zh wanted > sizeLine) (hsz:es.size<=sizeLine)
  (h:∀ h' ks',Zi a s.heap h'->cG prog w V h' a ks'->Zd ks' ks->Q () { s with heap:=h' }):
  JW (JX prog w) A (setRelay a wanted) Q E s:=by
 obtain⟨j,c,G,r,F,B,z⟩:=zSg (t:=t) (hs:=es.map (·.1)) O g (by simpa using H)
 have m:∀ i∈c.toList,i<es.toList.length:=fun i I=>by
  have:=QP.mp (r.mem_iff.mp I)
  simpa using this
 have p:(c.filterMap (es[·]?)).toList=c.toList.filterMap (es.toList[·]?):=by
  rw [Js];congr 1
  funext i
  rw [QL]
 have f:Zd (c.filterMap (es[·]?)).toList es.toList:=by
  rw [Js]
  refine(r.filterMap _).trans ?_
  rw [Y6,filterMap_getElem?_range]
 have d:(c.filterMap (es[·]?)).size=es.size:=by rw [<- Qt,f.length_eq,Qt]
 unfold setRelay;refine Qa (QS u q n ?_);dsimp only;rw [if_neg hz];rw [G];refine Qa ?_
 show JW _ _ (if((c.filterMap (es[·]?)).size != es.size)=true then _ else pure (c.filterMap (es[·]?),j)) _ _ s
 rw [if_neg (by simp [d])];refine Qb ?_;dsimp only;refine Jh u q ?_ (by rw [d];exact hsz)
 have J:(s.heap.update a (ZB (c.filterMap (es[·]?)) j)).get? a=some { o with data:=.set (c.filterMap (es[·]?)) (ep+1) j }:=by
  have:=Q1 (ZB (c.filterMap (es[·]?)) j) u (by rw [Jm _ j q];rfl)
  rw [Jm _ j q]at this;exact this
 have l:=QZ s.heap a (ZB (c.filterMap (es[·]?)) j);refine h _ (c.toList.filterMap (ks[·]?)) l ⟨_,_,_,j,J,x,rfl,?_,⟨by rw [z];exact y.1,by rw [B];exact y.2⟩,?_,?_,fun e K=>N e (f.mem_iff.mp K)⟩ ?_
 ·rw [p,AA _ _ m]
  simpa using F
 ·rw [p]
  exact(X.pick _ m).mono fun k b=>TK.keep u q l
 ·have:Zd (c.toList.filterMap (ks[·]?)) ks:=by
   refine(r.filterMap _).trans ?_
   rw [Y6,<- Qt,X.length,YY]
  exact this.nodup_iff.mpr v
 ·refine(r.filterMap _).trans ?_
  rw [Y6,<- Qt,X.length,YY]
theorem Eu(hu:A.units<Zg)(S:cG prog w V s.heap a ks)(W:TK prog w s.heap k x)(hx:V (.ref x))(a0:ks.length+1<=76)
  (q1:k∈ks->Q false s) (Y:k∉ks->∀ h' ks',Zi a s.heap h'->cG prog w V h' a ks'->Zd ks' (k::ks)->Q true { s with heap:=h' }):
  JW (JX prog w) A (setAddHashed a (.ref x) (TH prog w k)) Q E s:=by
 obtain⟨o,q,ep,t,H,J,G,T,O,X,U,hV⟩:=S;have v:t.fits q.size=true:=T.fits (by simp)
 have i:t.place.toList.length=ks.length:=by rw [T.len,Qd,X.length]
 have r:q.size=ks.length:=by rw [<- X.length,Qt]
 have N:=T.room;obtain⟨n,n1,n2,Z⟩:=Fy (l:=t.place.toList) T.good (by lia) (TH prog w k)
 have hM:t.mask<=511:=by rcases T.good with g | g | g | g | g | g | g <;> lia
 unfold setAddHashed setAddHashedIn;refine Q6 (Qa (QS H G v ?_));dsimp only;rw [if_neg (by simp [byScan,Value.scannable])];refine Qa ?_;unfold setSearch;refine HC hu H G T X W n2 Z ?_ ?_ 100000 0 (QR _) n1 (by unfold Vi at n1;lia) (fun m hm=>absurd hm (YC _)) none rfl
 ·intro d;exact Qb (q1 d)
 ·intro d;dsimp only;refine Qa (QS H G v ?_);dsimp only;rw [if_pos (show(t.put (P t.mask (TH prog w k) n).j).1.plain=true from O.1)];refine Qa (PK 6 W ?_);rw [if_pos rfl]
  have p:(Zs q (t.put (P t.mask (TH prog w k) n).j).2 (TH prog w k,J2 x)).size=q.size+1:=by
   rw [<- Qt,(Y2 _ _ _).length_eq];simp
  refine Qa (Jh H G ?_ (by rw [p,QW];lia))
  have hg:(s.heap.update a (ZB (Zs q (t.put (P t.mask (TH prog w k) n).j).2 (TH prog w k,J2 x)) (t.put (P t.mask (TH prog w k) n).j).1)).get? a=some { o with data:=.set (Zs q (t.put (P t.mask (TH prog w k) n).j).2 (TH prog w k,J2 x)) (ep+1) (t.put (P t.mask (TH prog w k) n).j).1 }:=by
   have:=Q1 (ZB (Zs q (t.put (P t.mask (TH prog w k) n).j).2 (TH prog w k,J2 x)) (t.put (P t.mask (TH prog w k) n).j).1) H (by rw [Jm _ _ G];rfl)
   rw [Jm _ _ G]at this;exact this
  have y:=QZ s.heap a (ZB (Zs q (t.put (P t.mask (TH prog w k) n).j).2 (TH prog w k,J2 x)) (t.put (P t.mask (TH prog w k) n).j).1)
  have X2:bL prog w (s.heap.update a (ZB (Zs q (t.put (P t.mask (TH prog w k) n).j).2 (TH prog w k,J2 x)) (t.put (P t.mask (TH prog w k) n).j).1)) (Zs q (t.put (P t.mask (TH prog w k) n).j).2 (TH prog w k,J2 x)).toList (ks.take (t.put (P t.mask (TH prog w k) n).j).2++k::ks.drop (t.put (P t.mask (TH prog w k) n).j).2):=by
   rw [k8]
   exact((X.take _).append (.cons W (X.drop _))).mono fun k b=>TK.keep H G y
  have z:Zd (ks.take (t.put (P t.mask (TH prog w k) n).j).2++k::ks.drop (t.put (P t.mask (TH prog w k) n).j).2) (k::ks):=by
   refine List.perm_middle.trans ?_;rw [Yh]
  have u:(ks.take (t.put (P t.mask (TH prog w k) n).j).2++k::ks.drop (t.put (P t.mask (TH prog w k) n).j).2).Nodup:=z.nodup_iff.mpr (Q9.mpr ⟨d,U⟩)
  have K:∀ e∈(Zs q (t.put (P t.mask (TH prog w k) n).j).2 (TH prog w k,J2 x)).toList,V e.2:=fun e he=>by
   have:=(Y2 q (t.put (P t.mask (TH prog w k) n).j).2 (TH prog w k,J2 x)).mem_iff.mp he
   rw [Array.toList_push,QE,Qy]at this;rcases this with h | rfl
   ·exact hV e h
   ·exact hx
  have f:(t.put (P t.mask (TH prog w k) n).j).1.fill=t.place.toList.length+1:=by
   show(Zs t.place (Zm t.place (P t.mask (TH prog w k) n).j) (P t.mask (TH prog w k) n).j).size+(if has t.dummies _=true then _ else t.dummies).size=_
   rw [T.dum,<- Qt,(Y2 _ _ _).length_eq]
   simp [has]
  have B:(t.put (P t.mask (TH prog w k) n).j).1.fits (Zs q (t.put (P t.mask (TH prog w k) n).j).2 (TH prog w k,J2 x)).size=true:=by
   unfold Ue;rw [f,p]
   have:(t.put (P t.mask (TH prog w k) n).j).1.place.size=q.size+1:=by
    show(Zs t.place (Zm t.place (P t.mask (TH prog w k) n).j) (P t.mask (TH prog w k) n).j).size=_
    rw [<- Qt,(Y2 _ _ _).length_eq];simp;rw [<- Qt,i,r]
   rw [this];simp only [beq_self_eq_true,Yz,decide_eq_true_eq]
   show t.place.toList.length+1<=t.mask
   lia
  by_cases c:(t.put (P t.mask (TH prog w k) n).j).1.tooFull=true
  ·rw [c];simp only [UB,JL,if_true]
   have F:(t.place.toList.length+1) * 5 >= t.mask * 3:=by
    unfold SetTable.tooFull at c;rw [f]at c;exact of_decide_eq_true c
   obtain⟨M,m1,m2,m3,m4⟩:=TM T F (by lia);refine Qa (HY (V:=V) hg J rfl B O X2 u K (M:=M) ?_ m2 ?_ ?_ ?_ ?_)
   ·rw [r,<- i];exact m1
   ·rw [p,r,<- i];exact m3
   ·rw [r,<- i];exact m4
   ·rw [p,QW];lia
   ·intro h' ks' I S' pk;exact Qb (Y d h' ks' (y.trans I) S' (pk.trans z))
  ·rw [JG]at c;rw [c];simp only [Bool.and_false,Qp,if_false]
   have F:(t.place.toList.length+1) * 5<t.mask * 3:=by
    unfold SetTable.tooFull at c;rw [f]at c
    have:=of_decide_eq_false c
    have e:(t.put (P t.mask (TH prog w k) n).j).1.mask=t.mask:=rfl;rw [e]at this;lia
   have T2:=Wk T n2 Z F t.plain;refine Qa (Qb (Qb (Y d _ _ y ⟨_,_,_,_,hg,J,rfl,?_,O,X2,u,K⟩ z)));rw [k8,QX,Qk,List.map_take,List.map_drop];exact T2
end
section
variable {prog:JY}{w:J1}{A:Around}{R:Result->JT->Prop}{I:YP}{fp wr:List YP}{G:Array Vg->Array Vg->Prop}{n:Nat}{Pv:Nat->JS->Prop}{St:Nat->JT->Prop}{V:JS->Prop}
abbrev nS(w:J1):Obj:={ cls:=.type "set",dict:=none,data:=.set #[] 0 (.fresh 0 0 (jH w)) }
theorem TK.at{h h':Heap}{k:List Int}{b:YP}(x:TK prog w h k b)(e:∀ o,h.get? b=some o->h'.get? b=some o):TK prog w h' k b:=by
 obtain⟨o,a,n,c,r⟩:=x
 exact⟨o,a,n,e o c,r⟩
theorem cG.moved{h h':Heap}{a:YP}{ks:List (List Int)}(S:cG prog w V h a ks)(e:∀ b o,h.get? b=some o->(b=a ∨ ∃ k,TK prog w h k b)->h'.get? b=some o):cG prog w V h' a ks:=by
 obtain⟨o,n,p,t,j,f,l,T,i,X,d,m⟩:=S
 exact⟨o,n,p,t,e a o j (.inl rfl),f,l,T,i,X.mono fun k b x=>x.at fun g c=>e b g c (.inr ⟨k,x⟩),d,m⟩
def mZ(b:List (List Int))(a:Nat->List Int)(i:Nat):Prop:=∀ k,k∈b ↔ ∃ j,j<i/\a j=k
theorem cG.nodup{h:Heap}{a:YP}{c:List (List Int)}(S:cG prog w V h a c):c.Nodup:=by
 obtain⟨o,j,k,t,f,d,g,T,e,X,b,i⟩:=S;exact b
theorem Ki(W:WalksS prog w A.in1 I fp wr G n Pv St)(S:YP)(a6:S∉fp)(hu:A.in1.units<Zg)(a:Nat->List Int)(g:Heap)
  (d:∀ b o,g.get? b=some o->b≠S/\b∉wr) (a0:∀ i v,i<n->Pv i v->V v/\∃ b,v=.ref b/\TK prog w g (a i) b) (K:∀ ks:List (List Int),ks.Nodup->(∀ k∈ks,∃ j,j<n/\a j=k)->ks.length<=75):
  ∀(k i:Nat) (s:JT) (ks:List (List Int)),n-i=k->i<=n->St i s->(∀ b o,g.get? b=some o->s.heap.get? b=some o)->
   cG prog w (fun v=>V v/\∃ k b,v=.ref b/\TK prog w g k b) s.heap S ks->mZ ks a i->
   (∀ s' ks',Moved (S::wr) G s s'->(∀ b o,g.get? b=some o->s'.heap.get? b=some o)->cG prog w (fun v=>V v/\∃ k b,v=.ref b/\TK prog w g k b) s'.heap S ks'->mZ ks' a n->R (.ok (.ret .none)) s')->
   Ui (JX prog w) A (.builtin "set.update.loop" ⟨[.ref S,.ref I],[]⟩) R s:=by
 have b3:S∉wr:=fun h=>a6 (W.sub _ h);have E:∀ b∈wr,b∈S::wr:=fun b K=>Qg _ K
 have a2:∀(s s':JT) ks,Moved wr G s s'->(∀ b o,g.get? b=some o->s.heap.get? b=some o)->cG prog w (fun v=>V v/\∃ k b,v=.ref b/\TK prog w g k b) s.heap S ks->cG prog w (fun v=>V v/\∃ k b,v=.ref b/\TK prog w g k b) s'.heap S ks:=fun s s' ks z M Y=>by
  obtain⟨o,es,ep,t,ho,a3,hd,T,hp,X,a1,hV⟩:=Y
  refine⟨o,es,ep,t,z.heap S _ b3 ho,a3,hd,T,hp,?_,a1,hV⟩
  clear hd a3 ho T hp
  have:∀ e∈es.toList,∃ k b,e.2=.ref b/\TK prog w g k b:=fun e he=>(hV e he).2
  revert this
  clear hV a1;generalize es.toList=l at X;intro this
  induction X with
  | nil=>exact .nil
  | @cons k b es ks h1 hr ih=>
   refine .cons ?_ (ih fun e he=>this e (Qg _ he));obtain⟨k',b',e1,e2⟩:=this _ Qh
   have b6:b=b':=by injection e1
   subst b6;obtain⟨o',a8,n',Q,r⟩:=e2;refine h1.at fun o2 b0=>?_
   have:=M b o' Q
   rw [b0]at this;cases this;exact z.heap b _ (d b _ Q).2 (M b _ Q)
 intro k
 induction k with
 | zero=>
  intro i s ks hk hi O M Y Z hR
  have b1:i=n:=by lia
  subst b1;refine Jc F.entry_set_update_loop ?_;rw [Ji Jn _]
  show JW _ A.in1 (UI (.ref I) >>= _) _ _ s
  refine Qa (W.done s _ _ O fun s' z=>?_)
  show JW _ A.in1 (ret J9) _ _ s'
  exact Qb (hR s' ks (z.mono E) (fun b o e=>z.heap b o (d b o e).2 (M b o e)) (a2 s s' ks z M Y) Z)
 | succ k ih=>
  intro i s ks hk hi O M Y Z hR
  have B:i<n:=by lia
  refine Jc F.entry_set_update_loop ?_;rw [Ji Jn _]
  show JW _ A.in1 (UI (.ref I) >>= _) _ _ s
  refine Qa (W.item i s _ _ B O fun v s' hP H z=>?_);obtain⟨b2,b,rfl,a5⟩:=a0 i v B hP;have U:∀ b o,g.get? b=some o->s'.heap.get? b=some o:=fun b o e=>z.heap b o (d b o e).2 (M b o e);have a4:TK prog w s'.heap (a i) b:=a5.at fun o e=>U b o e;have a7:=a2 s s' ks z M Y
  show JW _ A.in1 (Uh [J2 b] (setAdd S (.ref b)) >>= _) _ _ s'
  refine Qa (Q6 ?_);unfold setAdd;refine Q6 ?_;refine Qa (wpAny_pyHash_tuple hu a4 ?_);have b7:=K ks Y.nodup fun k hk=>let⟨j,hj,e⟩:=(Z k).mp hk;⟨j,by lia,e⟩
  have f:∀(h':Heap) (tk:Nat),s'.toks<=tk->Zi S s'.heap h'->Moved (S::wr) G s { s' with heap:=h',toks:=tk }:=fun h' tk a9 p=>
   (z.mono E).then_heap a9 fun b o K e=>by rw [p.2 b (fun h:b=S=>K (by rw [h];exact Qh))];exact e
  refine Eu (V:=fun v=>V v/\∃ k b,v=.ref b/\TK prog w g k b) (s:={ s' with toks:=s'.toks+((a i).length+1) }) hu a7 a4 ⟨b2,a i,b,rfl,a5⟩ (by lia) ?_ ?_
  ·intro J;refine Qb ⟨UO Jn _,ih (i+1) _ ks (by lia) B (W.frame _ s' s'.heap _ H (Yt _ _) fun b K o e=>e) U a7 ?_ fun N m q y u x=>?_⟩
   ·intro k';rw [Z k'];constructor
    ·rintro⟨j,hj,e⟩;exact⟨j,by lia,e⟩
    ·rintro⟨j,hj,e⟩
     by_cases c:j=i
     ·subst c;subst e;exact(Z _).mp J
     ·exact⟨j,by lia,e⟩
   ·exact hR N m (Moved.trans W.gtrans (f s'.heap _ (Yt _ _) (JA S _)) q) y u x
  ·intro J h' ks' p b4 hp
   have b5:∀ b o,g.get? b=some o->h'.get? b=some o:=fun b o e=>by
    rw [p.2 b (d b o e).1];exact U b o e
   refine Qb ⟨UO Jn _,ih (i+1) _ ks' (by lia) B (W.frame _ s' _ _ H (Yt _ _) fun b K o e=>?_) b5 b4 ?_ fun N m q y u x=>?_⟩
   ·rw [p.2 b (fun h:b=S=>a6 (by rw [<- h];exact K))];exact e
   ·intro k';rw [hp.mem_iff,Ql,Z k'];constructor
    ·rintro(rfl | ⟨j,hj,e⟩)
     ·exact⟨i,by lia,rfl⟩
     ·exact⟨j,by lia,e⟩
    ·rintro⟨j,hj,e⟩
     by_cases c:j=i
     ·subst c;exact .inl e.symm
     ·exact .inr ⟨j,by lia,e⟩
   ·exact hR N m (Moved.trans W.gtrans (f h' _ (Yt _ _) p) q) y u x
end
section
variable {prog:JY}{w:J1}{A:Around}{E:JS->JT->Prop}{s:JT}
theorem G5(a:JS){Q₁:JS->JT->Prop}
  (h:Q₁ (.ref s.heap.objs.size) { s with heap:=s.heap.push (nS w) }):
  Ui (JX prog w) A (.call (.builtin "set.__new__") ⟨[.type "set",a],[]⟩) (wants Q₁ E) s:=by
 refine codeAny_of_tree ?_
 show JW _ A.in1 (checkBuiltinCall "set.__new__" ⟨[.type "set",a],[]⟩ >>= fun _=>again (.builtin "set.__new__" ⟨[.type "set",a],[]⟩)) _ _ s
 refine Qa (Ve (F.newCall_set_1 a) (Qb ⟨UO F.plain_set_new _,Jc F.entry_set_new ?_⟩));rw [Ji F.plain_set_new _];unfold Builtin.«set.__new__» Builtin.Frozenset.newClass;have b:=sub_set_self;obtain⟨f,g,d,c,e⟩:=s;dsimp only
 wp_walk
 refine UM (Qb ?_);dsimp only;simp only [newObj];refine Qa (wpAny_alloc (Qb ?_));exact Qb h
theorem X7:isSubtype (.type "tuple") (.type "set")=pure false:=by rw [UC];kernel_rfl
theorem X6:isSubtype (.type "tuple") (.type "frozenset")=pure false:=by rw [UC];kernel_rfl
variable {V:JS->Prop}
theorem Pe{l:YP}{items:Array JS}{kl:List (List Int)}{Q:JS->JT->Prop}
  (hh:A.handled=none) (hu:A.units+8<Zg) (hl:s.heap.IsList l items) (hi:∀ i v,items[i]?=some v->V v/\∃ b,v=.ref b/\TK prog w s.heap (kl.getD i []) b) (hb:∀ ks:List (List Int),ks.Nodup->(∀ k∈ks,∃ j,j<items.size/\kl.getD j []=k)->ks.length<=75)
  (h:∀(h':Heap) (tk:Nat) ks,cG prog w V h' s.heap.objs.size ks->mZ ks (fun i=>kl.getD i []) items.size->
   (∀ b o,s.heap.get? b=some o->h'.get? b=some o)->Q (.ref s.heap.objs.size) { s with heap:=h',toks:=tk }):
  JW (JX prog w) A (call (.type "set") [.ref l]) Q E s:=by
 obtain⟨c,tl,a8⟩:=F.called_set.mro;have X:=F.called_set.made;have a5:=F.called_set.sub;refine wpAny_call (codeAny_of_tree ?_)
 show JW _ _ (callAny (.type "set") _) _ _ _
 refine Qb ⟨Code.quiet_builtin _ (by decide +kernel),Jc F.entry_type_call ?_⟩;rw [Around.under_plain (weight_type_call_type "set" [.ref l] []) rfl];have h1:=F.called_set.notType;have h2:=F.called_set.canCreate;have b1:=F.typeCall_set_1 (.ref l)
 repeat (any_goals (first | assumption | wp_step))
 refine Y1 (G5 (.ref l) (E:=E) (Q₁:=fun B m=>B=.ref s.heap.objs.size/\m={ s with heap:=s.heap.push (nS w) }) ⟨rfl,rfl⟩) fun r m W=>?_
 cases r with
 | error e=>exact W
 | ok fl=>
  cases fl with
  | ret B=>
   obtain⟨rfl,rfl⟩:=W;have hS:(s.heap.push (nS w)).get? s.heap.objs.size=some (nS w):=Qu _ rfl;have hT:Shared.TypeIs { s with heap:=s.heap.push (nS w) } (.ref s.heap.objs.size) "set":=⟨_,hS,rfl⟩;have b0:=F.called_set.init.lookup;have b2:=F.called_set.init.bind (.ref s.heap.objs.size)
   repeat (any_goals (first | assumption | wp_step))
   refine Y1 (codeAny_call_builtin (R:=wants (fun r g=>r=.none/\∃ h' tk ks,g={ s with heap:=h',toks:=tk } /\
     cG prog w V h' s.heap.objs.size ks/\mZ ks (fun i=>kl.getD i []) items.size /\
     (∀ b o,s.heap.get? b=some o->h'.get? b=some o)) E) F.called_set.init.plain F.entry_set_init (check_set_init_1 hT ?_)) fun z g a=>?_
   ·obtain⟨ol,H,O,nl,N⟩:=hl;obtain⟨a4,n,U,d⟩:=ol
    simp only at O N
    subst O;subst N;have G:(s.heap.push (nS w)).get? l=some { cls:=.type "list",dict:=n,data:=.seq items nl,slots:=d }:=Qf _ H;have a6:=F.sub_list_set;have a7:=F.sub_list_frozenset
    have a9:(ZW "list" == ZW "dict")=false:=by decide
    have K:(s.heap.push (nS w)).IsList l items:=⟨_,G,rfl,nl,rfl⟩;unfold Builtin.«set.__init__» noKeywords Builtin.Frozenset.updateFrom;generalize hPI:pyIter=PI
    wp_walk
    subst hPI;refine Uz K ?_;refine Qa (wpAny_runValue ?_);have J:l<s.heap.objs.size:=Qs H
    have Z:A.in1.in1.in1.handled=none:=by simp [hh]
    have I:l≠(s.heap.push (nS w)).objs.size:=by
     rw [YQ];exact QB (Nat.lt_succ_of_lt J)
    have a0:s.heap.objs.size∉[(s.heap.push (nS w)).objs.size,l]:=by
     rw [YQ];simp only [Ql,Qy,JH,or_false,not_or]
     exact⟨QB (JD _),YZ J⟩
    have f:A.in1.in1.in1.units<Zg:=by
     show A.units+1+1+1<Zg
     lia
    refine Ki (V:=V) ((Walks.list Z _ l I items).toS) s.heap.objs.size
     a0 f (fun i=>kl.getD i []) s.heap (fun b o e=>?_) (fun i v _ hv=>hi i v hv) hb (items.size-0) 0 _ [] (by lia) (QR _)
     ⟨⟨_,Qu _ rfl,rfl,rfl⟩,(K.push _)⟩ (fun b o e=>?_) ?hS0 ?hK0 ?hR
    ·have p:b<s.heap.objs.size:=Qs e
     refine⟨QB p,fun y=>?_⟩
     rw [YQ]at y
     have:b=s.heap.objs.size+1:=Qy.mp y
     rw [this]at p;exact absurd p (Nat.not_lt.mpr (Nat.le_succ _))
    ·exact Qf _ (Qf _ e)
    case hS0=>
     have M:((s.heap.push (nS w)).push { cls:=.type "list_iterator",data:=.fields #[.ref l,.int 0 0] }).get? s.heap.objs.size
       = some (nS w):=Qf _ hS
     exact⟨_,#[],0,_,M,⟨rfl,rfl,rfl⟩,rfl,⟨.inl rfl,rfl,rfl,ZP,fun x hx=>by simp [SetTable.fresh]at hx,(by show 0 * 5<7 * 3;decide),fun q hq=>by simp at hq⟩,⟨rfl,rfl⟩,.nil,Y8,fun e he=>by simp at he⟩
    case hK0=>
     intro k;simp
    case hR=>
     intro s' ks y h0 t hK;obtain⟨h',g',d',S,T⟩:=s';have eg:g'=s.gens:=y.gens;have ed:d'=s.drawn:=y.drawn;have eo:T=s.os:=y.os;subst eg;subst ed;subst eo
     show JW _ _ _ _ _ _
     refine Qb ?_
     show JW _ _ (ret J9) _ _ _
     obtain⟨o',a2,a3,t',z1,z2,z3,z4,z5,z6,z7,z8⟩:=t;exact Qb ⟨rfl,h',S,ks,rfl,⟨o',a2,a3,t',z1,z2,z3,z4,z5,z6,z7,fun e he=>(z8 e he).1⟩,hK,fun b o e=>h0 b o e⟩
   ·cases z with
    | error e=>exact a
    | ok u=>
     cases u with
     | ret r=>
      obtain⟨rfl,h',tk,ks,rfl,t,a1,Y⟩:=a
      repeat (any_goals (first | assumption | wp_step))
      exact h _ _ _ t a1 Y
     | _=>exact a.elim
  | _=>exact W.elim
theorem Pc{l:YP}{items:Array JS}{kl:List (List Int)}{Q:JS->JT->Prop}
  (hh:A.handled=none) (hu:A.units+8<Zg) (hl:s.heap.IsTuple l items) (hi:∀ i v,items[i]?=some v->V v/\∃ b,v=.ref b/\TK prog w s.heap (kl.getD i []) b) (hb:∀ ks:List (List Int),ks.Nodup->(∀ k∈ks,∃ j,j<items.size/\kl.getD j []=k)->ks.length<=75)
  (h:∀(h':Heap) (tk:Nat) ks,cG prog w V h' s.heap.objs.size ks->mZ ks (fun i=>kl.getD i []) items.size->
   (∀ b o,s.heap.get? b=some o->h'.get? b=some o)->Q (.ref s.heap.objs.size) { s with heap:=h',toks:=tk }):
  JW (JX prog w) A (call (.type "set") [.ref l]) Q E s:=by
 obtain⟨c,tl,a8⟩:=F.called_set.mro;have X:=F.called_set.made;have a5:=F.called_set.sub;refine wpAny_call (codeAny_of_tree ?_)
 show JW _ _ (callAny (.type "set") _) _ _ _
 refine Qb ⟨Code.quiet_builtin _ (by decide +kernel),Jc F.entry_type_call ?_⟩;rw [Around.under_plain (weight_type_call_type "set" [.ref l] []) rfl];have h1:=F.called_set.notType;have h2:=F.called_set.canCreate;have b1:=F.typeCall_set_1 (.ref l)
 repeat (any_goals (first | assumption | wp_step))
 refine Y1 (G5 (.ref l) (E:=E) (Q₁:=fun B m=>B=.ref s.heap.objs.size/\m={ s with heap:=s.heap.push (nS w) }) ⟨rfl,rfl⟩) fun r m W=>?_
 cases r with
 | error e=>exact W
 | ok fl=>
  cases fl with
  | ret B=>
   obtain⟨rfl,rfl⟩:=W;have hS:(s.heap.push (nS w)).get? s.heap.objs.size=some (nS w):=Qu _ rfl;have hT:Shared.TypeIs { s with heap:=s.heap.push (nS w) } (.ref s.heap.objs.size) "set":=⟨_,hS,rfl⟩;have b0:=F.called_set.init.lookup;have b2:=F.called_set.init.bind (.ref s.heap.objs.size)
   repeat (any_goals (first | assumption | wp_step))
   refine Y1 (codeAny_call_builtin (R:=wants (fun r g=>r=.none/\∃ h' tk ks,g={ s with heap:=h',toks:=tk } /\
     cG prog w V h' s.heap.objs.size ks/\mZ ks (fun i=>kl.getD i []) items.size /\
     (∀ b o,s.heap.get? b=some o->h'.get? b=some o)) E) F.called_set.init.plain F.entry_set_init (check_set_init_1 hT ?_)) fun z g a=>?_
   ·obtain⟨ol,H,O,nl,N⟩:=hl;obtain⟨a4,n,U,d⟩:=ol
    simp only at O N
    subst O;subst N;have G:(s.heap.push (nS w)).get? l=some { cls:=.type "tuple",dict:=n,data:=.seq items nl,slots:=d }:=Qf _ H;have a6:=X7;have a7:=X6
    have a9:(ZW "tuple" == ZW "dict")=false:=by decide
    have K:(s.heap.push (nS w)).IsTuple l items:=⟨_,G,rfl,nl,rfl⟩;unfold Builtin.«set.__init__» noKeywords Builtin.Frozenset.updateFrom;generalize hPI:pyIter=PI
    wp_walk
    subst hPI;refine wpAny_pyIter_tuple K ?_;refine Qa (wpAny_runValue ?_);have J:l<s.heap.objs.size:=Qs H
    have Z:A.in1.in1.in1.handled=none:=by simp [hh]
    have I:l≠(s.heap.push (nS w)).objs.size:=by
     rw [YQ];exact QB (Nat.lt_succ_of_lt J)
    have a0:s.heap.objs.size∉[(s.heap.push (nS w)).objs.size,l]:=by
     rw [YQ];simp only [Ql,Qy,JH,or_false,not_or]
     exact⟨QB (JD _),YZ J⟩
    have f:A.in1.in1.in1.units<Zg:=by
     show A.units+1+1+1<Zg
     lia
    refine Ki (V:=V) ((Walks.tuple Z _ l I items).toS) s.heap.objs.size
     a0 f (fun i=>kl.getD i []) s.heap (fun b o e=>?_) (fun i v _ hv=>hi i v hv) hb (items.size-0) 0 _ [] (by lia) (QR _)
     ⟨⟨_,Qu _ rfl,rfl,rfl⟩,(K.push _)⟩ (fun b o e=>?_) ?hS0 ?hK0 ?hR
    ·have p:b<s.heap.objs.size:=Qs e
     refine⟨QB p,fun y=>?_⟩
     rw [YQ]at y
     have:b=s.heap.objs.size+1:=Qy.mp y
     rw [this]at p;exact absurd p (Nat.not_lt.mpr (Nat.le_succ _))
    ·exact Qf _ (Qf _ e)
    case hS0=>
     have M:((s.heap.push (nS w)).push { cls:=.type "tuple_iterator",data:=.fields #[.ref l,.int 0 0] }).get? s.heap.objs.size
       = some (nS w):=Qf _ hS
     exact⟨_,#[],0,_,M,⟨rfl,rfl,rfl⟩,rfl,⟨.inl rfl,rfl,rfl,ZP,fun x hx=>by simp [SetTable.fresh]at hx,(by show 0 * 5<7 * 3;decide),fun q hq=>by simp at hq⟩,⟨rfl,rfl⟩,.nil,Y8,fun e he=>by simp at he⟩
    case hK0=>
     intro k;simp
    case hR=>
     intro s' ks y h0 t hK;obtain⟨h',g',d',S,T⟩:=s';have eg:g'=s.gens:=y.gens;have ed:d'=s.drawn:=y.drawn;have eo:T=s.os:=y.os;subst eg;subst ed;subst eo
     show JW _ _ _ _ _ _
     refine Qb ?_
     show JW _ _ (ret J9) _ _ _
     obtain⟨o',a2,a3,t',z1,z2,z3,z4,z5,z6,z7,z8⟩:=t;exact Qb ⟨rfl,h',S,ks,rfl,⟨o',a2,a3,t',z1,z2,z3,z4,z5,z6,z7,fun e he=>(z8 e he).1⟩,hK,fun b o e=>h0 b o e⟩
   ·cases z with
    | error e=>exact a
    | ok u=>
     cases u with
     | ret r=>
      obtain⟨rfl,h',tk,ks,rfl,t,a1,Y⟩:=a
      repeat (any_goals (first | assumption | wp_step))
      exact h _ _ _ t a1 Y
     | _=>exact a.elim
  | _=>exact W.elim
end
end ST
namespace SL
open PySem.Spec L2 CL DL SD ST
section
variable {X:Cx}{pins:List (YP × Obj)}{σ:L2.St}{H:Hp}{s:JT}
theorem iY(I:Inv X pins σ H s){b:YP}{k:List Int}(h:bJ X.K H b (k.map V.int)):TK X.prog X.w s.heap k b:=by
 obtain⟨a,c,j,l⟩:=I.tuple h;obtain⟨o,f,e,n,d⟩:=j
 refine⟨o,a.toArray,n,f,e,d,?_⟩
 show ItemsAre (intKind X.prog X.w) k a
 clear h d f e l;generalize hxs:k.map V.int=g at c
 induction c generalizing k with
 | nil=>
  cases k with
  | nil=>exact .nil
  | cons _ _=>simp at hxs
 | @cons x u g us r t ih=>
  cases k with
  | nil=>simp at hxs
  | cons i k=>
   rw [Qk,List.cons.injEq]at hxs;obtain⟨p,m⟩:=hxs;subst p;obtain⟨q,rfl⟩:=r;exact .cons (intKind_is _ _ _ _) (ih m)
abbrev rJ:=List (List Int)->Hp->Prop
abbrev o7:=L2.St->Hp->rJ->Prop
def Dh(X:Cx)(pins:List (YP × Obj))(d:L2.St)(Q:rJ)(u:JS)(c:JT):Prop:=
 ∃ a o ks H',u=.ref a/\Inv X ((a,o)::pins) d H' c/\cG X.prog X.w (fun v=>∃ b,∃ xs:List Int,v=.ref b/\bJ X.K H' b (xs.map V.int)) c.heap a ks/\(∀ p∈pins,p.1≠a)/\Q ks H'
def rM(X:Cx)(e:Expr)(t:o7):Prop:=
 ∀(pins:List (YP × Obj)) (s:JT) (σ:L2.St) (H:Hp) (Q:rJ),Inv X pins σ H s->t σ H Q->JW (JX X.prog X.w) X.A (Za e X.env) (Dh X pins σ Q) X.xe s
def ON(K:PySem.W.Frag)(t:TA):o7:=fun d H Q=>t d H fun e c=>∃(a:YP) (xs:List V) (kl:List (List Int)),e=[.ref a]/\(bY K c a xs ∨ bJ K c a xs)/\(∀ ks:List (List Int),ks.Nodup->(∀ k∈ks,k∈kl)->ks.length<=75)/\xs.length=kl.length/\(∀(i:Nat) (x:V),xs[i]?=some x->∃ b,x=.ref b/\bJ K c b ((kl.getD i []).map V.int))/\∀ ks:List (List Int),ks.Nodup->(∀ k,k∈ks ↔ k∈kl)->Q ks c
theorem ps_set{x:Str}{e:Expr}{p r:Pos}{t:TA}(hc:X.calm=true)(hu:X.A.units+64<Zg)(hg:Gl X x)(hm:X.mg x=none)(z:Zn x=some (.type "set"))(ha:PA X [e] t)(hn:x≠"__name__":=by decide)(Z:(x == ("__debug__":Str))=false:=by decide)
  (he:JU [e] X.env=(false,Za e X.env)::JU [] X.env:=by rfl) (hpl:(Zb r (JU [] X.env)).any (·.1)=false:=by rfl):
  rM X (.Call (.Name x p) [e] [] r) (ON X.K t):=by
 intro f s O H Q I h;refine YM (oS I hg hm z ?_ hn Z);refine Y0 (aU (ha r f s O H _ I h) fun us s1 ⟨vs,N,I1,r1,q1⟩=>?_) he hpl;obtain⟨a,y,kl,rfl,G,a0,M,W,q⟩:=q1;obtain⟨u,rfl,ru⟩:=jQ r1;cases ru
 have go:∀ c:List JS,Vals y c->(∀(d:List (List Int)) (T:JS->JT->Prop),(∀ i v,c.toArray[i]?=some v->(∃ b,∃ y:List Int,v=.ref b/\bJ X.K N b (y.map V.int))/\∃ b,v=.ref b/\TK X.prog X.w s1.heap (d.getD i []) b)->
   (∀ g:List (List Int),g.Nodup->(∀ k∈g,∃ j,j<c.toArray.size/\d.getD j []=k)->g.length<=75)->(∀(E:Heap) (S:Nat) g,cG X.prog X.w (fun v=>∃ b,∃ y:List Int,v=.ref b/\bJ X.K N b (y.map V.int)) E s1.heap.objs.size g->mZ g (fun i=>d.getD i []) c.toArray.size->
   (∀ b o,s1.heap.get? b=some o->E.get? b=some o)->T (.ref s1.heap.objs.size) { s1 with heap:=E,toks:=S })->JW (JX X.prog X.w) X.A (call (.type "set") [.ref a]) T X.xe s1)->
   JW (JX X.prog X.w) X.A (call (.type "set") [.ref a]) (Dh X f O Q) X.xe s1:=by
  intro c l cs
  have U:c.toArray.size=kl.length:=by rw [QI,<- l.length,M]
  refine cs kl _ (fun i v z=>?_) (fun g n m=>a0 g n fun k Y=>let⟨j,B,e⟩:=m k Y;by rw [<- e,YI,Qi (by lia)];exact Ys _) fun E S g S' K' keep=>?_
  ·have F:c[i]?=some v:=by simpa using z
   have hi:i<y.length:=by
    have:=(Qe.mp F).1
    rw [l.length];exact this
   obtain⟨u,e1,e2⟩:=Vals.get l (Qi hi);rw [F]at e1;cases e1;obtain⟨b,e3,e4⟩:=W i _ (Qi hi);rw [e3]at e2;cases e2
   exact⟨⟨b,_,rfl,e4⟩,b,rfl,iY I1 e4⟩
  ·obtain⟨o,es,ep,t,z1,z2,z3,z4,z5,z6,z7,z8⟩:=S';have I2:Inv X f O N { s1 with heap:=E,toks:=S }:=I1.kept keep
   have I3:Inv X ((s1.heap.objs.size,o)::f) O N { s1 with heap:=E,toks:=S }:=by
    refine I2.pins_of fun p J=>?_;rcases Ql.mp J with rfl | J
    ·refine⟨z1,I1.hok.fresh (Qj _),YZ I1.lt,I1.nofs (Qj _),fun v z=>?_⟩
     rw [z3]at z;exact nomatch z
    ·exact I2.pin p (Qz _ J)
   refine⟨_,o,g,N,rfl,I3,⟨o,es,ep,t,z1,z2,z3,z4,z5,z6,z7,z8⟩,fun p J=>QB (Qs (I1.pin p (Qz _ J)).1),q g z7 fun k=>(K' k).trans ?_⟩
   rw [U];constructor
   ·rintro⟨j,B,rfl⟩
    show kl.getD j []∈kl
    rw [YI,Qi B];exact Ys B
   ·intro Y;obtain⟨j,B⟩:=QY Y
    refine⟨j,(Qe.mp B).1,?_⟩
    show kl.getD j []=k
    rw [YI,B];rfl
 rcases G with G | G
 ·obtain⟨c,l,pl,_⟩:=I1.list G;exact go c l fun d T h1 h2 h3=>Pe (kl:=d) (I1.ok.hd hc) (by lia) pl.isList h1 h2 h3
 ·obtain⟨c,l,it,hz⟩:=I1.tuple G;exact go c l fun d T h1 h2 h3=>Pc (kl:=d) (I1.ok.hd hc) (by lia) it h1 h2 h3
end
def qF:List D->Option (List (List Int))
 | []=>some []
 | .tuple ds::r=>(dJ ds).bind fun b=>(qF r).bind fun a=>some (b::a)
 | _=>none
theorem Ic{K:PySem.W.Frag}{F:YP->Prop}{H:Hp}:∀{ds:List D}{vs:List V}{kl:List (List Int)},Reps K F H ds vs->qF ds=some kl->ds.length=kl.length/\∀(i:Nat) (x:V),vs[i]?=some x->∃ b,x=.ref b/\bJ K H b ((kl.getD i []).map V.int):=by
 intro ds
 induction ds with
 | nil=>intro vs kl r h;cases r;cases h;exact⟨rfl,fun i x e=>by simp at e⟩
 | cons d ds k=>
  intro vs kl r h
  cases r with
  | cons f r=>
   cases d with
   | tuple n=>
    cases f with
    | tup a c=>
     obtain⟨p,m,h⟩:=aE h;obtain⟨o,l,h⟩:=aE h;cases h;obtain⟨j,g⟩:=k r l
     refine⟨by simp [j],fun i x e=>?_⟩
     cases i with
     | zero=>
      cases e
      refine⟨_,rfl,?_⟩
      rw [xX c m]at a;exact a
     | succ i=>exact g i x (by simpa using e)
   | _=>cases h
def DX(K:PySem.W.Frag)(g:aA->Option (List (List Int))):o7:=fun a H Q=>m9 K a H g fun F b=>∀ F' H' (ks:List (List Int)),aH F F' H H'->ks.Nodup->(∀ k,k∈ks ↔ k∈b)->Q ks H'
def uO(X:Cx)(e:Expr)(g:aA->Option (List (List Int))):Prop:=rM X e (DX X.K g)
def dd:List (List Int)->List (List Int)
 | []=>[]
 | k::r=>if k∈r then dd r else k::dd r
def sI:List D->Option (List (List Int))
 | [.list xs]=>if xs.length<=1000 then(qF xs).bind fun l=>if(dd l).length<=75 then some l else none else none
 | [.tuple xs]=>if xs.length<=1000 then(qF xs).bind fun l=>if(dd l).length<=75 then some l else none else none
 | _=>none
def jU(gr:aA->Option (List D)):aA->Option (List (List Int)):=fun a=>(gr a).bind sI
theorem pX:∀{l:List (List Int)}{k:List Int},k∈dd l ↔ k∈l
 | [],k=>by simp [dd]
 | x::r,k=>by
  unfold dd;split
  ·rename_i h;rw [pX,Ql];constructor
   ·exact .inr
   ·rintro(rfl | a)
    ·exact h
    ·exact a
  ·rw [Ql,Ql,pX]
theorem Co:∀ l:List (List Int),(dd l).Nodup
 | []=>Y8
 | x::r=>by
  unfold dd;split
  ·exact Co r
  ·rename_i h;exact Q9.mpr ⟨fun q=>h (pX.mp q),Co r⟩
section
variable {X:Cx}{e:Expr}{p pos:Pos}{gr:aA->Option (List D)}{g:aA->Option (List (List Int))}
theorem ps_mono{e:Expr}{t t':o7}(h:rM X e t)(m:∀ σ H Q,t' σ H Q->t σ H Q):rM X e t':=fun a s σ H Q I q=>h a s σ H Q I (m σ H Q q)
theorem Ci:∀{l m:List (List Int)},l.Nodup->(∀ c∈l,c∈m)->l.length<=m.length
 | [],m,_,_=>QR _
 | a::l,m,hn,hs=>by
  have b:=hs a Qh
  have:=Ci (l:=l) (m:=m.erase a) (Q9.mp hn).2 fun c d=>by
   have f:c≠a:=fun e=>(Q9.mp hn).1 (e ▸ d)
   exact(List.mem_erase_of_ne f).mpr (hs c (Qg _ d))
  rw [List.length_erase_of_mem b]at this
  have:=List.length_pos_of_mem b
  rw [Qo];lia
theorem xN{x:Str}(M:X.calm=true)(I:X.A.units+64<Zg)(K:Gl X x)(J:X.mg x=none)(G:Zn x=some (.type "set"))(N:DA X [e] gr)(i:x≠"__name__":=by decide)(s:(x == ("__debug__":Str))=false:=by decide)
  (he:JU [e] X.env=(false,Za e X.env)::JU [] X.env:=by rfl) (hpl:(Zb pos (JU [] X.env)).any (·.1)=false:=by rfl):
  uO X (.Call (.Name x p) [e] [] pos) (jU gr):=
 ps_mono (ps_set M I K J G N i s he hpl) fun U H Q E=>by
  obtain⟨F,j,B,u,S,q,k⟩:=E;obtain⟨T,O,q⟩:=aE q
  refine⟨F,j,B,T,S,O,fun y w W z v=>?_⟩
  unfold sI at q
  split at q
  ·rename_i r;by_cases c:r.length<=1000
   ·rw [if_pos c]at q;obtain⟨d,q,b⟩:=aE q;by_cases g:(dd d).length<=75
    ·rw [if_pos g]at b;cases b
     cases v with
     | cons R2 t=>
      cases t
      cases R2 with
      | @lst a us _ h1 r1=>
       obtain⟨o,l⟩:=Ic r1 q
       exact⟨a,us,u,rfl,.inl h1.sq,fun h n m=>Qr (Ci n fun k f=>pX.mpr (m k f)) g,by rw [<- r1.length,o],l,fun h i f=>k y w h z i f⟩
    ·rw [if_neg g]at b;cases b
   ·rw [if_neg c]at q;cases q
  ·rename_i r;by_cases c:r.length<=1000
   ·rw [if_pos c]at q;obtain⟨d,q,b⟩:=aE q;by_cases g:(dd d).length<=75
    ·rw [if_pos g]at b;cases b
     cases v with
     | cons R2 t=>
      cases t
      cases R2 with
      | @tup a us _ h1 r1=>
       obtain⟨o,l⟩:=Ic r1 q
       exact⟨a,us,u,rfl,.inr h1,fun h n m=>Qr (Ci n fun k f=>pX.mpr (m k f)) g,by rw [<- r1.length,o],l,fun h i f=>k y w h z i f⟩
    ·rw [if_neg g]at b;cases b
   ·rw [if_neg c]at q;cases q
  ·cases q
end
end SL
namespace PySem.F
theorem set_iter_entry:entryFor table "set.__iter__"=some Builtin.«frozenset.__iter__»:=
 entryFor_alias (id':="frozenset.__iter__") (by kernel_rfl) rfl (by decide +kernel) (by kernel_rfl)
theorem set_sub_entry:entryFor table "set.__sub__"=some Builtin.«frozenset.__sub__»:=
 entryFor_alias (id':="frozenset.__sub__") (by kernel_rfl) rfl (by decide +kernel) (by kernel_rfl)
theorem HE:Manifest.owners.lookup (String.ofList ['r','o','t','a','r','e','t','i','_','t','e','s'].reverse)=some Manifest.sig_set_iterator:=by kernel_rfl
theorem si_next:Slot "set_iterator" "__next__" "set_iterator.__next__":=
 .of (owner:="set_iterator") (n:="__next__") (by rw [typeLookup_type,UE];kernel_rfl) (by decide +kernel) (by decide +kernel) (by decide +kernel)
  (.inl (by decide +kernel)) (by rw [UC];kernel_rfl)
theorem si_iter:Slot "set_iterator" "__iter__" "set_iterator.__iter__":=
 .of (owner:="set_iterator") (n:="__iter__") (by rw [typeLookup_type,UE];kernel_rfl) (by decide +kernel) (by decide +kernel) (by decide +kernel)
  (.inl (by decide +kernel)) (by rw [UC];kernel_rfl)
theorem si_iter_entry:entryFor table "set_iterator.__iter__"=some Builtin.«dict_keyiterator.__iter__»:=
 entryFor_alias (id':="dict_keyiterator.__iter__") (by kernel_rfl) rfl (by decide +kernel) (by kernel_rfl)
theorem si_iter_args(a:JS):argsOk "set_iterator.__iter__" ⟨[a],[]⟩:=by
 unfold argsOk;rw [signature?_of (id:="set_iterator.__iter__") (n:=['_','_','r','e','t','i','_','_']) (o:=['r','o','t','a','r','e','t','i','_','t','e','s']) (by kernel_rfl) HE];kernel_rfl
theorem si_next_entry:entryFor table "set_iterator.__next__"=some Builtin.«set_iterator.__next__»:=entryFor_of_tree (by kernel_rfl)
theorem si_next_args(a:JS):argsOk "set_iterator.__next__" ⟨[a],[]⟩:=by
 unfold argsOk;rw [signature?_of (id:="set_iterator.__next__") (n:=['_','_','t','x','e','n','_','_']) (o:=['r','o','t','a','r','e','t','i','_','t','e','s']) (by kernel_rfl) HE];kernel_rfl
end PySem.F
namespace ST
open PySem.SetTable
theorem IQ{b:Type}(next:Nat->Nat):∀(fuel k:Nat) (left:List b) (out:Array b),left.length=fuel->Zd (pickOrder.go next fuel k left out).toList (out.toList++left)
 | 0,k,left,out,h=>by
  have:left=[]:=List.length_eq_zero_iff.mp h
  subst this;rw [QG];exact .refl _
 | fuel+1,k,left,out,h=>by
  have a:next k % left.length<left.length:=Nat.mod_lt _ (by lia);unfold pickOrder.go;rw [Qi a];dsimp only
  refine(IQ next fuel (k+1) _ _ (by rw [List.length_eraseIdx_of_lt a];lia)).trans ?_
  rw [Array.toList_push,Qw];refine List.Perm.append_left _ ?_;rw [List.eraseIdx_eq_take_drop_succ]
  have e:left=left.take (next k % left.length)++left[next k % left.length]::left.drop (next k % left.length+1):=by
   rw [<- Q0 a,Yh]
  refine List.Perm.trans ?_ (.of_eq e.symm)
  show Zd (left[next k % left.length]::(left.take (next k % left.length)++left.drop (next k % left.length+1))) _
  exact List.perm_middle.symm
def gK(w:J1)(a ep:Nat)(es:Array (Int × JS)):Array (Int × JS):=if w.params.followText "set-order"=true then pickOrder (w.params.setOrder a ep) es else es
theorem p7(w:J1)(a ep:Nat)(es:Array (Int × JS)):Zd (gK w a ep es).toList es.toList:=by
 unfold gK;split
 ·exact(IQ _ es.size 0 es.toList #[] (by simp)).trans (by simp)
 ·exact .refl _
theorem wP(w:J1)(a ep:Nat)(es:Array (Int × JS)):(gK w a ep es).size=es.size:=by
 have:=(p7 w a ep es).length_eq
 simpa using this
theorem Pz(xs:Array Nat)(s:Up xs.toList):Zm xs 0=0:=by
 obtain⟨e,b,d⟩:=qY xs s 0;by_cases c:Zm xs 0=0
 ·exact c
 ·have a:0<xs.toList.length:=by rw [Qt];lia
  have:=b 0 _ (Qi a) (by lia)
  lia
theorem Py(xs:Array Nat)(s:Up xs.toList)(h:xs.toList[i]?=some j):Zm xs (j+1)=i+1:=by
 obtain⟨k,g,f⟩:=qY xs s (j+1);have d:=(Qe.mp h).1;rw [Qt]at d;by_cases a:Zm xs (j+1)<=i
 ·have:=f i j h a
  lia
 ·by_cases b:Zm xs (j+1)=i+1
  ·exact b
  ·have c:i+1<xs.toList.length:=by rw [Qt];lia
   have e:=Qi c
   have:=g _ _ e (by lia)
   have:=s.at h e (by lia)
   lia
structure iE(w:J1)(h:Heap)(a:YP)(o:Obj)(es:Array (Int × JS))(ep:Nat)(t:SetTable):Prop where
 get:h.get? a=some o
 ex:o.ExactSet
 data:o.data=.set es ep t
 fits:t.fits es.size=true
 up:Up t.place.toList
 plain:t.plain=true
 led:t.led=jH w
theorem iE.at(S:iE w h a o es ep t)(e:h'.get? a=some o):iE w h' a o es ep t:=⟨e,S.ex,S.data,S.fits,S.up,S.plain,S.led⟩
def qW(h:Heap)(I a:YP)(slot i n ep:Nat):Prop:=∃ o,h.get? I=some o/\o.cls=.type "set_iterator"/\o.data=.fields #[.int slot 0,.int i 0,.ref a,.int n 0,.int ep 0]
section
variable {prog:JY}{w:J1}{A:Around}{E:JS->JT->Prop}{s:JT}{I a:YP}{o:Obj}{es:Array (Int × JS)}{ep slot i:Nat}{t:SetTable}
theorem qW.typeIs(h:qW s.heap I a slot i n ep):s.TypeIs (.ref I) "set_iterator":=by
 obtain⟨o,c,b,_⟩:=h
 exact⟨o,c,b⟩
theorem wA(h:Q (w.params.followText "set-order") s):JW (JX prog w) A setsByText Q E s:=by
 unfold setsByText;exact Qa (UM (Qb h))
theorem Kl(S:iE w s.heap a o es ep t)(h:Q (gK w a ep es) s):JW (JX prog w) A (setWalk a) Q E s:=by
 unfold setWalk;refine Qa (QS S.get S.data S.fits ?_);dsimp only;refine Qa (wA ?_);unfold gK at h
 cases c:w.params.followText "set-order" with
 | true=>
  rw [c,if_pos rfl]at h;rw [if_pos rfl];exact Qa (UM (Qb h))
 | false=>
  rw [c,if_neg Qv]at h;rw [if_neg Qv]
  have d:(!t.plain && decide (es.size > 1))=false:=by rw [S.plain];rfl
  have b:(!t.led && decide (es.size > 1))=false:=by rw [S.led,jH,c];rfl
  show JW _ _ (if(!t.plain && decide (es.size > 1))=true then _ else _) _ _ s
  rw [d,if_neg Qv];refine Qa ?_
  show JW _ _ (if(!t.led && decide (es.size > 1))=true then _ else _) _ _ s
  rw [b,if_neg Qv];exact Qb (Qb h)
theorem G7(S:iE w s.heap a o es ep t)(m:w.params.followText "set-order"=false->Zm t.place slot=i)
  (d:∀ x next,(gK w a ep es)[i]?=some x->(w.params.followText "set-order"=false->Zm t.place next=i+1)->Q (some (x.2,next)) s) (f:es.size<=i->Q none s):
  JW (JX prog w) A (setNext a slot i ep) Q E s:=by
 unfold setNext;refine Qa (QS S.get S.data S.fits ?_);dsimp only;refine Qa (wA ?_)
 cases c:w.params.followText "set-order" with
 | true=>
  rw [if_pos rfl,if_neg (by simp)];refine Qa (Kl S (Qb ?_));by_cases l:i<es.size
  ·have b:i<(gK w a ep es).size:=by rw [wP];exact l
   rw [QK b]
   exact d _ _ (QK b) fun e=>by rw [c]at e;cases e
  ·rw [Yu (by rw [wP];lia)];exact f (by lia)
 | false=>
  rw [if_neg Qv]
  have k:(!t.plain && decide (es.size > 1))=false:=by rw [S.plain];rfl
  have j:(!t.led && !es.isEmpty)=false:=by rw [S.led,jH,c];rfl
  show JW _ _ (if(!t.plain && decide (es.size > 1))=true then _ else _) _ _ s
  rw [k,if_neg Qv];refine Qa ?_
  show JW _ _ (if(!t.led && !es.isEmpty)=true then _ else _) _ _ s
  rw [j,if_neg Qv];refine Qb (Qb ?_)
  have g:t.place.size=es.size:=by
   have:=S.fits
   unfold Ue at this;rw [QF,beq_iff_eq]at this;exact this.1
  rw [m c]
  have h:gK w a ep es=es:=by unfold gK;rw [c,if_neg Qv]
  rw [h]at d;by_cases l:i<es.size
  ·have b:i<t.place.size:=by lia
   rw [QK l,QK b];refine d _ _ (QK l) fun _=>Py _ S.up ?_;rw [QL,QK b]
  ·rw [Yu (by lia)];exact f (by lia)
theorem SZ(S:iE w s.heap a o es ep t)
  (h:Q (.ref s.heap.objs.size) { s with heap:=s.heap.push { cls:=.type "set_iterator",data:=.fields #[.int 0 0,.int 0 0,.ref a,.int (es.size:Nat) 0,.int (ep:Nat) 0] } }):JW (JX prog w) A (pyIter (.ref a)) Q E s:=by
 have b:s.TypeIs (.ref a) "set":=⟨o,S.get,S.ex.1⟩;refine wpAny_pyIter_slot b F.slot_set_iter (Yi F.slot_set_iter b F.set_iter_entry ?_ (F.args_set_iter_1 _));unfold Builtin.«frozenset.__iter__» Builtin.Frozenset.slot0 slotArgs;simp only [List.isEmpty_nil,Yy,Qp,↓reduceIte,bind_assoc,JM,bne_self_eq_false];unfold ZT Ug;refine Qa (Qb ?_);refine Qa (Qb ?_);refine Qa (Qa (JJ S.get S.data S.fits (Qb ?_)));unfold setDrawn;refine Qa (Qa (QS S.get S.data S.fits ?_));dsimp only;refine Qa (wA ?_);refine Qb ?_
 have c:(!(w.params.followText "set-order") && (!t.plain && decide (es.size > 1)))=false:=by rw [S.plain];simp
 show JW _ _ (if(!(w.params.followText "set-order") && (!t.plain && decide (es.size > 1)))=true then _ else _) _ _ s
 rw [c,if_neg Qv];refine Qa (Qb ?_);unfold setEpoch;refine Qa (Qa (QS S.get S.data S.fits (Qb ?_)));exact Qa (Yj (Qb ⟨_,rfl,"set_iterator",_,⟨_,Qu _ rfl,rfl⟩,F.si_next.lookup,h⟩))
theorem VG(c:qW s.heap I a slot i es.size ep)(S:iE w s.heap a o es ep t)(k:w.params.followText "set-order"=false->Zm t.place slot=i)(g:i<es.size)
  (l:∀ x h' next,(gK w a ep es)[i]?=some x->(w.params.followText "set-order"=false->Zm t.place next=i+1)->qW h' I a next (i+1) es.size ep->Zi I s.heap h'->Q (some x.2) { s with heap:=h' }):
  JW (JX prog w) A (UI (.ref I)) Q E s:=by
 obtain⟨p,b,j,f⟩:=id c;unfold UI
 refine Qa (UN (YG (name:=Zr "__next__") c.typeIs F.si_next
  (Yi F.si_next c.typeIs F.si_next_entry ?_ (F.si_next_args _))))
 show JW _ _ (fieldsOf (.ref I) >>= _) _ _ s
 refine Qa (U7 b f ?_);dsimp only;refine Qa (JJ S.get S.data S.fits ?_);rw [if_neg (by simp)];refine Qa (G7 (i:=i) (slot:=slot) S k (fun x next n m=>?_) fun h=>absurd g (by lia));dsimp only;refine Qa (YR b f (by simp) ?_);have e:=Q1 (Zt (·.setIfInBounds 0 (Z2 next))) b (Y9 (Yq f _));have d:=Yq f (fun x=>x.setIfInBounds 0 (Z2 next));refine Qa (YR e d (by simp) (Qb ⟨_,rfl,Qb (l x _ next n m ?_ ((QZ ..).trans (QZ ..)))⟩))
 refine⟨_,Q1 _ e (Y9 (Yq d _)),((Uy ..).trans (Uy ..)).trans j,?_⟩
 rw [Yq d]
 simp [Z2]
theorem VF(e:A.handled=none)(c:qW s.heap I a slot es.size es.size ep)(S:iE w s.heap a o es ep t)(h:w.params.followText "set-order"=false->Zm t.place slot=es.size)
  (j:∀ h',Heap.ExtBut I s.heap h'->Q none { s with heap:=h' }):
  JW (JX prog w) A (UI (.ref I)) Q E s:=by
 obtain⟨k,d,l,f⟩:=id c;unfold UI
 refine Qa (UN (YG (name:=Zr "__next__") c.typeIs F.si_next
  (Yi F.si_next c.typeIs F.si_next_entry ?_ (F.si_next_args _))))
 show JW _ _ (fieldsOf (.ref I) >>= _) _ _ s
 refine Qa (U7 d f ?_);dsimp only;refine Qa (JJ S.get S.data S.fits ?_);rw [if_neg (by simp)];refine Qa (G7 (i:=es.size) (slot:=slot) S h (fun x next g n=>?_) fun _=>?_)
 ·rw [Yu (by rw [wP];exact Qj _)]at g;cases g
 dsimp only;refine Qa (YR d f (by simp) ?_)
 show JW _ _ (newExc (.type "StopIteration") [] >>= _) _ _ _
 refine Qa ?_;simp only [newExc,newTuple];refine Qa (Yj ?_ (by size_fits));refine Qa (m:=U8 _ _) (Ve (a:=J9) (by first | rfl | (simp only [U8];rfl)) ?_);refine Yj ?_ (by size_fits);simp only [raiseNew];refine Qa (wpAny_handled ?_)
 first | rw [show A.in1.handled=none from e] | rw [e]
 refine Qa (Qb (wpAny_throw ?_));refine Qa (Jo (T:="StopIteration") (b:=true) ⟨_,Qu _ rfl,rfl⟩ isSubtype_stop ?_);exact Qb (j _ (((QZ ..).extBut.push _).push _))
theorem Walks.set(u:A.handled=none)(I a:YP)(j:a≠I)(o:Obj)(es:Array (Int × JS))(ep:Nat)(t:SetTable):
  Walks prog w A I [I,a] [I] es.size (fun i v=>∃ x,(gK w a ep es)[i]?=some x/\v=x.2) (fun i h=>∃ slot,(w.params.followText "set-order"=false->Zm t.place slot=i)/\qW h I a slot i es.size ep/\iE w h a o es ep t) where
 sub:=fun b d=>by simp at d;simp [d]
 frame:=fun _ _ _ ⟨slot,f,⟨q,B,z,y⟩,S⟩ m=>⟨slot,f,⟨q,m I (by simp) _ B,z,y⟩,S.at (m a (by simp) _ S.get)⟩
 item:=fun i s Q E r ⟨slot,f,c,S⟩ g=>
  VG c S f r fun x l next J H G n=>g _ l s.toks ⟨x,J,rfl⟩ ⟨next,H,G,S.at ((n.2 a j).trans S.get)⟩ fun b o d e=>n.extBut b o (fun h=>d (by simp [h])) e
 done:=fun s Q E ⟨slot,f,c,S⟩ g=>VF u c S f fun l k=>g l s.toks fun b o d e=>k b o (fun h=>d (by simp [h])) e
 self:=fun i s Q E p g=>by
  obtain⟨slot,f,c,S⟩:=p;refine wpAny_pyIter_slot c.typeIs F.si_iter (Yi F.si_iter c.typeIs F.si_iter_entry ?_ (F.si_iter_args _))
  show JW _ _ (ret (.ref I)) _ _ s
  exact Qb ⟨_,rfl,"set_iterator",_,c.typeIs,F.si_next.lookup,g⟩
end
section
variable {prog:JY}{w:J1}{A:Around}{E:JS->JT->Prop}{s:JT}
theorem TV{r:YP}{Q:Bool->JT->Prop}(c:s.TypeIs (.ref r) "set")(h:Q false s):JW (JX prog w) A (Builtin.List.listLengthHint (.ref r)) Q E s:=by
 unfold Builtin.List.listLengthHint;refine Qa (Jx c PySem.F.slot_set_len.lookup ?_);generalize hid:("set.__len__":String)=a
 wp_delta
 rw [show splitId a=some ("set","__len__")from by subst hid;decide +kernel];subst hid;refine Qa (Jo (T:="set") (b:=true) c (by rw [UC];kernel_rfl) ?_);refine wpAny_ite_split (fun z=>absurd z (by decide)) fun _=>wpAny_ite_split (fun _=>?_) fun z=>absurd (by decide +kernel) z;exact Qa (YO c (Qb h))
theorem XY(a:YP)(o:Obj)(es:Array (Int × JS))(ep:Nat)(t:SetTable):PySem.W.KdlSrc prog w "set" a a es.size (fun i v=>∃ x,(gK w a ep es)[i]?=some x/\v=x.2) (fun h=>iE w h a o es ep t) where
 type:=fun s S=>⟨o,S.get,S.ex.1⟩
 there:=fun h S=>⟨Qs S.get,Qs S.get⟩
 keep:=fun h e S b=>S.at (b a (.inl rfl) o S.get)
 notList:=by decide
 notTuple:=by decide
 hint:=fun A E s Q S h=>TV ⟨o,S.get,S.ex.1⟩ h
 iter:=fun A s c S=>⟨_,_,fun E Q d=>SZ S d,Walks.set c _ a (QB (Qs S.get)) o es ep t,⟨0,fun _=>Pz _ S.up,⟨_,Qu _ rfl,rfl,rfl⟩,S.at (Qf _ S.get)⟩⟩
theorem SY{w:J1}{a:YP}{ep:Nat}{es:Array (Int × JS)}{b:Array JS}(h:ItemsOf (fun i v=>∃ x,(gK w a ep es)[i]?=some x/\v=x.2) b es.size):b.toList=(gK w a ep es).toList.map (·.2):=by
 refine List.ext_getElem? fun i=>?_;rw [QH,QL,QL];by_cases l:i<es.size
 ·have c:i<b.size:=by rw [h.1];exact l
  obtain⟨x,e,d⟩:=h.2 i _ (QK c);rw [e,QK c,d];rfl
 ·rw [Yu (by rw [h.1];lia),Yu (by rw [wP];lia)];rfl
theorem bL.perm{h:Heap}{es a:List (Int × JS)}(p:Zd es a):∀{ks:List (List Int)},bL prog w h es ks->∃ ks',bL prog w h a ks'/\Zd ks' ks:=by
 induction p with
 | nil=>intro ks X;exact⟨ks,X,.refl _⟩
 | cons x _ i=>
  intro ks X
  cases X with
  | cons d r=>
   obtain⟨ks',n,q⟩:=i r
   exact⟨_,.cons d n,q.cons _⟩
 | swap x y l=>
  intro ks X
  cases X with
  | cons d r=>cases r with
   | cons j r=>exact⟨_,.cons j (.cons d r),.swap _ _ _⟩
 | trans _ _ c b=>
  intro ks X;obtain⟨o,m,f⟩:=c X;obtain⟨g,k,e⟩:=b m
  exact⟨g,k,e.trans f⟩
theorem ItemsAre.unique:∀{k k':List Int}{vs:List JS},ItemsAre (intKind prog w) k vs->ItemsAre (intKind prog w) k' vs->k=k'
 | _,_,_,.nil,h=>by cases h;rfl
 | _,_,_,.cons h1 r1,h=>by
  cases h with
  | cons c b=>
   obtain⟨f,d⟩:=Us h1;obtain⟨e,a⟩:=Us c;rw [d]at a;cases a;rw [ItemsAre.unique r1 b]
theorem TK.unique{h:Heap}{k k':List Int}{a:YP}(x:TK prog w h k a)(y:TK prog w h k' a):k=k':=by
 obtain⟨o,e,n,g,_,j,i⟩:=x;obtain⟨l,d,m,b,_,c,f⟩:=y;rw [g]at b;cases b;rw [j]at c;cases c;exact ItemsAre.unique i f
def LL(prog:JY)(w:J1)(V:JS->Prop)(h:Heap)(a:YP)(o:Obj)(b:List (List Int)):Prop:=
 ∃ es ep t,iE w h a o es ep t/\bL prog w h es.toList b/\b.Nodup/\∀ e∈es.toList,V e.2
end
end ST
namespace SL
open PySem.Spec L2 CL DL SD ST
def eZ(k:List Int):D:=.tuple (k.map J0)
section
variable {X:Cx}{pins:List (YP × Obj)}{σ:L2.St}{H:Hp}{s:JT}
abbrev VT(K:PySem.W.Frag)(H:Hp)(v:JS):Prop:=∃ b,∃ xs:List Int,v=.ref b/\bJ K H b (xs.map V.int)
def LM(X:Cx)(pins:List (YP × Obj))(c:L2.St)(Q:rJ)(u:JS)(b:JT):Prop:=
 ∃ a o ks H',u=.ref a/\Inv X ((a,o)::pins) c H' b/\LL X.prog X.w (VT X.K H') b.heap a o ks/\Q ks H'
def Dc(X:Cx)(e:Expr)(t:o7):Prop:=
 ∀(pins:List (YP × Obj)) (s:JT) (σ:L2.St) (H:Hp) (Q:rJ),Inv X pins σ H s->t σ H Q->JW (JX X.prog X.w) X.A (Za e X.env) (LM X pins σ Q) X.xe s
def yL(X:Cx)(e:Expr)(g:aA->Option (List (List Int))):Prop:=Dc X e (DX X.K g)
theorem WN{e:Expr}{t:o7}(h:rM X e t):Dc X e t:=fun b s g H Q I q=>aU (h b s g H Q I q) fun u p i=>by
 obtain⟨a,o,r,y,v,I1,S,_,q⟩:=i;obtain⟨z,w,x,t,f,n,m,d,c,l,k,j⟩:=S;have e:p.heap.get? a=some o:=(I1.pin (a,o) (Qz _ Qh)).1;rw [f]at e;cases e
 exact⟨a,o,r,y,v,I1,⟨w,x,t,⟨f,n,m,d.fits (by simp),d.up,c.1,c.2⟩,l,k,j⟩,q⟩
theorem Gi{e:Expr}{g:aA->Option (List (List Int))}(h:uO X e g):yL X e g:=WN h
theorem Gp{F:YP->Prop}(I:Inv X pins σ H s):∀{es:List (Int × JS)}{ks:List (List Int)},bL X.prog X.w s.heap es ks->(∀ e∈es,VT X.K H e.2)->∃ vs:List V,Reps X.K F H (ks.map eZ) vs/\Vals vs (es.map (·.2))
 | _,_,.nil,_=>⟨[],.nil,.nil⟩
 | _,_,.cons (k:=k) (b:=b) h1 r,hv=>by
  obtain⟨vs,d,c⟩:=Gp (F:=F) I r fun e f=>hv e (Qg _ f);obtain⟨h,xs,g,a⟩:=hv _ Qh;cases g
  have:k=xs:=h1.unique (iY I a)
  subst this
  exact⟨.ref b::vs,.cons (.tup a (rG k)) d,.cons rfl c⟩
end
theorem zSn{d0:List D}{ds a:List D}(p:Zd ds a):∀{l:List KD},gE d0 ds=some l->∃ l',gE d0 a=some l'/\Zd l' l:=by
 induction p with
 | nil=>intro l h;exact⟨l,h,.refl _⟩
 | cons x _ q=>
  intro l h;obtain⟨k,g,h⟩:=aE h;obtain⟨r,f,h⟩:=aE h;cases h;obtain⟨l',c,b⟩:=q f
  exact⟨(k,x)::l',by unfold gE;rw [g,c];rfl,b.cons _⟩
 | swap x y v=>
  intro l h;obtain⟨k,g,h⟩:=aE h;obtain⟨r,f,h⟩:=aE h;cases h;obtain⟨o,t,h⟩:=aE f;obtain⟨i,s,h⟩:=aE h;cases h
  exact⟨(o,x)::(k,y)::i,by unfold gE;rw [t];unfold gE;rw [g,s];rfl,.swap _ _ _⟩
 | trans _ _ e d=>
  intro l h;obtain⟨u,c,b⟩:=e h;obtain⟨n,m,j⟩:=d c
  exact⟨n,m,j.trans b⟩
theorem XQ{d0:List D}{ds c:List D}{l l':List KD}(h:gE d0 ds=some l)(h':gE d0 c=some l')(p:Zd l' l):fY l'=fY l:=by
 refine Bq (((qI l').trans p).trans (qI l).symm) (tG l') (tG l) fun a g b f e=>?_;have r:=(BS h').2;have d:=r a ((qI l').mem_iff.mp g);have i:=r b ((qI l').mem_iff.mp f);rw [e]at d;exact Jf e (nW d i)
def k7(g:aA->Option (List (List Int))):aA->Option D:=fun a=>(g a).bind fun b=>k6 [.list ((dd b).map eZ)]
section
variable {X:Cx}{e:Expr}{p pos:Pos}{g:aA->Option (List (List Int))}
theorem Bo{x:Str}(hc:X.calm=true)(hu:X.A.units+66<Zg)(hg:Gl X x)(hm:X.mg x=none)(hv:Zn x=some (.builtin "sorted"))(ha:yL X e g)(hn:x≠"__name__":=by decide)(U:(x == ("__debug__":Str))=false:=by decide)
  (he:JU [e] X.env=(false,Za e X.env)::JU [] X.env:=by rfl) (hpl:(Zb pos (JU [] X.env)).any (·.1)=false:=by rfl):
  DE X (.Call (.Name x p) [e] [] pos) (k7 g):=by
 intro i s Z H Q I ⟨F,y,ρ,d,S,q,k⟩;obtain⟨h,e1,q⟩:=aE q;refine YM (oS I hg hm hv ?_ hn U);refine PyProof.Rows.callWith_builtin1 (Q:=?_) ?_ he hpl;rw [he]
 show JW _ _ (spliced ((false,Za e X.env)::Zb pos (JU [] X.env))) _ _ s
 refine Calls.spliced_cons (aU (ha i s Z H (fun n J=>n.Nodup/\(∀ k,k∈n ↔ k∈h)/\∃ B,aH F B H J) I ⟨F,y,ρ,h,S,e1,fun B J n E1 M N=>⟨M,N,B,E1⟩⟩) fun u s1 zz=>?_);obtain⟨a,o,n,J,eu,I1,⟨G,Y,t,S1,X1,M,v1⟩,_,N,B,E1⟩:=zz;refine Calls.spliced_nil ?_;subst eu;refine Calls.call_function_entry kind_sorted plain_sorted entry_sorted (args_sorted1 _) ?_;unfold Builtin.«sorted»;have K:Zd n (dd h):=(List.perm_ext_iff_of_nodup M (Co h)).mpr fun k=>(N k).trans pX.symm
 have a0:G.size=(dd h).length:=by rw [<- Qt,X1.length,K.length_eq]
 have O:(dd h).length<64:=by
  cases c:dd h with
  | nil=>decide
  | cons T j=>
   rw [c]at q;have f:(if(j.map eZ).length<63 then _ else none)=some d:=q;by_cases z:(j.map eZ).length<63
   ·rw [Qd]at z;simp;lia
   ·rw [if_neg z]at f;cases f
 refine Qa (m:=checkCount "sorted" 1 1 _) (Qb (Qa (PySem.W.kdu_collect (XY a o G Y t) (by simp [I1.ok.hd hc]) S1 (fW (by lia)) fun h' tk a3 hk r=>?_)));have I2:Inv X i Z J { s1 with heap:=h',toks:=tk }:=(I1.pins_of fun p E=>I1.pin p (Qz _ (Qg _ E))).kept hk;obtain⟨a2,X2,p2⟩:=(X1.mono fun k b x=>x.at fun o e=>hk b o e).perm (p7 X.w a Y G).symm;obtain⟨vs,r1,r2⟩:=Gp (F:=B) I2 X2 fun e he=>v1 e ((p7 X.w a Y G).mem_iff.mp he);rw [<- SY r]at r2
 have v:∃ d0 l,gE d0 ((dd h).map eZ)=some l/\d=.list ((fY l).map (·.2)):=by
  cases c:dd h with
  | nil=>rw [c]at q;cases q;exact⟨[],[],rfl,rfl⟩
  | cons T j=>
   rw [c]at q;have f:(if(j.map eZ).length<63 then(gE (T.map J0) ((T::j).map eZ)).bind fun l=>some (ZD ((fY l).map (·.2)))else none)=some d:=q;by_cases z:(j.map eZ).length<63
   ·rw [if_pos z]at f;obtain⟨l,e2,f⟩:=aE f;cases f
    exact⟨_,l,e2,rfl⟩
   ·rw [if_neg z]at f;cases f
 obtain⟨d0,l,f1,rfl⟩:=v;obtain⟨l',f2,f3⟩:=zSn ((p2.trans K).map eZ).symm f1;refine HK hu I2 r2 r1 f2 (by rw [Qd,(p2.trans K).length_eq];exact O) fun p a1 E r' _=>?_;rw [XQ f1 f2 f3]at r';exact k _ _ _ (E1.trans (aH.frozen E)) (aM.newLst E r')
end
end SL
namespace SL
open PySem.Spec L2 CL DL SD
section
variable {X:Cx}{e st:Expr}{p2 pos:Pos}
end
end SL
namespace TL
open PySem.Spec L2 HT
section
variable {prog:JY}{w:J1}{A:Around}{E:JS->JT->Prop}{s:JT}
theorem RM{t b:YP}{ws:List JS}{Q:JS->JT->Prop}(q:IsTup s.heap t #[])(r:IsTup s.heap b ws.toArray)(h:Q (.ref b) s):JW (JX prog w) A (Zy .Add (.ref t) (.ref b)) Q E s:=by
 obtain⟨⟨u,dd,l,o⟩,i,k,n,j⟩:=id q;obtain⟨⟨m,f,g,e⟩,a,d,p,c⟩:=id r
 simp only at k j d c
 subst k j d c;exact concat_meets ⟨_,i,rfl⟩ ⟨_,a,rfl⟩ noFill_tuple_add seq_tuple_add PySem.F.slot_tuple_add PySem.F.entry_tuple_add (PySem.F.args_tuple_add_2 _ _) (tuple_addW0 t b #[] ws.toArray n p dd f o e rfl) ⟨i,a,h⟩
theorem RN{t b:YP}{vs ws:List JS}{Q:JS->JT->Prop}(q:s.heap.IsList t vs.toArray)(r:s.heap.IsList b ws.toArray)(hz:vs.length+ws.length<=sizeLine)
  (h:Q (.ref s.heap.objs.size) { s with heap:=s.heap.push { cls:=.type "list",data:=.seq (vs++ws).toArray } }):JW (JX prog w) A (Zy .Add (.ref t) (.ref b)) Q E s:=by
 obtain⟨⟨cls,dd,data,o⟩,j,l,n,k⟩:=id q;obtain⟨⟨m,g,i,f⟩,a,d,p,c⟩:=id r
 simp only at l k d c
 subst l k d c
 have e:vs.toArray++ws.toArray=(vs++ws).toArray:=by simp
 refine concat_meets ⟨_,j,rfl⟩ ⟨_,a,rfl⟩ noFill_list_add seq_list_add PySem.F.slot_list_add PySem.F.entry_list_add (PySem.F.args_list_add_2 _ _) (list_addW t b vs.toArray ws.toArray n p dd g o f (by simpa using hz)) ⟨j,a,?_⟩;rw [e];exact h
theorem zTx{t c:YP}{a:Array JS}{i g:JS}{j l:Option Int}{Q:JS->JT->Prop}(b:IsTup s.heap t a)(hs:s.heap.IsSliceOf c i g .none)(pl:Vh i j)(m:Vh g l)
  (k:sIx a.size 0 j=0/\sIx a.size a.size l=a.size) (h:Q (.ref t) s):JW (JX prog w) A (getItem (.ref t) (.ref c)) Q E s:=by
 obtain⟨n,d,e,o⟩:=id hs;have f:s.TypeIs (.ref c) "slice":=⟨n,d,e⟩;unfold getItem
 try with_reducible refine Q6 ?_
 first | refine Qa (Qb ?_) | skip
 refine Qa (wpAny_sequenceKey b.typeIs (by decide) ?_)
 refine Qa (YG (name:=Zr "__getitem__") b.typeIs YL
  (Yi YL b.typeIs entry_tuple_getitem ?_ (args_tuple_getitem _ _)))
 show JW _ _ (Builtin.Tuple.tupleItemsOf (.ref t) >>= _) _ _ s
 refine Qa (tupleItemsOf_ b (Qa (YO f ?_)));rw [if_pos (by decide)];refine Qa (HF hs pl m ?_);rw [k.1,k.2]
 show JW _ _ (if(((0:Nat):Int) == 0 && (1:Int) == 1 && (a.size-0) == a.size)=true then _ else _) _ _ s
 rw [if_pos (by simp)];unfold Builtin.Tuple.tupleIsExact;refine Qa (Qa (YO b.typeIs (Qb ?_)));rw [if_pos (by decide)];exact Qa (UK (Qb ⟨_,rfl,Qb h⟩))
end
end TL
namespace SL
open PySem.Spec L2 CL DL SD TL
section
variable {X:Cx}{e st:Expr}{p2 pos:Pos}
theorem W6:bC X (Zy .Add) (fun x y H Q=>∃ a b ys,x=.ref a/\y=.ref b/\bJ X.K H a []/\bJ X.K H b ys/\Q (.ref b) H):=by
 intro c s n H x y v u Q I f e h;obtain⟨a,b,ys,rfl,rfl,m,l,q⟩:=h;cases f;cases e;obtain⟨k,g,j,_⟩:=I.tuple m;obtain⟨d,o,i,_⟩:=I.tuple l;cases g;exact RM j i ⟨.ref b,H,I,rfl,q⟩
theorem W7:bC X (Zy .Add) (fun x y H Q=>∃ a b xs ys,x=.ref a/\y=.ref b/\bY X.K H a xs/\bY X.K H b ys/\xs.length+ys.length<=1000/\∀ p,H p=none->Q (.ref p) (aJ H p (.lst (xs++ys)))):=by
 intro e s t H x y v u Q I j i h;obtain⟨a,b,xs,ys,rfl,rfl,r,n,g,q⟩:=h;cases j;cases i;obtain⟨m,d,l,_⟩:=I.list r;obtain⟨f,c,k,_⟩:=I.list n;refine RN l.isList k.isList (by rw [<- d.length,<- c.length];exact fW g) ?_
 refine⟨.ref s.heap.objs.size,_,I.laid (t':=s.toks) (o:=.lst (xs++ys)) (fun b w q=>Qf _ q) (Qj _) ?_,rfl,q _ (I.hok.fresh (Qj _))⟩
 exact⟨by rw [Qm];exact fW g,_,0,d.append c,Qu _ rfl⟩
theorem XH:kN X (fun x lo hi H Q=>∃ a xs,x=.ref a/\bJ X.K H a xs/\(HT.sIx xs.length 0 lo=0/\HT.sIx xs.length xs.length hi=xs.length)/\Q (.ref a) H):=by
 intro d s m H x v o n lo hi p Q I f l i g h;obtain⟨a,xs,rfl,j,k,q⟩:=h;cases f;obtain⟨c,r,e,t⟩:=I.tuple j
 have b:c.toArray.size=xs.length:=by rw [QI];exact r.length.symm
 exact⟨"tuple",_,YL.lookup,e.typeIs,zTx e l i g (by rw [b];exact k) ⟨.ref a,H,I,rfl,q⟩⟩
def Dr:D->Option Int->Option Int->Option D
 | .list xs,lo,hi=>some (.list (DL.cutD xs lo hi))
 | .tuple xs,lo,hi=>some (.tuple (DL.cutD xs lo hi))
 | _,_,_=>none
def pC(ga:aA->Option D)(b gh:aA->Option (Option Int)):aA->Option D:=fun a=>(ga a).bind fun d=>(b a).bind fun l=>(gh a).bind fun h=>Dr d l h
theorem Sh{xs:List D}{a b:Option Int}(h:HT.sIx xs.length 0 a=0/\HT.sIx xs.length xs.length b=xs.length):DL.cutD xs a b=xs:=by
 unfold DL.cutD;rw [h.1,h.2,U9,Nat.sub_zero,List.take_length]
theorem FR{a:Expr}{g i:Option Expr}{ga:aA->Option D}{j gh:aA->Option (Option Int)}(r:DE X a ga)(n:DO X g j)(o:DO X i gh):DE X (.Subscript a (.Slice g i none p2) pos) (pC ga j gh):=
 bT (IJ (Xy.or (XB.or XH)) r n o) fun A H Q m=>by
  obtain⟨F,b,f,d,S,q,k⟩:=m;obtain⟨x,u,q⟩:=aE q;obtain⟨l,t,q⟩:=aE q;obtain⟨h,s,q⟩:=aE q
  refine⟨F,b,f,x,S,u,fun z G v E1 R1=>⟨z,b,f,l,S.ext E1,t,fun y E E2=>⟨y,b,f,h,(S.ext E1).ext E2,s,fun I B E3=>?_⟩⟩⟩
  have w:=(R1.stay E2.stay).stay E3.stay;have E123:=E1.trans (E2.trans E3)
  cases w with
  | @lst a' vs ds h1 r1=>
   cases q;exact .inl ⟨a',vs,rfl,h1.sq,fun p e=>k _ _ _ (E123.trans (aH.frozen e)) (aM.newLst e (r1.cut l h))⟩
  | @tup a' vs ds h1 r1=>
   cases q;by_cases c:HT.sIx ds.length 0 l=0/\HT.sIx ds.length ds.length h=ds.length
   ·rw [Sh c]at k;exact .inr (.inr ⟨a',vs,rfl,h1,by rw [<- r1.length];exact c,k _ _ _ E123 (.tup h1 r1)⟩)
   ·exact .inr (.inl ⟨a',vs,rfl,h1,by rw [<- r1.length];exact c,fun p e=>k _ _ _ (E123.trans (aH.fresh e)) (aM.newTup e (r1.cut l h))⟩)
  | non=>cases q
  | dct _ _ _ _ _=>cases q
  | exn _ _ _=>cases q
  | bl _=>cases q
  | int _=>cases q
  | str _=>cases q
def bM:D->D->Option D
 | .int i,.int j=>some (.int (i+j))
 | .tuple xs,.tuple ys=>if xs.length+ys.length<=1000 then some (.tuple (xs++ys))else none
 | .list xs,.list ys=>if xs.length+ys.length<=1000 then some (.list (xs++ys))else none
 | _,_=>none
theorem Gr{b a:Type}{xs:List b}{ys:List a}(h:xs.length=ys.length)(e:ys=[]):xs=[]:=by subst e;exact Jq h
theorem dC:bC X (Zy .Add) (cD X.K bM):=sT (WT.or (WV.or (W6.or W7))) fun x y H Q l=>by
 obtain⟨F,d,e,q,z,j,R2,f,k⟩:=l;unfold bM at f
 split at f
 ·cases f;cases j;cases R2;exact .inl ⟨_,_,rfl,rfl,k F H _ (aH.refl F H) (.int _)⟩
 ·rename_i i h;by_cases c:i.length+h.length<=1000
  ·rw [if_pos c]at f;cases f
   cases j with
   | @tup a vs _ h1 r1=>
    cases R2 with
    | @tup b us _ h2 r2=>
     by_cases n:vs=[]
     ·subst n
      have:i=[]:=Gr r1.length rfl
      subst this;exact .inr (.inr (.inl ⟨a,b,us,rfl,rfl,h1,h2,k F H _ (aH.refl F H) (.tup h2 r2)⟩))
     ·refine .inr (.inl ⟨a,b,vs,us,rfl,rfl,h1,h2,n,fW (by rw [<- r1.length,<- r2.length];exact c),fun e=>?_,fun e p g=>?_⟩)
      ·have:h=[]:=Gr r2.length e
       subst this;rw [QG]at k;exact k F H _ (aH.refl F H) (.tup h1 r1)
      ·exact k F _ _ (aH.fresh g) (aM.newTup g (r1.append r2))
  ·rw [if_neg c]at f;cases f
 ·rename_i i h;by_cases c:i.length+h.length<=1000
  ·rw [if_pos c]at f;cases f
   cases j with
   | @lst a vs _ h1 r1=>
    cases R2 with
    | @lst b us _ h2 r2=>
     exact .inr (.inr (.inr ⟨a,b,vs,us,rfl,rfl,h1.sq,h2.sq,by rw [<- r1.length,<- r2.length];exact c,fun p g=>k _ _ _ (aH.frozen g) (aM.newLst g (r1.append r2))⟩))
  ·rw [if_neg c]at f;cases f
 ·cases f
end
end SL
namespace EL
open PySem.Spec L2 DL ZL
open AutoSeq1 (wpAny_loadPart')
section
variable {prog:JY}{w:J1}{A:Around}{E:JS->JT->Prop}{s:JT}
end
end EL
namespace SL
open PySem.Spec L2 CL DL SD EL
end SL
namespace SL
open PySem.Spec L2 CL DL SD
section
variable {X:Cx}
end
open AutoSeq1 (wpAny_loadPart')
theorem Rk(l:YP)(c:Array JS)(n:Nat)(b:YP)(a:Array JS)(o:Nat)(dd:Option YP)(m:Array (Option JS))(p:(!c.isEmpty && Ub (c.size+a.size))=false)(i:c.size<=sizeLine)(f:c.size+a.size<=sizeLine+1):
  Meets (Builtin.«list.extend» ⟨[.ref l,.ref b],[]⟩) (fun _ R s=>s.heap.get? l=some { cls:=.type "list",dict:=none,data:=.seq c n,slots:=#[] }/\s.heap.get? b=some { cls:=.type "list",dict:=dd,data:=.seq a o,slots:=m }/\R (.ok (.ret J9)) { s with heap:=s.heap.update l (Um fun x=>x++a),toks:=s.toks }):=
 .of_wp fun j w A R s h=>by
  obtain⟨u,g,d,r,t⟩:=s;obtain⟨k,q,h⟩:=h;have E:=AutoSeq1.idx_int;have B:=AutoSeq1.sub_tuple_tuple;have z:=AutoSeq1.sub_list_list;have y:=AutoSeq1.sub_tuple_list;have v:=AutoSeq1.sub_list_tuple
  have e:(c++a).size<=sizeLine+1:=by rw [Array.size_append];exact f
  wp_walk using(wpAny_updateSeq k rfl (hz:=i) (_hz':=e)),UW k,UW q
  exact⟨_,rfl,h⟩
section
variable {X:Cx}
theorem Vp:CT X "list.extend" (fun x vs H Q=>∃ l b xs zs,x=.ref l/\vs=[.ref b]/\H l=some (.lst xs)/\bY X.K H b zs/\xs.length+zs.length<=1000/\Q .non (aJ H l (.lst (xs++zs)))):=by
 intro k s B H x vs v E Q I o p h;obtain⟨l,b,xs,zs,rfl,rfl,m,y,N,q⟩:=h;cases o;obtain⟨u,rfl,t⟩:=p.one;cases t;obtain⟨z,c,n,r,O,e⟩:=I.lstM m;obtain⟨a,j,⟨⟨T,dd,S,G⟩,w,A,g,f,d⟩,_⟩:=I.list y
 simp only at g f d
 subst g f d;have M:=r.length;have J:=j.length
 have i:c.toArray.size+a.toArray.size<=sizeLine:=by rw [QI,QI];exact fW (by lia)
 refine U4 F.slot_list_extend ⟨_,e,rfl⟩ F.entry_list_extend (F.args_list_extend_2 _ _)
  (Rk l c.toArray n b a.toArray w _ _ (by rw [VI i,Bool.and_false]) (by lia) (by lia)) ⟨e,A,?_⟩
 refine⟨.non,_,I.lset (its':=c++a) m e (by simp) (r.append j) ?_,rfl,q⟩
 rw [Qm];exact fW (by lia)
def pH(i:Nat)(g:aA->Option D):aA->Option aQ:=fun a=>match a[i]? with
 | some (.own ds)=>(g a).bind fun d=>match d with
  | .list b=>if ds.length+b.length<=1000 then some (.nx (a.set i (.own (ds++b))))else none
  | _=>none
 | _=>none
variable {e:Expr}{p pos:Pos}{ga:aA->Option D}
theorem Gf(Q:DE X e ga)(U:X.N[i]?=some x:=by rfl)(M:gG X.env.scope x:=by first | exact Ze rfl | exact Zc (Ze rfl) | exact Zc (Zc rfl))(O:(x == ("__debug__":Str))=false:=by decide)
  (t:(x == ("__classdict__":Str))=false:=by decide) (g:JU [e] X.env=(false,Za e X.env)::JU [] X.env:=by rfl)
  (f:Zo (.Name x p) "extend" X.env (Za (.Name x p) X.env)=Za (.Name x p) X.env:=by rfl)
  (h:((Zb pos' (JU [e] X.env)).all (fun x => !x.1) && (ZU pos' (Zz [] X.env)).all (fun x=>x.1.isSome)
   && decide ([e].length+([]:List ZJ).length+(if([]:List ZJ).isEmpty then 0 else 1)<30))=true:=by rfl)
  (c:(apos.endLine == pos'.line)=true:=by rfl) (a:(Zb pos' (JU [] X.env)).any (·.1)=false:=by rfl) (r:ZC (.Call (.Attribute (.Name x p) "extend" apos) [e] [] pos') none pos.line X.env=pure false:=by rfl):
  DS X (.Expr (.Call (.Attribute (.Name x p) "extend" apos) [e] [] pos') pos) (pH i ga):=
 DL.ps_mono (sY (p9 PySem.F.plainAttrs_list PySem.F.slot_list_extend PySem.F.type_list_extend Vp (pe_var U M O t) (eF Q fQ g) f h c g a) r) fun W B H I=>by
 obtain⟨A,j,F,G,o,E,S,q,k⟩:=I;unfold pH at q
 split at q
 ·rename_i ds u;obtain⟨d,e1,q⟩:=aE q
  split at q
  ·rename_i Z;by_cases s:ds.length+Z.length<=1000
   ·rw [if_pos s]at q;cases q;obtain⟨l,vs,n,K,q3,J,q5⟩:=S.own u
    refine⟨_,n,.inl ⟨rfl,_,bY.of K⟩,F,j,G,_,S,e1,fun F' H' v E' R'=>?_⟩
    have S':=S.ext E';obtain⟨l',m,z,y,Y,g4,w⟩:=S'.own u;rw [n]at z;cases z
    cases R' with
    | @lst b us _ h1 r1=>
     refine⟨l,b,m,us,rfl,rfl,y,h1.sq,by rw [<- w.length,<- r1.length];exact s,?_⟩
     obtain⟨S2,T⟩:=S'.turn u n y Y (w.append r1);exact k F' _ B ((E.trans E').turn J) (E'.stay.trans T) S2
   ·rw [if_neg s]at q;cases q
  ·cases q
 ·cases q
end
def BG:Expr->Bool
 | .Starred ..=>false
 | _=>true
theorem XZ(e:Expr)(es:List Expr)(env:Env)(h:BG e=true):JU (e::es) env=(false,Za e env)::JU es env:=by
 cases e <;> first | rfl | cases h
theorem Rr(b:DE X e ga)(a:DA X es gr)(h:BG e=true:=by rfl):DA X (e::es) (aC ga gr):=Rq b a (XZ e es X.env h)
end SL
namespace ST
open PySem.SetTable
structure gR(t:SetTable)(hs:List Int):Prop where
 good:c7 t.mask
 len:t.place.toList.length=hs.length
 up:Up t.place.toList
 dup:Up t.dummies.toList
 apart:∀ x∈t.dummies.toList,x∉t.place.toList
 room:(t.place.toList.length+t.dummies.toList.length) * 5<t.mask * 3
 reach:∀ q∈t.place.toList.zip hs,∃ n,(P t.mask q.2 n).j=q.1/\∀ m,m<n->(P t.mask q.2 m).j∈t.place.toList++t.dummies.toList
theorem gB.toD(T:gB t hs):gR t hs:=by
 refine⟨T.good,T.len,T.up,?_,?_,?_,fun q c=>?_⟩
 ·rw [T.dum];exact ZP
 ·rw [T.dum];intro x b;simp at b
 ·rw [T.dum];exact T.room
 ·obtain⟨n,e,a⟩:=T.reach q c
  exact⟨n,e,fun m d=>Yf _ (a m d)⟩
theorem Ax(s:Up xs.toList)(j:Nat):has xs j=true ↔ j∈xs.toList:=by
 obtain⟨n,l,k⟩:=qY xs s j;unfold has;constructor
 ·intro h
  have:=Yp h
  rw [<- QL]at this;exact QD this
 ·intro f;obtain⟨i,c⟩:=QY f;have m:=(Qe.mp c).1
  have e:i=Zm xs j:=by
   by_cases a:i<Zm xs j
   ·have:=l i j c a;lia
   ·by_cases b:i=Zm xs j
    ·exact b
    ·have g:Zm xs j<xs.toList.length:=by lia
     have d:=Qi g
     have:=s.at d c (by lia)
     have:=k _ _ d (Qj _)
     lia
  rw [<- e,<- QL,c];simp
theorem xJ(T:gR t hs)(j:Nat):(∃ i,t.slot j=.live i/\t.place.toList[i]?=some j) ∨ (t.slot j=.dummy/\j∉t.place.toList/\j∈t.dummies.toList) ∨ (t.slot j=.empty/\j∉t.place.toList++t.dummies.toList):=by
 unfold slot;dsimp only;by_cases c:(t.place[Zm t.place j]? == some j)=true
 ·rw [if_pos c];exact .inl ⟨_,rfl,by rw [QL];exact Yp c⟩
 ·rw [if_neg c];have a:j∉t.place.toList:=fun b=>c ((Ax T.up j).mpr b);by_cases d:has t.dummies j=true
  ·rw [if_pos d];exact .inr (.inl ⟨rfl,a,(Ax T.dup j).mp d⟩)
  ·rw [if_neg d];exact .inr (.inr ⟨rfl,fun h=>(QE.mp h).elim a fun h=>d ((Ax T.dup j).mpr h)⟩)
theorem HJ(T:gR t hs)(h:t.slot j=.live i):t.place.toList[i]?=some j:=by
 rcases xJ T j with⟨c,a,b⟩ | ⟨a,_⟩ | ⟨a,_⟩
 ·rw [h]at a;cases a;exact b
 ·rw [h]at a;cases a
 ·rw [h]at a;cases a
theorem gR.fits(T:gR t hs)(e:hs.length=n):t.fits n=true:=by
 have b:=T.len;have a:=T.room;rw [Qt]at b a;rw [Qt]at a;unfold Ue Uf;rw [b,e];rw [b]at a;simp only [QF,beq_iff_eq,decide_eq_true_eq]
 refine⟨?_,?_⟩
 ·trivial
 ·show n+t.dummies.size<=t.mask
  lia
theorem gR.odd(T:gR t hs):t.gaveWay=false:=by
 unfold SetTable.gaveWay
 rcases T.good with h | h | h | h | h | h | h <;> rw [h] <;> rfl
def Pd(M:Nat)(h:Int)(n:Nat)(d:Option Nat):Probe:={ P M h n with dummy:=d }
theorem LT(M:Nat)(p:Probe)(d:Option Nat):hE M { p with dummy:=d }={ hE M p with dummy:=d }:=by
 unfold hE;dsimp only
 split <;> rfl
theorem Em(M:Nat)(h:Int)(n:Nat)(d:Option Nat):hE M (Pd M h n d)=Pd M h (n+1) d:=LT M (P M h n) d
section
variable {t:SetTable}{hs:List Int}{hashAt:Nat->Int}{h:Int}{n:Nat}
theorem TD(a c:Nat)(d:Option Nat):US t hashAt h (a+1) (Pd t.mask h c d)=match t.slot (P t.mask h c).j with
  | .empty=>some (.empty (P t.mask h c).j d)
  | .dummy=>US t hashAt h a (Pd t.mask h (c+1) (some (P t.mask h c).j))
  | .live i=>if(hashAt i == h)=true then some (.candidate (P t.mask h c).j i (Pd t.mask h (c+1) d))else US t hashAt h a (Pd t.mask h (c+1) d):=by
 conv=>lhs;unfold US
 rw [<- Em t.mask h c d,<- Em t.mask h c (some (P t.mask h c).j)];rfl
theorem As(T:gR t hs)(s:(P t.mask h n).j∉t.place.toList++t.dummies.toList)(u:∀ m,m<n->(P t.mask h m).j∈t.place.toList++t.dummies.toList):∀ fuel c d,c<=n->n-c<fuel->
  (∃ d',US t hashAt h fuel (Pd t.mask h c d)=some (.empty (P t.mask h n).j d')/\∀ m,c<=m->m<n->∀ i,t.slot (P t.mask h m).j=.live i->hashAt i≠h)
  ∨ ∃ m i d',c<=m/\m<n/\t.slot (P t.mask h m).j=.live i/\hashAt i=h/\(∀ m',c<=m'->m'<m->∀ i,t.slot (P t.mask h m').j=.live i->hashAt i≠h)/\US t hashAt h fuel (Pd t.mask h c d)=some (.candidate (P t.mask h m).j i (Pd t.mask h (m+1) d'))
 | 0,c,d,_,hf=>absurd hf (YC _)
 | fuel+1,c,d,hc,hf=>by
  rw [TD];by_cases e:c=n
  ·subst e;rcases xJ T (P t.mask h c).j with⟨i,l,r⟩ | ⟨l,r,v⟩ | ⟨l,_⟩
   ·exact absurd (Yf _ (QD r)) s
   ·exact absurd (Qz _ v) s
   ·rw [l];exact .inl ⟨d,rfl,fun m a b=>by lia⟩
  ·rcases xJ T (P t.mask h c).j with⟨i,l,r⟩ | ⟨l,r,v⟩ | ⟨_,r⟩
   ·rw [l];dsimp only;by_cases k:(hashAt i == h)=true
    ·rw [if_pos k];exact .inr ⟨c,i,d,Qj _,by lia,l,Yp k,fun m' a b=>by lia,rfl⟩
    ·rw [if_neg k];have w:hashAt i≠h:=fun e=>k (by rw [e];simp);rcases As T s u fuel (c+1) d (by lia) (by lia)with⟨d',a,b⟩ | ⟨m,i',d',a1,a2,a3,a4,a5,a6⟩
     ·refine .inl ⟨d',a,fun m p g o f=>?_⟩;by_cases q:m=c
      ·subst q;rw [l]at f;cases f;exact w
      ·exact b m (by lia) g o f
     ·refine .inr ⟨m,i',d',by lia,a2,a3,a4,fun m' p g o f=>?_,a6⟩;by_cases q:m'=c
      ·subst q;rw [l]at f;cases f;exact w
      ·exact a5 m' (by lia) g o f
   ·rw [l];dsimp only;rcases As T s u fuel (c+1) (some (P t.mask h c).j) (by lia) (by lia)with⟨d',a,b⟩ | ⟨m,i',d',a1,a2,a3,a4,a5,a6⟩
    ·refine .inl ⟨d',a,fun m p g o f=>?_⟩;by_cases q:m=c
     ·subst q;rw [l]at f;cases f
     ·exact b m (by lia) g o f
    ·refine .inr ⟨m,i',d',by lia,a2,a3,a4,fun m' p g o f=>?_,a6⟩;by_cases q:m'=c
     ·subst q;rw [l]at f;cases f
     ·exact a5 m' (by lia) g o f
   ·exact absurd (u c (by lia)) r
theorem M5(T:gR t hs)(k:(P t.mask h n).j∉t.place.toList++t.dummies.toList){i j:Nat}(b:t.place.toList[i]?=some j)(g:hs[i]?=some h):∃ m,m<n/\(P t.mask h m).j=j:=by
 have f:(j,h)∈t.place.toList.zip hs:=QD (i:=i) (by rw [Yw];exact⟨b,g⟩);obtain⟨m,e,a⟩:=T.reach _ f
 refine⟨m,Yv fun c=>k ?_,e⟩
 by_cases d:n=m
 ·subst d;rw [e];exact Yf _ (QD b)
 ·exact a n (by lia)
end
section
variable {prog:JY}{w:J1}{A:Around}{E:JS->JT->Prop}{s:JT}
theorem Fp{a x:YP}{o:Obj}{es:Array (Int × JS)}{ep:Nat}{t:SetTable}{ks:List (List Int)}{k:List Int}{n:Nat}{Q:SetFound->JT->Prop}
  (hu:A.units<Zg) (ho:s.heap.get? a=some o) (hd:o.data=.set es ep t) (T:gR t (es.toList.map (·.1))) (X:bL prog w s.heap es.toList ks) (hk:TK prog w s.heap k x)
  (h1:(P t.mask (TH prog w k) n).j∉t.place.toList++t.dummies.toList) (h2:∀ m,m<n->(P t.mask (TH prog w k) m).j∈t.place.toList++t.dummies.toList)
  (q1:∀ i,ks[i]?=some k->Q (.there (some i)) s) (U:k∉ks->∀ j b,Q (.free j b) s):
  ∀ fuel c d,c<=n->n<10 * Vi t.mask->n-c<fuel->(∀ m,m<c->∀ i,t.slot (P t.mask (TH prog w k) m).j=.live i->ks[i]?≠some k)->∀ stand:Option Probe,stand.getD (t.probeStart (TH prog w k))=Pd t.mask (TH prog w k) c d->
  JW (JX prog w) A (setSearchFrom a (.ref x) (TH prog w k) false fuel stand) Q E s
 | 0,c,d,_,_,hf,_,_,_=>absurd hf (YC _)
 | fuel+1,c,d,hc,hN,hf,inv,stand,hst=>by
  have u:t.fits es.size=true:=T.fits (by simp);unfold setSearchFrom;refine Qa (QS ho hd u ?_);dsimp only;rw [hst,if_neg (by rw [T.odd];exact Qv)];refine Qa (Qb ?_);generalize S:t.probe _ (TH prog w k) (Pd t.mask (TH prog w k) c d)=met;obtain⟨f,a6,S⟩:∃ f:Nat->Int,(∀ i,f i=(es[i]?.map (·.1)).getD 0)/\t.probe f (TH prog w k) (Pd t.mask (TH prog w k) c d)=met:=⟨_,fun _=>rfl,S⟩
  have key:∀ m i,t.slot (P t.mask (TH prog w k) m).j=.live i->f i≠TH prog w k->ks[i]?≠some k:=fun m i G a0 a2=>by
   have Z:=HJ T G
   have q:i<es.toList.length:=by
    have:=(Qe.mp Z).1
    rw [T.len]at this
    simpa using this
   obtain⟨F,b,v,N,e3⟩:=X.at (Qi q);rw [a2]at v;cases v;apply a0;rw [a6,<- QL,Qi q,N];rfl
  have a5:=As (hashAt:=f) T h1 h2 (10 * Vi t.mask) c d hc (by lia);rcases a5 with⟨O,g1,g2⟩ | ⟨m,i,O,g1,g2,g3,g4,g5,g6⟩
  ·have:met=some (.empty (P t.mask (TH prog w k) n).j O):=S.symm.trans g1
   subst this
   have H:k∉ks:=fun K=>by
    obtain⟨i,G⟩:=QY K
    have q:i<es.toList.length:=by rw [X.length];exact(Qe.mp G).1
    obtain⟨F,b,v,N,e3⟩:=X.at (Qi q);rw [G]at v;cases v
    have J:i<t.place.toList.length:=by rw [T.len];simpa using q
    obtain⟨m,hm,hj⟩:=M5 T h1 (Qi J) (h:=TH prog w k) (by rw [QH,Qi q,N];rfl);rcases xJ T (P t.mask (TH prog w k) m).j with⟨p,B,g⟩ | ⟨_,g,_⟩ | ⟨_,g⟩
    ·have a3:p=i:=by
      rw [hj]at g;have a1:=Qi J;by_cases Y:p<i
      ·have:=T.up.at g a1 Y;lia
      ·by_cases W:i<p
       ·have:=T.up.at a1 g W;lia
       ·lia
     subst a3;by_cases cm:m<c
     ·exact inv m cm p B G
     ·exact key m p B (g2 m (by lia) hm p B) G
    ·rw [hj]at g;exact g (Ys _)
    ·rw [hj]at g;exact g (Yf _ (Ys _))
   dsimp only
   cases O with
   | none=>exact Qb (U H _ _)
   | some dd=>
    dsimp only;rw [if_neg (by simp)];exact Qb (U H _ _)
  ·have:met=some (.candidate (P t.mask (TH prog w k) m).j i (Pd t.mask (TH prog w k) (m+1) O)):=S.symm.trans g6
   subst this;have Z:=HJ T g3
   have q:i<es.toList.length:=by
    have:=(Qe.mp Z).1
    rw [T.len]at this
    simpa using this
   obtain⟨F,b,v,N,e3⟩:=X.at (Qi q)
   have M:es[i]?=some (TH prog w F,.ref b):=by rw [<- QL,Qi q,N]
   dsimp only
   have z:∀ y∈(es.filter (fun x=>x.1 == TH prog w k)).toList.map (fun x=>x.2),∃ F b,y=.ref b/\TK prog w s.heap F b:=fun y hy=>by
    obtain⟨e,he,rfl⟩:=QO.mp hy
    have a7:e∈es.toList:=by
     rw [Array.toList_filter]at he
     exact(Q8.mp he).1
    obtain⟨i2,a4⟩:=QY a7;obtain⟨k2,b2,_,z2,z3⟩:=X.at a4
    exact⟨k2,b2,by rw [z2],z3⟩
   split
   all_goals try (refine Qa (GA hk z ?_);rw [if_neg Qv])
   all_goals
    rw [M];dsimp only;refine Qa (Q6 (wpAny_eqBool_tuple hu e3 hk ?_));refine Qa (QS ho hd u ?_);dsimp only;rw [if_neg (by simp),show t.sameMemory t.moves t.mask=some true by unfold sameMemory;simp];dsimp only;rw [if_pos rfl,g3];dsimp only;rw [M];dsimp only;refine Qa (wpAny_isSame_ref_self ?_);simp only [if_true];refine Qa (Qb ?_);dsimp only;by_cases r:F=k
    ·rw [if_pos (by simp [r])];exact Qb (q1 i (r ▸ v))
    ·rw [if_neg (by simp [r])];refine Fp hu ho hd T X hk h1 h2 q1 U fuel (m+1) O (by lia) hN (by lia) (fun I a8 p l=>?_) _ rfl;by_cases Y:I<c
     ·exact inv I Y p l
     ·by_cases W:I=m
      ·subst W;rw [g3]at l;cases l;rw [v];exact fun e=>r (QA e)
      ·exact key I p l (g5 I (by lia) (by lia) p l)
theorem Fq
  (v:A.units<Zg) (f:s.heap.get? a=some o) (h:o.data=.set es ep t) (T:gR t (es.toList.map (·.1))) (X:bL prog w s.heap es.toList ks) (B:TK prog w s.heap k x)
  (q:∀ i,ks[i]?=some k->Q (some i) s) (p:k∉ks->Q none s):JW (JX prog w) A (setFind a (.ref x) (TH prog w k)) Q E s:=by
 have c:t.fits es.size=true:=T.fits (by simp);have d:=T.room;obtain⟨n,e,u,r⟩:=Fy (l:=t.place.toList++t.dummies.toList) T.good (by rw [Qm];lia) (TH prog w k)
 have G:t.mask<=511:=by rcases T.good with g | g | g | g | g | g | g <;> lia
 unfold setFind setFindIn;refine Qa (QS f h c ?_);dsimp only;rw [if_neg (by simp [byScan,Value.scannable])];refine Qa ?_;unfold setSearch;refine Fp v f h T X B u r ?_ ?_ 100000 0 none (QR _) e (by unfold Vi at e;lia) (fun m z=>absurd z (YC _)) none ?_
 ·intro i F;exact Qb (q i F)
 ·intro y j b;exact Qb (p y)
 ·show P t.mask (TH prog w k) 0=_
  rfl
end
theorem t9{a:Type}(xs:Array a)(p:Nat):(ZX xs p).toList=xs.toList.take p++xs.toList.drop (p+1):=by
 unfold ZX;rw [Array.toList_append,Array.toList_extract,Array.toList_extract];simp only [List.extract_eq_take_drop,Nat.sub_zero,U9];congr 1;exact Jt (by rw [Ye,Qt];lia)
theorem GT(s:Up l)(c:l[i]?=some j)(x:Nat):x∈l.take i++l.drop (i+1) ↔ x∈l/\x≠j:=by
 have d:=(Qe.mp c).1
 have e:l=l.take i++j::l.drop (i+1):=by
  have:l[i]=j:=by rw [Qi d]at c;exact QA c
  rw [<- this,<- Q0 d,Yh]
 have f:(l.take i++j::l.drop (i+1)).Nodup:=by rw [<- e];exact s.nodup
 constructor
 ·intro a
  refine⟨?_,fun q=>?_⟩
  ·rw [e];rcases QE.mp a with h | h
   ·exact Yf _ h
   ·exact Qz _ (Qg _ h)
  ·subst q
   have:=(List.perm_middle.nodup_iff.mp f)
   exact(Q9.mp this).1 a
 ·rintro⟨a,b⟩
  rw [e]at a;rcases QE.mp a with h | h
  ·exact Yf _ h
  ·rcases Ql.mp h with h | h
   ·exact absurd h b
   ·exact Qz _ h
theorem zTl(s:Up xs.toList)(m:j∉xs.toList):Up (Zs xs (Zm xs j) j).toList:=by
 obtain⟨p,o,n⟩:=qY xs s j;rw [k8];unfold Up;rw [List.pairwise_append]
 have d:∀ x∈xs.toList.take (Zm xs j),x<j:=fun x g=>by
  obtain⟨i,c⟩:=QY g;rw [Uo]at c
  split at c
  ·rename_i q;exact o i x c q
  ·cases c
 have f:∀ x∈xs.toList.drop (Zm xs j),j<x:=fun x g=>by
  obtain⟨i,c⟩:=QY g;rw [Y7]at c
  have:=n _ x c (by lia)
  have l:x≠j:=fun e=>m (e ▸ QD c);lia
 refine⟨s.sublist (Ut _ _),Yg.mpr ⟨f,s.sublist (List.drop_sublist _ _)⟩,fun a k b h=>?_⟩
 rcases Ql.mp h with rfl | h
 ·exact d a k
 ·exact Nat.lt_trans (d a k) (f b h)
theorem GV:x∈(Zs xs p j).toList ↔ x=j ∨ x∈xs.toList:=by
 rw [k8,QE,Ql]
 conv=>rhs;rw [<- Yh p xs.toList,QE]
 constructor
 ·rintro(a | a | a)
  ·exact .inr (.inl a)
  ·exact .inl a
  ·exact .inr (.inr a)
 ·rintro(a | a | a)
  ·exact .inr (.inl a)
  ·exact .inl a
  ·exact .inr (.inr a)
theorem zTO{d c:Type}{l:List d}{m:List c}{i:Nat}(b:l.length=m.length){q:d × c}(h:q∈(l.take i++l.drop (i+1)).zip (m.take i++m.drop (i+1))):q∈l.zip m:=by
 rw [List.zip_append (by rw [Q2,Q2,b]),QE]at h;rcases h with h | h
 ·obtain⟨n,a⟩:=QY h;rw [Yw,Uo,Uo]at a
  split at a
  ·exact QD (i:=n) (by rw [Yw];exact a)
  ·cases a.1
 ·obtain⟨n,a⟩:=QY h;rw [Yw,Y7,Y7]at a;exact QD (i:=i+1+n) (by rw [Yw];exact a)
theorem RJ{t:SetTable}{hs:List Int}{i:Nat}(T:gR t hs)(y:i<hs.length):gR (t.drop i) (hs.take i++hs.drop (i+1))/\(t.drop i).plain=t.plain/\(t.drop i).led=t.led:=by
 have p:i<t.place.toList.length:=by rw [T.len];exact y
 obtain⟨j,g⟩:∃ j,t.place.toList[i]?=some j:=⟨_,Qi p⟩
 have l:t.place[i]?=some j:=by rw [<- QL];exact g
 have o:j∈t.place.toList:=QD g;have s:j∉t.dummies.toList:=fun h=>T.apart j h o
 have e:t.drop i={ t with place:=ZX t.place i,dummies:=Zs t.dummies (Zm t.dummies j) j }:=by
  unfold SetTable.drop;rw [l]
 rw [e];have d:(ZX t.place i).toList=t.place.toList.take i++t.place.toList.drop (i+1):=t9 _ _
 have A:(ZX t.place i).toList.length+1=t.place.toList.length:=by
  rw [d,Qm,Q2,Ye];lia
 have r:(Zs t.dummies (Zm t.dummies j) j).toList.length=t.dummies.toList.length+1:=by
  rw [(Y2 _ _ _).length_eq];simp
 have k:∀ x,x∈(ZX t.place i).toList++(Zs t.dummies (Zm t.dummies j) j).toList ↔ x∈t.place.toList++t.dummies.toList:=fun x=>by
  rw [QE,QE,d,GT T.up g,GV];constructor
  ·rintro(⟨a,_⟩ | a | a)
   ·exact .inl a
   ·exact .inl (a ▸ o)
   ·exact .inr a
  ·rintro(a | a)
   ·by_cases c:x=j
    ·exact .inr (.inl c)
    ·exact .inl ⟨a,c⟩
   ·exact .inr (.inr a)
 refine⟨⟨T.good,?_,?_,zTl T.dup s,fun x u=>?_,?_,fun q v=>?_⟩,rfl,rfl⟩
 ·show(ZX t.place i).toList.length=_
  rw [d,Qm,Qm,Q2,Ye,Q2,Ye,T.len]
 ·show Up (ZX t.place i).toList
  rw [d];refine T.up.sublist ?_
  have:(t.place.toList.take i++t.place.toList.drop (i+1)).Sublist (t.place.toList.take i++t.place.toList.drop i):=List.Sublist.append (List.Sublist.refl _) (by
   rw [Q0 p];exact List.sublist_cons_self _ _)
  rwa [Yh]at this
 ·show x∉(ZX t.place i).toList
  rw [d,GT T.up g]
  rintro⟨a,b⟩
  rcases GV.mp u with c | c
  ·exact b c
  ·exact T.apart x c a
 ·show((ZX t.place i).toList.length+(Zs t.dummies (Zm t.dummies j) j).toList.length) * 5<t.mask * 3
  have:=T.room
  rw [r];lia
 ·have f:q∈(ZX t.place i).toList.zip (hs.take i++hs.drop (i+1)):=v;rw [d]at f;obtain⟨n,z,a⟩:=T.reach q (zTO T.len f)
  exact⟨n,z,fun m w=>(k _).mpr (a m w)⟩
def m8(prog:JY)(w:J1)(V:JS->Prop)(h:Heap)(a:YP)(b:List (List Int)):Prop:=
 ∃ o es ep t,h.get? a=some o/\o.ExactSet/\o.data=.set es ep t/\gR t (es.toList.map (·.1))/\(t.plain=true/\t.led=jH w)/\bL prog w h es.toList b/\b.Nodup/\∀ e∈es.toList,V e.2
theorem cG.toD(S:cG prog w V h a ks):m8 prog w V h a ks:=by
 obtain⟨o,k,l,t,j,i,g,f,e,d,c,b⟩:=S
 exact⟨o,k,l,t,j,i,g,f.toD,e,d,c,b⟩
section
variable {prog:JY}{w:J1}{A:Around}{E:JS->JT->Prop}{s:JT}{V:JS->Prop}
theorem Eg{a:Type}{l:List a}{i:Nat}{x:a}(h:l[i]?=some x):Zd l (x::(l.take i++l.drop (i+1))):=by
 have b:=(Qe.mp h).1
 have:l[i]=x:=by rw [Qi b]at h;exact QA h
 have e:l=l.take i++x::l.drop (i+1):=by rw [<- this,<- Q0 b,Yh]
 exact(List.Perm.of_eq e).trans List.perm_middle
theorem RG{a x:YP}{d:List (List Int)}{k:List Int}{Q:Bool->JT->Prop}(G:A.units<Zg)(S:m8 prog w V s.heap a d)(J:TK prog w s.heap k x)
  (z:k∉d->Q false s) (y:∀ h' ks',Zi a s.heap h'->m8 prog w V h' a ks'->Zd d (k::ks')->Q true { s with heap:=h' }) (hsz:d.length<=1000):
  JW (JX prog w) A (setDiscardHashed a (.ref x) (TH prog w k)) Q E s:=by
 obtain⟨o,c,N,t,j,r,g,T,u,X,m,v⟩:=S;have l:t.fits c.size=true:=T.fits (by simp);unfold setDiscardHashed;refine Qa (Fq G j g T X J (fun i q=>?_) fun H=>Qb (z H));dsimp only;have n:i<d.length:=(Qe.mp q).1
 have p:i<c.toList.length:=by rw [X.length];exact n
 refine Qa (QS j g l ?_);dsimp only
 have M:c.size=d.length:=by rw [<- X.length,Qt]
 have I:(ZX c i).size<=c.size:=by
  rw [<- Qt,t9,Qm,Q2,Ye,Qt];lia
 refine Qa (Jh j g ?_ (by rw [QW];lia))
 have K:(s.heap.update a (ZB (ZX c i) (t.drop i))).get? a=some { o with data:=.set (ZX c i) (N+1) (t.drop i) }:=by
  have:=Q1 (ZB (ZX c i) (t.drop i)) j (by rw [Jm _ _ g];rfl)
  rw [Jm _ _ g]at this;exact this
 have h:=QZ s.heap a (ZB (ZX c i) (t.drop i));obtain⟨O,F,B⟩:=RJ (i:=i) T (by rw [Qd];exact p);refine Qa (wpAny_point (Qb (y _ (d.take i++d.drop (i+1)) h ⟨_,_,_,_,K,r,rfl,?_,⟨by rw [F];exact u.1,by rw [B];exact u.2⟩,?_,?_,fun e f=>?_⟩ (Eg q))))
 ·rw [t9,QX,List.map_take,List.map_drop];exact O
 ·rw [t9]
  exact((X.take i).append (X.drop (i+1))).mono fun k b=>TK.keep j g h
 ·exact(Q9.mp ((Eg q).nodup_iff.mp m)).2
 ·rw [t9]at f;rcases QE.mp f with f | f
  ·exact v e (List.mem_of_mem_take f)
  ·exact v e (List.mem_of_mem_drop f)
abbrev uA(w:J1):Obj:={ cls:=.type "set",dict:=none,data:=.set #[] 0 (.fresh 0 0 (jH w)) }
theorem G6(h:Q (.ref s.heap.objs.size) { s with heap:=s.heap.push (uA w) }):JW (JX prog w) A (newSet (.type "set")) Q E s:=by
 unfold newSet setsByText;refine Qa (Qa (UM (Qb ?_)));dsimp only;simp only [newObj];exact Qa (wpAny_alloc (Qb h))
structure yK(w:J1)(t:SetTable)(M:Nat):Prop where
 good:c7 M
 mask:t.mask=M
 place:t.place=#[]
 dum:t.dummies=#[]
 plain:t.plain=true
 led:t.led=jH w
theorem zSf(t:SetTable)(a:Nat):t.relaid #[] a=some ({ mask:=Zh a-1,place:=#[],dummies:=#[],finger:=t.finger,led:=t.led,moves:=t.movedTo (Zh a-1),plain:=t.plain },#[]):=by
 unfold relaid laid layClean
 have e:∀ M:Nat,((JZ (M+1)).filterMap fun j=>((Uj (M+1) (none:Option Nat)).getD j none).map (j,·))=[]:=fun M=>by
  rw [List.filterMap_eq_nil_iff];intro j _
  have:(Uj (M+1) (none:Option Nat)).getD j none=none:=by
   unfold U6;split
   ·simp
   ·rfl
  rw [this];rfl
 show some _=_
 simp only [e];rfl
theorem TJ(a:n * 5 >= 21)(f:n<=75):∃ M,Zh (n * 2)-1=M/\c7 M/\n * 5<M * 3/\¬ Zh (n * 2) > sizeLine:=by
 have h:∀ n:Fin 76,n.val * 5 >= 21->(Zh (n.val * 2)-1=15 ∨ Zh (n.val * 2)-1=31 ∨ Zh (n.val * 2)-1=63 ∨ Zh (n.val * 2)-1=127 ∨ Zh (n.val * 2)-1=255)/\n.val * 5<(Zh (n.val * 2)-1) * 3/\Zh (n.val * 2)<=256:=by decide +kernel
 obtain⟨d,c,b⟩:=h ⟨n,by lia⟩ a
 refine⟨_,rfl,?_,c,by rw [QW];exact Nat.not_lt.mpr (Qr b (by decide))⟩
 unfold c7
 rcases d with e | e | e | e | e <;> simp only at e <;> lia
theorem Xq(d:n<=63):∃ M,Zh (grown n)-1=M/\c7 M/\n * 5<M * 3/\¬ Zh (grown n) > sizeLine:=by
 have h:∀ n:Fin 64,(Zh (grown n.val)-1=7 ∨ Zh (grown n.val)-1=15 ∨ Zh (grown n.val)-1=31 ∨ Zh (grown n.val)-1=63 ∨ Zh (grown n.val)-1=127 ∨ Zh (grown n.val)-1=255)/\n.val * 5<(Zh (grown n.val)-1) * 3/\Zh (grown n.val)<=256:=by decide +kernel
 obtain⟨c,b,a⟩:=h ⟨n,by lia⟩
 refine⟨_,rfl,?_,b,by rw [QW];exact Nat.not_lt.mpr (Qr a (by decide))⟩
 unfold c7
 rcases c with e | e | e | e | e | e <;> simp only at e <;> lia
theorem zSk(e:s.heap.get? r=some o)(f:o.ExactSet)(d:o.data=.set #[] ep t)(B:yK w t 7)(p:n<=75)
  (h:∀ h' o' ep' t' M,Zi r s.heap h'->h'.get? r=some o'->o'.ExactSet->o'.data=.set #[] ep' t'->yK w t' M->n * 5<M * 3->Q () { s with heap:=h' }):JW (JX prog w) A (setRoomFor r n) Q E s:=by
 have b:t.fits (#[]:Array (Int × JS)).size=true:=by unfold Ue Uf;rw [B.place,B.dum];simp
 unfold setRoomFor;refine Qa (QS e d b ?_);unfold SetTable.roomFor Uf;rw [B.place,B.dum,B.mask];by_cases c:(0+n) * 5 >= 7 * 3
 ·rw [if_pos (by simpa using c)];obtain⟨M,m,l,k,j⟩:=TJ (n:=n) (by lia) p;unfold setRelay;refine Qa (QS e d b ?_);dsimp only
  have q:((#[]:Array Nat).size+n) * 2=n * 2:=by simp
  rw [q,if_neg j];have i:=zSf t (n * 2);rw [m]at i
  have u:((#[]:Array (Int × JS)).map (·.1))=#[]:=by simp
  rw [u,i];refine Qa (Ve (a:=((#[]:Array (Int × JS)),({ mask:=M,place:=#[],dummies:=#[],finger:=t.finger,led:=t.led,moves:=t.movedTo M,plain:=t.plain }:SetTable))) (by rfl) ?_);dsimp only;refine Jh e d ?_ (by simp);have g:=Q1 (ZB #[] { mask:=M,place:=#[],dummies:=#[],finger:=t.finger,led:=t.led,moves:=t.movedTo M,plain:=t.plain }) e (by rw [Jm _ _ d];rfl);rw [Jm _ _ d]at g;exact h _ _ _ _ M (QZ ..) g f rfl ⟨l,rfl,rfl,rfl,B.plain,B.led⟩ k
 ·rw [if_neg (by simpa using c)];exact Qb (h s.heap o ep t 7 (JA ..) e f d B (by lia))
theorem Wa(G:r≠a)(W:s.heap.get? r=some o)(K:o.ExactSet)(hd:o.data=.set #[] ep t)(B:yK w t 7)
  (S:cG prog w V s.heap a ks) (hn:ks.length<=75) (h:∀ h' ks',Zi r s.heap h'->cG prog w V h' r ks'->Zd ks' ks->Q () { s with heap:=h' }):JW (JX prog w) A (setMerge r a (pure ())) Q E s:=by
 obtain⟨oa,f,a2,m,ha,a0,Z,T,N,X,H,hV⟩:=S
 have y:f.size=ks.length:=by rw [<- X.length,Qt]
 unfold setMerge;rw [if_neg (by simpa using G)];refine Qa (QS ha Z (T.fits (by simp)) ?_);dsimp only;by_cases em:f.isEmpty=true
 ·rw [if_pos em]
  have e0:f=#[]:=by simpa using em
  have k0:ks=[]:=by
   rw [e0]at y;exact Jq y.symm
  subst k0;refine Qb (h s.heap [] (JA ..) ⟨o,#[],ep,t,W,K,hd,?_,⟨B.plain,B.led⟩,.nil,Y8,fun e Y=>by simp at Y⟩ (.refl _))
  exact⟨by rw [B.mask];exact B.good,B.dum,by rw [B.place];rfl,by rw [B.place];exact ZP,fun x hx=>by rw [B.place]at hx;simp at hx,by rw [B.place,B.mask];decide,fun q hq=>by rw [B.place]at hq;simp at hq⟩
 ·rw [if_neg em];refine Qa (zSk W K hd B (by rw [y];exact hn) fun z o1 a3 j M sb1 l u g B1 hM=>?_);have a1:z.get? a=some oa:=(sb1.2 a (ZI G)).trans ha;have X1:bL prog w z f.toList ks:=X.mono fun k b=>TK.keep W hd sb1;refine Qa (QS (s:={ s with heap:=z }) l g (by unfold Ue Uf;rw [B1.place,B1.dum];simp) ?_);dsimp only
  have hf:(j.fill != 0)=false:=by unfold Uf;rw [B1.place,B1.dum];rfl
  have F:f.size<=sizeLine:=by rw [QW];lia
  unfold SetTable.road;rw [hf,if_neg Qv];by_cases c:(j.mask == m.mask && m.dummies.isEmpty)=true
  ·rw [if_pos c];dsimp only;refine Jh (s:={ s with heap:=z }) l g ?_ F;have J:=Q1 (ZB f { m with finger:=j.finger,led:=j.led && m.led,moves:=j.moves,plain:=j.plain && m.plain }) l (by rw [Jm _ _ g];rfl);rw [Jm _ _ g]at J;have sb2:=QZ z r (ZB f { m with finger:=j.finger,led:=j.led && m.led,moves:=j.moves,plain:=j.plain && m.plain });refine h _ ks (sb1.trans sb2) ⟨_,_,_,_,J,u,rfl,⟨T.good,T.dum,T.len,T.up,T.le,T.room,T.reach⟩,⟨?_,?_⟩,X1.mono fun k b=>TK.keep l g sb2,H,hV⟩ (.refl _)
   ·show(j.plain && m.plain)=true
    rw [B1.plain,N.1];rfl
   ·show(j.led && m.led)=jH w
    rw [B1.led,N.2,JL]
  ·rw [if_neg c];dsimp only;obtain⟨O,d,r1,U,r3,r4,r5⟩:=Hu (hs:=f.map (·.1)) (M:=M) j.finger j.moves (j.led && m.led) (j.plain && m.plain) B1.good (by rw [Y6];exact hM)
   have I:∀ i∈d.toList,i<f.toList.length:=fun i hi=>by
    have:=QP.mp (U.mem_iff.mp hi)
    simpa using this
   have v:(d.filterMap (f[·]?)).toList=d.toList.filterMap (f.toList[·]?):=by
    rw [Js];congr 1
    funext i
    rw [QL]
   have p:Zd (d.filterMap (f[·]?)).toList f.toList:=by
    rw [Js]
    refine(U.filterMap _).trans ?_
    rw [Y6,filterMap_getElem?_range]
   have n:(d.filterMap (f[·]?)).size=f.size:=by rw [<- Qt,p.length_eq,Qt]
   rw [B1.mask,r1];refine Qa ?_
   show JW _ _ (if((d.filterMap (f[·]?)).size != f.size)=true then _ else pure (d.filterMap (f[·]?),O)) _ _ _
   rw [if_neg (by simp [n])];refine Qb ?_;dsimp only;refine Jh (s:={ s with heap:=z }) l g ?_ (by rw [n];exact F);have J:=Q1 (ZB (d.filterMap (f[·]?)) O) l (by rw [Jm _ _ g];rfl);rw [Jm _ _ g]at J;have sb2:=QZ z r (ZB (d.filterMap (f[·]?)) O)
   have kp:Zd (d.toList.filterMap (ks[·]?)) ks:=by
    refine(U.filterMap _).trans ?_
    rw [Y6,<- Qt,X.length,YY]
   refine h _ (d.toList.filterMap (ks[·]?)) (sb1.trans sb2) ⟨_,_,_,_,J,u,rfl,?_,⟨by rw [r5,B1.plain,N.1];rfl,by rw [r4,B1.led,N.2,JL]⟩,?_,kp.nodup_iff.mpr H,fun e Y=>hV e (p.mem_iff.mp Y)⟩ kp
   ·rw [v,AA _ _ I]
    simpa using r3
   ·rw [v]
    exact(X1.pick _ I).mono fun k b=>TK.keep l g sb2
theorem xZ(b:s.TypeIs (.ref a) "set")(h:Q true s):JW (JX prog w) A (Z4 (.ref a)) Q E s:=by
 unfold Z4 orM;refine Qa (Jo b sub_set_self ?_);exact Qb h
theorem base_of(b:s.TypeIs (.ref a) "set")(h:Q (.type "set") s):JW (JX prog w) A (Builtin.Frozenset.baseOf a) Q E s:=by
 unfold Builtin.Frozenset.baseOf;refine Qa (Jo b sub_set_self ?_);rw [if_pos rfl];exact Qb h
theorem xH(b:s.heap.get? a=some o)(d:o.data=.set es ep t)(c:t.fits es.size=true)(h:Q es.size s):JW (JX prog w) A (Ug a) Q E s:=by
 unfold Ug;exact Qa (JJ b d c (Qb h))
theorem Se(S:cG prog w V s.heap a ks)(m:ks.length<=75)
  (h:∀ h' ks',(∀ b o,s.heap.get? b=some o->h'.get? b=some o)->cG prog w V h' s.heap.objs.size ks'->Zd ks' ks->Q (.ref s.heap.objs.size) { s with heap:=h' }):JW (JX prog w) A (Builtin.Frozenset.copyOf a) Q E s:=by
 obtain⟨j,y,q,u,f,c,n,T,v,X,l,x⟩:=id S;have p:s.TypeIs (.ref a) "set":=⟨j,f,c.1⟩;have k:=Qs f;unfold Builtin.Frozenset.copyOf;refine Qa (base_of p (Qa (G6 ?_)));refine Qa (Qb ?_);have t:cG prog w V (s.heap.push (uA w)) a ks:=S.moved fun b o e _=>Qf _ e;refine Qa (Wa (s:={ s with heap:=s.heap.push (uA w) }) (r:=s.heap.objs.size) (YZ k) (Qu _ rfl) ⟨rfl,rfl,rfl⟩ rfl ⟨.inl rfl,rfl,rfl,rfl,rfl,rfl⟩ t m fun h' ks' g d i=>?_);exact Qb (h h' ks' (fun b o e=>(g.2 b (QB (Qs e))).trans (Qf _ e)) d i)
theorem Km(S:iE w s.heap a o es ep t)(h:Q (gK w a ep es) s):
  JW (JX prog w) A (setWalkUnseen a others filled) Q E s:=by
 unfold setWalkUnseen;refine Qa (QS S.get S.data S.fits ?_);dsimp only;refine Qa (wA ?_)
 have c:(w.params.followText "set-order" || (t.led && t.plain) || decide (es.size<=1))=true:=by
  rw [S.led,S.plain,jH]
  cases w.params.followText "set-order" <;> rfl
 rw [c,if_pos rfl];exact Kl S h
theorem wE{id:String}{a:YP}{o:Obj}{es:Array (Int × JS)}{ep:Nat}{t:SetTable}{Q:Unit->JT->Prop}(b:s.heap.get? a=some o)(d:o.data=.set es ep t)(c:t.fits es.size=true)(h:Q () s):JW (JX prog w) A (Builtin.Frozenset.unchanged id a ep) Q E s:=by
 unfold Builtin.Frozenset.unchanged setEpoch;refine Qa (Qa (QS b d c (Qb ?_)));rw [if_neg (by simp)];exact Qb h
theorem cG.setAt(S:cG prog w V h a ks):∃ o es ep t,iE w h a o es ep t/\gB t (es.toList.map (·.1))/\bL prog w h es.toList ks/\∀ e∈es.toList,V e.2:=by
 obtain⟨o,es,ep,t,j,i,g,b,c,f,k,d⟩:=S
 exact⟨o,es,ep,t,⟨j,i,g,b.fits (by simp),b.up,c.1,c.2⟩,b,f,d⟩
structure Lp(prog:JY)(w:J1)(V:JS->Prop)(s:JT)(ka kb:List (List Int))(rest:List (Int × JS))(s':JT)(h':Heap)(kc kd krest:List (List Int)):Prop where
 eq:s'={ s with heap:=h' }
 kp:∀ b o,s.heap.get? b=some o->h'.get? b=some o
 SC:m8 prog w V h' s.heap.objs.size kc
 Xr:bL prog w s.heap rest krest
 pk:Zd (kd++krest) kb
 lc:kc.length<=63
 me:∀ k,k∈kc ↔ k∈ka/\k∉kd
structure Lq(prog:JY)(w:J1)(V:JS->Prop)(s:JT)(ka kb:List (List Int))(rest:List (Int × JS))(s':JT)(h':Heap)(kr kd krest:List (List Int)):Prop where
 eq:s'={ s with heap:=h' }
 kp:∀ b o,s.heap.get? b=some o->h'.get? b=some o
 SR:cG prog w V h' s.heap.objs.size kr
 Xr:bL prog w s.heap rest krest
 pk:Zd (kd++krest) ka
 me:∀ k,k∈kr ↔ k∈kd/\k∉kb
 vr:∀ e∈rest,V e.2
theorem RF{id:String}{a b:YP}{ka kb:List (List Int)}{Q:JS->JT->Prop}(b0:a≠b)(hu:A.units<Zg)(SA:cG prog w V s.heap a ka)(SB:cG prog w V s.heap b kb)(a4:ka.length<=63)
  (h:∀ h' r ks,s.heap.objs.size<=r->(∀ b o,s.heap.get? b=some o->h'.get? b=some o)->m8 prog w V h' r ks->(∀ k,k∈ks ↔ k∈ka/\k∉kb)->Q (.ref r) { s with heap:=h' }):
  JW (JX prog w) A (Builtin.Frozenset.difference id a (.ref b)) Q E s:=by
 obtain⟨oa,ea,pa,ta,Sa,Ta,Xa,Va⟩:=SA.setAt;obtain⟨ob,eb,pb,tb,Sb,Tb,Xb,Vb⟩:=SB.setAt;have a7:s.TypeIs (.ref a) "set":=⟨oa,Sa.get,Sa.ex.1⟩;have a6:s.TypeIs (.ref b) "set":=⟨ob,Sb.get,Sb.ex.1⟩;have a1:=SA.nodup;unfold Builtin.Frozenset.difference;refine Qa (xZ a6 ?_);simp only [Yy,Qp,if_false,Bool.false_and];unfold ZT;refine Qa (Qb ?_);simp only [if_true];refine Qa (xH Sb.get Sb.data Sb.fits ?_);refine Qa (xH Sa.get Sa.data Sa.fits ?_);by_cases c:ea.size / 4 > eb.size
 ·rw [if_pos c];refine Qa (UK ?_);refine Qa (Se SA (by lia) fun N G U SR pr=>?_);have lb:=Qs Sb.get;have Sb1:=Sb.at (U _ _ Sb.get);have Z:({ s with heap:=N }:JT).TypeIs (.ref b) "set":=⟨ob,Sb1.get,Sb.ex.1⟩;refine Qa (Qb ?_);refine Qa (Q6 ?_);unfold Builtin.Frozenset.differenceUpdate;rw [if_neg (by simpa using QB lb)];refine Qa (xZ Z ?_);rw [if_pos rfl];unfold ZT;refine Qa (Qb ?_);refine Qa (xH (s:={ s with heap:=N }) Sb1.get Sb1.data Sb1.fits ?_);obtain⟨oR,eR,pR,tR,SatR,TR,XR,VR⟩:=SR.setAt;refine Qa (xH (s:={ s with heap:=N }) SatR.get SatR.data SatR.fits ?_)
  have a8:eR.size=ea.size:=by rw [<- Qt,XR.length,pr.length_eq,<- Xa.length,Qt]
  rw [if_neg (by lia)];dsimp only;refine Qa (wpAny_setEpoch_of (s:={ s with heap:=N }) Sb1.get Sb1.data Sb1.fits ?_);refine Qa (Q6 (Qa (Km (s:={ s with heap:=N }) Sb1 ?_)));obtain⟨ko,Xo,po⟩:=Xb.perm (p7 w b pb eb).symm;rw [<- Uq];refine Qa (Y3 _ (fun g _ J=>∃ h' kc kd d,Lp prog w V s ka kb g J h' kc kd d) _ ?_ ?_ _ _ ?_)
  ·rintro x g _ J ⟨h',kc,kd,d,rfl,m,O,u,B,lc,mk⟩
   cases u with
   | @cons k bx _ d Y u=>
    have H:TK prog w h' k bx:=Y.at fun o e=>m bx o e
    have y:Zd ((kd++[k])++d) kb:=by rw [Qw];exact B
    dsimp only;refine Qa (Q6 (RG (s:={ s with heap:=h' }) hu O H (fun hn=>?_) (fun j kc2 S S2 F=>?_) (by lia)))
    ·have Sb2:=Sb.at (m _ _ Sb.get);refine Qa (wE (s:={ s with heap:=h' }) Sb2.get Sb2.data Sb2.fits (Qb ?_))
     refine⟨h',kc,kd++[k],d,rfl,m,O,u,y,lc,fun v=>?_⟩
     rw [mk v,QE,Qy];constructor
     ·rintro⟨f,l⟩
      exact⟨f,fun z=>z.elim l fun z=>hn (z ▸ (mk v).mpr ⟨f,l⟩)⟩
     ·rintro⟨f,l⟩
      exact⟨f,fun z=>l (.inl z)⟩
    ·have p:∀ b o,s.heap.get? b=some o->j.get? b=some o:=fun b o e=>(S.2 b (QB (Qs e))).trans (m b o e);have Sb2:=Sb.at (p _ _ Sb.get);refine Qa (wE (s:={ s with heap:=j }) Sb2.get Sb2.data Sb2.fits (Qb ?_))
     have nd:(k::kc2).Nodup:=by
      obtain⟨_,_,_,_,_,_,_,_,_,_,z7,_⟩:=O;exact F.nodup_iff.mp z7
     have ll:=F.length_eq;rw [Qo]at ll
     refine⟨j,kc2,kd++[k],d,rfl,p,S2,u,y,by lia,fun v=>?_⟩
     rw [QE,Qy]
     have m1:v∈kc ↔ v=k ∨ v∈kc2:=by rw [F.mem_iff,Ql]
     constructor
     ·intro hx
      have:=(mk v).mp (m1.mpr (.inr hx))
      exact⟨this.1,fun z=>z.elim this.2 fun z=>(Q9.mp nd).1 (z ▸ hx)⟩
     ·rintro⟨f,l⟩
      rcases m1.mp ((mk v).mpr ⟨f,fun z=>l (.inl z)⟩)with z | z
      ·exact absurd (.inr z) l
      ·exact z
  ·rintro _ J ⟨h',kc,kd,d,rfl,m,O,u,B,lc,mk⟩;cases u;rw [QG]at B;refine Qb ?_
   have fin:∀ j kc2,(∀ b o,s.heap.get? b=some o->j.get? b=some o)->m8 prog w V j s.heap.objs.size kc2->Zd kc2 kc->JW (JX prog w) A (pure (J2 s.heap.objs.size)) Q E { s with heap:=j }:=fun j kc2 p S2 F=>
    Qb (h j _ kc2 (Qj _) p S2 fun k=>by rw [F.mem_iff,mk k,B.mem_iff])
   obtain⟨o,es,ep,t,ho,a5,hd,T,hp,X,a3,hV⟩:=_root_.id O;have I:t.fits es.size=true:=T.fits (by simp)
   have a9:es.size=kc.length:=by rw [<- X.length,Qt]
   unfold setTidy;refine Qa (QS (s:={ s with heap:=h' }) ho hd I ?_);dsimp only;by_cases td:t.tooManyDummies=true
   ·rw [if_pos td];obtain⟨M,m1,m2,m3,m4⟩:=Xq (n:=es.size) (by lia);refine HY (s:={ s with heap:=h' }) (V:=V) ho a5 hd I hp X a3 hV m1 m2 m3 m4 (by rw [QW];lia) fun j kc2 S S2 F=>?_;exact fin j kc2 (fun b o e=>(S.2 b (QB (Qs e))).trans (m b o e)) S2.toD F
   ·rw [if_neg td];exact Qb (fin h' kc m O (.refl _))
  ·exact⟨N,G,[],ko,rfl,U,SR.toD,Xo,po,by rw [pr.length_eq];exact a4,fun k=>by rw [pr.mem_iff];simp⟩
 ·rw [if_neg c];refine Qa (base_of a7 (Qa (G6 ?_)));refine Qa (Qb ?_);have W:∀ b o,s.heap.get? b=some o->(s.heap.push (uA w)).get? b=some o:=fun b o e=>Qf _ e;have Sa0:=Sa.at (W _ _ Sa.get);refine Qa (wpAny_setEpoch_of Sa0.get Sa0.data Sa0.fits ?_);refine Qa (Q6 (Qa (Km (s:={ s with heap:=s.heap.push (uA w) }) Sa0 ?_)));obtain⟨ko,Xo,po⟩:=Xa.perm (p7 w a pa ea).symm;rw [<- Uq];refine Qa (Y3 _ (fun g _ J=>∃ h' G kd d,Lq prog w V s ka kb g J h' G kd d) _ ?_ ?_ _ _ ?_)
  ·rintro x g _ J ⟨h',G,kd,d,rfl,m,SR,u,B,mk,vr⟩
   cases u with
   | @cons k bx _ d Y u=>
    have H:TK prog w h' k bx:=Y.at fun o e=>m bx o e;have Sb':=Sb.at (m _ _ Sb.get);have Sa':=Sa.at (m _ _ Sa.get)
    have a0:k∉kd:=by
     have:=B.nodup_iff.mpr a1
     have:=List.perm_middle.nodup_iff.mp this
     exact fun hh=>(Q9.mp this).1 (Yf _ hh)
    have y:Zd ((kd++[k])++d) ka:=by rw [Qw];exact B
    refine Qa (Q6 (Qa (Fq (s:={ s with heap:=h' }) hu Sb'.get Sb'.data Tb.toD (Xb.mono fun k b x=>x.at fun o e=>m b o e) H (fun i hi=>?_) fun hn=>?_)))
    ·refine Qa (Qb ?_);simp only [Option.isSome_some,Yy,Qp,if_false];refine Qb ?_;refine Qa (wE (s:={ s with heap:=h' }) Sa'.get Sa'.data Sa'.fits (Qb ?_))
     refine⟨h',G,kd++[k],d,rfl,m,SR,u,y,fun v=>?_,fun e K=>vr e (Qg _ K)⟩
     rw [mk v,QE,Qy];constructor
     ·rintro⟨f,l⟩;exact⟨.inl f,l⟩
     ·rintro⟨f | f,l⟩
      ·exact⟨f,l⟩
      ·exact absurd (f ▸ QD hi) l
    ·refine Qa (Qb ?_);simp only [Option.isSome_none,UB,if_true]
     have lk:G.length<=63:=by
      have N:G.length<=kd.length:=YN SR.nodup fun k Y=>((mk k).mp Y).1;have j:=B.length_eq;rw [Qm]at j;lia
     refine Qa (Eu (s:={ s with heap:=h' }) hu SR H (vr _ Qh) (by lia) (fun hm=>absurd ((mk k).mp hm).1 a0) fun _ j a2 S S2 F=>?_);have p:∀ b o,s.heap.get? b=some o->j.get? b=some o:=fun b o e=>(S.2 b (QB (Qs e))).trans (m b o e);have Sa2:=Sa.at (p _ _ Sa.get);refine Qb (Qa (wE (s:={ s with heap:=j }) Sa2.get Sa2.data Sa2.fits (Qb ?_)))
     refine⟨j,a2,kd++[k],d,rfl,p,S2,u,y,fun v=>?_,fun e K=>vr e (Qg _ K)⟩
     rw [F.mem_iff,Ql,mk v,QE,Qy];constructor
     ·rintro(f | ⟨f,l⟩)
      ·exact⟨.inr f,f ▸ hn⟩
      ·exact⟨.inl f,l⟩
     ·rintro⟨f | f,l⟩
      ·exact .inr ⟨f,l⟩
      ·exact .inl f
  ·rintro _ J ⟨h',G,kd,d,rfl,m,SR,u,B,mk,vr⟩;cases u;rw [QG]at B;refine Qb (Qb (h h' _ G (Qj _) m SR.toD fun k=>?_));rw [mk k,B.mem_iff]
  ·refine⟨_,[],[],ko,rfl,W,⟨_,#[],0,_,Qu _ rfl,⟨rfl,rfl,rfl⟩,rfl,⟨.inl rfl,rfl,rfl,ZP,fun x hx=>by simp [SetTable.fresh]at hx,(by show 0 * 5<7 * 3;decide),fun q hq=>by simp at hq⟩,⟨rfl,rfl⟩,.nil,Y8,fun e K=>by simp at K⟩,Xo,po,fun k=>by simp,fun e K=>Va e ((p7 w a pa ea).mem_iff.mp K)⟩
theorem X5(f:a≠b)(t:A.units+8<Zg)(SA:cG prog w V s.heap a ka)(SB:cG prog w V s.heap b kb)(e:ka.length<=63)
  (h:∀ h' r ks,s.heap.objs.size<=r->(∀ b o,s.heap.get? b=some o->h'.get? b=some o)->m8 prog w V h' r ks->(∀ k,k∈ks ↔ k∈ka/\k∉kb)->Q (.ref r) { s with heap:=h' }):
  JW (JX prog w) A (Zy .Sub (.ref a) (.ref b)) Q E s:=by
 obtain⟨i,v,q,n,Sa,I,y,G⟩:=SA.setAt;obtain⟨g,u,p,m,Sb,H,x,B⟩:=SB.setAt;have c:s.TypeIs (.ref a) "set":=⟨i,Sa.get,Sa.ex.1⟩;have d:s.TypeIs (.ref b) "set":=⟨g,Sb.get,Sb.ex.1⟩;refine wpAny_binaryOp_same c d PySem.F.fills_set_sub PySem.F.slot_set_sub (Yi PySem.F.slot_set_sub c PySem.F.set_sub_entry ?_ (PySem.F.args_set_sub_2 _ _));unfold Builtin.«frozenset.__sub__»
 wp_delta
 refine Qa (Ve (a:=(J2 a,J2 b)) (by rfl) ?_);simp only [Qp,if_false];refine Qa ?_;unfold andM;refine Qa (xZ c ?_)
 show JW _ _ (Z4 (.ref b)) _ _ _
 refine xZ d ?_;simp only [Yy,Qp,if_false];unfold ZT;refine Qa (Qb (Qa (RF f (by show A.units+1<Zg;lia) SA SB e fun h' r ks l j S mk=>?_)));exact Qb ⟨_,rfl,(fun z=>nomatch z),h h' r ks l j S mk⟩
end
end ST
namespace SL
open PySem.Spec L2 CL DL SD ST
def AD(g1 b:aA->Option (List (List Int))):aA->Option (List (List Int)):=fun a=>(g1 a).bind fun x=>(b a).bind fun y=>if x.length<=63 then some (x.filter fun k => !y.contains k)else none
section
variable {X:Cx}{a b:Expr}{pos:Pos}{g1 g2:aA->Option (List (List Int))}
theorem bL.carry(f:Inv X pins σ H1 s1)(d:Inv X pins' σ' H2 s2)(a:eI H1 H2):∀{es:List (Int × JS)}{ks:List (List Int)},bL X.prog X.w s1.heap es ks->(∀ e∈es,VT X.K H1 e.2)->bL X.prog X.w s2.heap es ks
 | _,_,.nil,_=>.nil
 | _,_,.cons (k:=k) (b:=bx) h1 r,hv=>by
  obtain⟨i,xs,h,c⟩:=hv _ Qh;cases h
  have:k=xs:=h1.unique (iY f c)
  subst this;exact .cons (iY d (eI.sqT a c)) (bL.carry f d a r fun e g=>hv e (Qg _ g))
theorem Rc(hc:X.calm=true)(hu:X.A.units+66<Zg)(ha:uO X a g1)(hb:uO X b g2):yL X (.BinOp a .Sub b pos) (AD g1 g2):=by
 intro d s m H Q I ⟨F,j,ρ,kl,S,q,k⟩;obtain⟨x,e1,q⟩:=aE q;obtain⟨y,e2,q⟩:=aE q;by_cases c:x.length<=63
 ·rw [if_pos c]at q;cases q;refine wpAny_BinOp (aU (ha d s m H (fun f z=>f.Nodup/\(∀ k,k∈f ↔ k∈x)/\∃ l,aH F l H z) I ⟨F,j,ρ,x,S,e1,fun l z f E1 n1 T=>⟨n1,T,l,E1⟩⟩) fun u s1 U=>?_);obtain⟨i,o1,ka,z,eu,I1,S1,_,_,T,l,E1⟩:=U;refine aU (hb ((i,o1)::d) s1 m z (fun f g=>f.Nodup/\(∀ k,k∈f ↔ k∈y)/\∃ B,aH l B z g) I1 ⟨l,j,ρ,y,S.ext E1,e2,fun B g f E2 n2 Z=>⟨n2,Z,B,E2⟩⟩) fun v s2 U=>?_;obtain⟨a2,o2,kb,g,ev,I2,S2,ap,_,Z,B,E2⟩:=U;subst eu;subst ev;have g1:s2.heap.get? i=some o1:=(I2.pin (i,o1) (Qz _ (Qg _ Qh))).1;have a0:i≠a2:=ap (i,o1) Qh
  have SA:cG X.prog X.w (VT X.K g) s2.heap i ka:=by
   obtain⟨o,es,ep,t,O,Y,N,M,J,W,G,E⟩:=S1
   have:s1.heap.get? i=some o1:=(I1.pin (i,o1) (Qz _ Qh)).1
   rw [O]at this;cases this
   exact⟨_,es,ep,t,g1,Y,N,M,J,bL.carry I1 I2 E2.same W E,G,fun e he=>by
    obtain⟨b',xs,e1,e2⟩:=E e he
    exact⟨b',xs,e1,eI.sqT E2.same e2⟩⟩
  refine X5 a0 (by lia) SA S2 ?_ fun h' r f hr kp SD mk=>?_
  ·have:ka.length<=x.length:=YN SA.nodup fun k h=>(T k).mp h
   lia
  ·obtain⟨o,es,ep,t,O,Y,N,M,J,W,G,E⟩:=SD;have I3:Inv X d m g s2:=I2.pins_of fun p n=>I2.pin p (Qz _ (Qg _ (Qg _ n)));have I4:Inv X d m g { s2 with heap:=h' }:=I3.kept (t':=s2.toks) kp
   have I5:Inv X ((r,o)::d) m g { s2 with heap:=h' }:=by
    refine I4.pins_of fun p n=>?_;rcases Ql.mp n with rfl | n
    ·refine⟨O,I2.hok.fresh hr,YZ (QJ I2.lt hr),I2.nofs hr,fun v hv=>?_⟩
     rw [N]at hv;exact nomatch hv
    ·exact I4.pin p (Qz _ n)
   refine⟨r,o,f,g,rfl,I5,⟨es,ep,t,⟨O,Y,N,M.fits (by simp),M.up,J.1,J.2⟩,W,G,E⟩,k B g f (E1.trans E2) G fun k=>?_⟩
   rw [mk k,T k,Z k,Q8];simp
 ·rw [if_neg c]at q;cases q
end
theorem Gg{X:Cx}{st:Zj}:DS X st (fun _=>none):=fun a s d H W I q=>by
 obtain⟨c,b,F,e,o,E,S,q,k⟩:=q;cases q
end SL
namespace DC
theorem Wd:typeLookup (.type "list") "keys"=pure none:=by rw [typeLookup_type,UE];kernel_rfl
section
variable {prog:JY}{w:J1}{A:Around}{E:JS->JT->Prop}{s:JT}
theorem Ss(l:s.heap.get? a=some o)(n:o.cls=.type "list")(f:o.data=.seq xs k)(m:o.dict=none)(u:A.handled=none)
  (h:∀ h' tk,(∀ b ob,s.heap.get? b=some ob->h'.get? b=some ob)->Q none { s with heap:=h',toks:=tk }):JW (JX prog w) A (getAttr? (.ref a) "keys") Q E s:=by
 obtain⟨c,v,dat,q⟩:=o
 simp only at n f m
 subst n f m;obtain⟨t,g,d,tk,r⟩:=s;have p:∀ i,(⟨t,g,d,i,r⟩:JT).TypeIs (.ref a) "list":=fun _=>⟨_,l,rfl⟩;have I:=sub_AttributeError;have H:=F.slot_list_getattribute.lookup;have G:=F.slot_list_getattribute.bind (.ref a);have B:=am_list_getattr_none;unfold getAttr? getAttrBy? getAttrBy
 repeat (any_goals (first | assumption | exact p _ | ((with_reducible show JW _ _ (call (Value.builtin "list.__getattribute__") _ _) _ _ _);refine U4 F.slot_list_getattribute (p _) am_entry_list_getattribute (F.args_list_getattribute_2 _ _) (meets_getattribute_miss_list a xs k q "keys" _ Wd (by decide +kernel)) ⟨l,u,fun h' i e j=>?_⟩) | wp_step))
 obtain⟨y,x,z⟩:=j.there
 show JW _ _ (getattributeRaised _ _ _ _ _ _ _) _ _ _
 unfold getattributeRaised
 repeat (any_goals (first | assumption | wp_step))
 exact h _ _ j.keeps
end
theorem Go:entryFor table "dict.update.loop"=some Builtin.«dict.update.loop»:=entryFor_of_tree (by kernel_rfl)
theorem wT:plainId "dict.update.loop"=true:=by decide +kernel
section
variable {κ:Type}[DecidableEq κ]
def i5(key:Nat->κ)(b:Nat->YP)(a:Nat->JS):Nat->List (κ × YP × JS)
 | 0=>[]
 | i+1=>storedH (i5 key b a i) (key i) (b i) (a i)
variable {key:Nat->κ}{kad:Nat->YP}{val:Nat->JS}
theorem Bb:∀ i,(i5 key kad val i).length<=i
 | 0=>Qj _
 | i+1=>by
  have:=Bb i
  unfold i5 storedH;split
  ·rw [Qd];lia
  ·rw [Qm,Yo];lia
theorem Bc:∀ i,∀ x∈i5 key kad val i,∃ j,j<i/\x.1=key j/\x.2.1=kad j
 | 0,x,h=>nomatch h
 | i+1,x,h=>by
  unfold i5 storedH at h
  split at h
  ·obtain⟨y,c,rfl⟩:=QO.mp h;obtain⟨j,d,b,a⟩:=Bc i y c
   refine⟨j,by lia,?_⟩
   unfold putAt;split
   ·exact⟨b,a⟩
   ·exact⟨b,a⟩
  ·rcases QE.mp h with h | h
   ·obtain⟨j,d,e⟩:=Bc i x h
    exact⟨j,by lia,e⟩
   ·rw [Qy]at h;subst h
    exact⟨i,by lia,rfl,rfl⟩
end
section
variable {prog:JY}{w:J1}{κ:Type}[DecidableEq κ]{knd:HeapKind prog w κ}{A:Around}{R:Result->JT->Prop}{I:YP}{fp wr:List YP}{G:Array Vg->Array Vg->Prop}{n:Nat}{Pv:Nat->JS->Prop}{St:Nat->JT->Prop}
theorem RE(W:WalksS prog w A.in1 I fp wr G n Pv St)(S:YP)(N:S∉fp)(hu:knd.room A.in1)(key:Nat->κ)(a:Nat->YP)(f:Nat->JS)(r:Heap)(res:JS)
  (l:∀(h h':Heap) k b,knd.is h k b->(∀ b o,h.get? b=some o->h'.get? b=some o)->knd.is h' k b)
  (g:∀ b o,r.get? b=some o->b≠S/\b∉wr) (F:∀ i v,i<n->Pv i v->∃ b,v=.ref b/\r.IsTuple b #[.ref (a i),f i]) (y:∀ i,i<n->knd.is r (key i) (a i)) (E:n<=1000):
  ∀(k i:Nat) (s:JT) (c:Int) (t:Tok),n-i=k->i<=n->St i s->(∀ b o,r.get? b=some o->s.heap.get? b=some o)->
   s.heap.DictOfH knd S (i5 key a f i)->
   (∀ s',Moved (S::wr) G s s'->(∀ b o,r.get? b=some o->s'.heap.get? b=some o)->s'.heap.DictOfH knd S (i5 key a f n)->R (.ok (.ret res)) s')->
   Ui (JX prog w) A (.builtin "dict.update.loop" ⟨[.ref S,.ref I,.int c t,res],[]⟩) R s:=by
 have a6:S∉wr:=fun h=>N (W.sub _ h);have u:∀ b∈wr,b∈S::wr:=fun b E=>Qg _ E
 have K:∀(s s':JT) i,i<=n->Moved wr G s s'->(∀ b o,r.get? b=some o->s'.heap.get? b=some o)->s.heap.DictOfH knd S (i5 key a f i)->s'.heap.DictOfH knd S (i5 key a f i):=fun s s' i hi p X Q=>by
  obtain⟨o,es,ep,ho,a2,hd,he,a8,Z⟩:=Q
  refine⟨o,es,ep,p.heap S _ a6 ho,a2,hd,he,fun x hx=>?_,Z⟩
  obtain⟨j,hj,e1,e2⟩:=Bc i x hx;rw [e1,e2];exact l _ _ _ _ (y j (by lia)) X
 intro k
 induction k with
 | zero=>
  intro i s c t hk hi z X Q hR
  have a1:i=n:=by lia
  subst a1;refine Jc Go ?_;rw [Ji wT _]
  show JW _ A.in1 (UI (.ref I) >>= _) _ _ s
  refine Qa (W.done s _ _ z fun s' p=>?_)
  show JW _ A.in1 (Builtin.Dict.addKeywords S [] >>= fun _=>ret res) _ _ s'
  have d:∀ b o,r.get? b=some o->s'.heap.get? b=some o:=fun b o e=>p.heap b o (g b o e).2 (X b o e);exact Qa (Qb (Qb (hR s' (p.mono u) d (K s s' i (Qj _) p d Q))))
 | succ k ih=>
  intro i s c t hk hi z X Q hR
  have q:i<n:=by lia
  refine Jc Go ?_;rw [Ji wT _]
  show JW _ A.in1 (UI (.ref I) >>= _) _ _ s
  refine Qa (W.item i s _ _ q z fun v s' hP H p=>?_);obtain⟨b,rfl,ot,J,a5,nt,a3⟩:=F i v q hP;have d:∀ b o,r.get? b=some o->s'.heap.get? b=some o:=fun b o e=>p.heap b o (g b o e).2 (X b o e);have a7:=K s s' i (by lia) p d Q;have a0:knd.is s'.heap (key i) (a i):=l _ _ _ _ (y i q) d;refine Qa (Q6 (Qa (wpAny_tryCatch ?_)));unfold Builtin.Dict.pairItems;refine Qa (YO (T:="tuple") ⟨ot,d _ _ J,a5⟩ ?_);rw [if_pos (by decide)];refine Qa (wpAny_seqItems (d _ _ J) a3 (Qb ?_))
  show JW _ A.in1 (Uh [J2 (a i),f i] (dictSet S (.ref (a i)) (f i))) _ _ s'
  refine Q6 (wpAny_dictSet_heap hu a0 a7 (fun h' a4 B=>?_) (Qr (Bb i) (by rw [sizeLine];lia)))
  have m:Moved (S::wr) G s { s' with heap:=h',toks:=s'.toks+knd.draws (key i) }:=
   (p.mono u).then_heap (Yt _ _) fun b o E e=>by rw [B.2 b (fun h:b=S=>E (by rw [h];exact Qh))];exact e
  refine Qb ⟨UO wT _,ih (i+1) _ (c+1) 0 (by lia) q (W.frame _ s' _ _ H (Yt _ _) fun b E o e=>?_) (fun b o e=>?_) a4 fun Y M U O=>?_⟩
  ·rw [B.2 b (fun h:b=S=>N (by rw [<- h];exact E))];exact e
  ·show h'.get? b=some o
   rw [B.2 b (g b o e).1];exact d b o e
  ·exact hR Y (Moved.trans W.gtrans m M) U O
end
section
variable {prog:JY}{w:J1}{κ:Type}[DecidableEq κ]{knd:HeapKind prog w κ}{A:Around}{E:JS->JT->Prop}{s:JT}
theorem PM(key:Nat->κ)(f:Nat->YP)(m:Nat->JS)
  (p:∀(h h':Heap) k b,knd.is h k b->(∀ b o,h.get? b=some o->h'.get? b=some o)->knd.is h' k b)
  (N:A.handled=none) (Z:∀ B:Around,B.units<=A.units+8->knd.room B) (U:s.heap.get? l=some { cls:=.type "list",dict:=none,data:=.seq items nl,slots:=sl })
  (hi:∀ i v,items[i]?=some v->∃ b,v=.ref b/\s.heap.IsTuple b #[.ref (f i),m i]) (hk:∀ i,i<items.size->knd.is s.heap (key i) (f i)) (hb:items.size<=1000)
  (h:∀(h':Heap) (tk:Nat),h'.DictOfH knd s.heap.objs.size (i5 key f m items.size)->(∀ b o,s.heap.get? b=some o->h'.get? b=some o)->Q (.ref s.heap.objs.size) { s with heap:=h',toks:=tk }):
  JW (JX prog w) A (call (.type "dict") [.ref l]) Q E s:=by
 refine callType_codes (Q₁:=fun u g=>u=.ref s.heap.objs.size/\g={ s with heap:=s.heap.push { cls:=.type "dict",data:=.dict #[] } }) F.kt_called_dict (F.kt_typeCall_dict_1 _) F.entry_dict_init (kt_code_dict_new _ ⟨rfl,rfl⟩) ?_;rintro u g ⟨rfl,rfl⟩;have j:(s.heap.push { cls:=.type "dict",data:=.dict #[] }).DictOfH knd s.heap.objs.size []:=Heap.DictOfH.new s.heap;have r:(s.heap.push { cls:=.type "dict",data:=.dict #[] }).get? l=some { cls:=.type "list",dict:=none,data:=.seq items nl,slots:=sl }:=Qf _ U
 refine⟨j.typeIs,F.args_dict_init_2 _ _,?_⟩
 unfold Builtin.«dict.__init__»;refine Qa ?_;unfold Builtin.Dict.selfAndRest;refine Qa (UF j.typeIs ?_)
 show JW _ _ (pure (s.heap.objs.size,[J2 l])) _ _ _
 refine Qb ?_
 show JW _ _ (ZV "dict.__init__" s.heap.objs.size (.ref l) [] .none) _ _ _
 unfold ZV;refine Qa (YO (T:="list") ⟨_,r,rfl⟩ ?_);rw [if_pos (by decide)];refine Qa (Ss r rfl rfl rfl (by first | exact N | simp [N]) fun a n c=>?_);rw [if_pos (by decide)];have G:a.IsList l items:=⟨_,c _ _ r,rfl,nl,rfl⟩;refine Qa (UK (Qa (Uz (s:={ s with heap:=a,toks:=n }) G ?_)));refine Qb ⟨UO wT _,?_⟩;have H:a.get? s.heap.objs.size=some { cls:=.type "dict",data:=.dict #[] }:=c _ _ (Qu _ rfl);have d:s.heap.objs.size<a.objs.size:=Qs H;have z:l<s.heap.objs.size:=Qs U;have x:l≠a.objs.size:=QB (Nat.lt_trans z d)
 have M:A.in1.in1.handled=none:=by simp [N]
 have t:∀ b o,s.heap.get? b=some o->(a.push { cls:=ZW "list_iterator",data:=Data.fields #[J2 l,U1 0 0] }).get? b=some o:=fun b o e=>
  Qf _ (c b o (Qf _ e))
 refine RE (knd:=knd) ((Walks.list M a.objs.size l x items).toS) s.heap.objs.size ?hSf (Z _ (by show A.units+1+1<=_;lia)) key f m s.heap .none p ?hold (fun i v _ Y=>hi i v Y) (fun i K=>hk i K) hb (items.size-0) 0 _ 0 0 (by lia) (QR _)
  ⟨⟨_,Qu _ rfl,rfl,rfl⟩,G.push _⟩ t ?hS0 ?hR
 case hSf=>
  simp only [Ql,Qy,JH,or_false,not_or]
  exact⟨QB d,YZ z⟩
 case hold=>
  intro b o e;have q:b<s.heap.objs.size:=Qs e
  refine⟨QB q,fun y=>?_⟩
  have O:b=a.objs.size:=Qy.mp y;rw [O]at q;exact absurd (Nat.lt_trans q d) (Jl _)
 case hS0=>exact⟨_,#[],0,Qf _ H,⟨rfl,rfl,rfl⟩,rfl,rfl,fun _ X=>by simp [i5]at X,Y8⟩
 case hR=>
  intro W y h0 S;obtain⟨h',g',d',I,J⟩:=W;have eg:g'=s.gens:=y.gens;have ed:d'=s.drawn:=y.drawn;have eo:J=s.os:=y.os;subst eg;subst ed;subst eo
  exact⟨rfl,h h' I S h0⟩
end
end DC
namespace DC
open PySem.Spec L2 DL ST SL
def cS:D->Option (List Int)
 | .tuple a=>dJ a
 | _=>none
theorem Hb:∀ ks:List Int,dJ (ks.map J0)=some ks
 | []=>rfl
 | k::ks=>by show(dJ (ks.map J0)).bind _=_;rw [Hb ks];rfl
theorem Bp(ks:List Int):cS (hX ks)=some ks:=Hb ks
theorem v3{K:PySem.W.Frag}{H:Hp}{k:dP}{b:YP}{ks:List Int}(h:oA K H k b):cS (jE k)=some ks ↔ k=.inl ks:=by
 cases k with
 | inl c=>
  show cS (hX c)=some ks ↔ _
  rw [Bp];constructor
  ·intro e;cases e;rfl
  ·intro e;cases e;rfl
 | inr a=>
  obtain⟨n,_⟩:=h
  cases a with
  | nil=>exact absurd rfl n
  | cons x d=>
   constructor
   ·intro e;cases e
   ·intro e;cases e
theorem qD{K:PySem.W.Frag}{F:YP->Prop}{H:Hp}{d:D}{v:V}{c:List Int}(r:aM K F H d v)(h:cS d=some c):∃ b,v=.ref b/\bJ K H b (c.map V.int):=by
 cases r with
 | @tup a vs ds h1 r1=>
  rw [xX r1 (show dJ ds=some c from h)]at h1
  exact⟨a,rfl,h1⟩
 | _=>cases h
def fS(a:List (D × D))(k:List Int):Bool:=a.any fun p=>cS p.1 == some k
def getD(a:List (D × D))(k:List Int):Option D:=(a.find? fun p=>cS p.1 == some k).map (·.2)
def fJ(a:List (D × D))(k:List Int)(v:D):List (D × D):=if fS a k=true then a.map fun p=>if(cS p.1 == some k)=true then(p.1,v)else p else a++[(hX k,v)]
abbrev cR:=dP × YP × V
def nI(es:List cR)(k:List Int):Bool:=es.any fun e=>decide (e.1=.inl k)
def jZ(es:List cR)(k:List Int)(b:YP)(v:V):List cR:=if nI es k=true then es.map fun e=>if e.1=.inl k then(e.1,e.2.1,v)else e else es++[(.inl k,b,v)]
theorem xC{K:PySem.W.Frag}{H:Hp}{k:dP}{b:YP}{a:List Int}(h:oA K H k b):(cS (jE k) == some a)=decide (k=.inl a):=by
 by_cases c:k=.inl a
 ·rw [decide_eq_true c,(v3 h).mpr c,beq_self_eq_true]
 ·rw [decide_eq_false c];exact beq_eq_false_iff_ne.mpr fun e=>c ((v3 h).mp e)
section
variable {K:PySem.W.Frag}{F:YP->Prop}{H:Hp}
theorem DReps.has:∀{kvs:List (D × D)}{es:List cR} (k:List Int),DReps K F H kvs es->fS kvs k=nI es k
 | _,_,_,.nil=>rfl
 | _,_,k,.cons h r t=>by
  have:=DReps.has k t
  unfold fS nI at this ⊢;rw [Jy,Jy,this,xC h]
theorem DReps.append:∀{kvs kvs':List (D × D)}{es es':List cR},DReps K F H kvs es->DReps K F H kvs' es'->DReps K F H (kvs++kvs') (es++es')
 | _,_,_,_,.nil,s=>s
 | _,_,_,_,.cons h r t,s=>.cons h r (DReps.append t s)
theorem DReps.repl{k:List Int}{d:D}{v:V}(a:aM K F H d v):∀{kvs:List (D × D)}{es:List cR},DReps K F H kvs es->
  DReps K F H (kvs.map fun p=>if(cS p.1 == some k)=true then(p.1,d)else p) (es.map fun e=>if e.1=.inl k then(e.1,e.2.1,v)else e)
 | _,_,.nil=>.nil
 | _,_,@DReps.cons _ _ _ k' b d' v' _ _ h r t=>by
  rw [Qk,Qk];by_cases c:k'=.inl k
  ·rw [if_pos (by rw [xC h,decide_eq_true c]),if_pos c];exact .cons h a (DReps.repl a t)
  ·rw [if_neg (by rw [xC h,decide_eq_false c];decide),if_neg c];exact .cons h r (DReps.repl a t)
theorem DReps.put(t:DReps K F H kvs es)(e:bJ K H b (k.map V.int))(a:aM K F H d v):DReps K F H (fJ kvs k d) (jZ es k b v):=by
 unfold fJ jZ;rw [DReps.has k t];by_cases c:nI es k=true
 ·rw [if_pos c,if_pos c];exact DReps.repl a t
 ·rw [if_neg c,if_neg c];exact DReps.append t (.cons (k:=.inl k) e a .nil)
theorem DReps.get:∀{kvs:List (D × D)}{es:List cR} (k:List Int) {d:D},DReps K F H kvs es->getD kvs k=some d->∃ b v,(es.find? fun e=>decide (e.1=.inl k))=some (.inl k,b,v)/\aM K F H d v
 | _,_,_,_,.nil,h=>by cases h
 | _,_,k,d,@DReps.cons _ _ _ k' b d' v' _ _ h r t,e=>by
  unfold getD at e;rw [YX]at e;rw [YX,xC h]at *;by_cases c:k'=.inl k
  ·rw [decide_eq_true c]at e ⊢;cases e;subst c
   exact⟨b,v',rfl,r⟩
  ·rw [decide_eq_false c]at e ⊢;exact DReps.get k t e
theorem DReps.length:∀{kvs:List (D × D)}{es:List cR},DReps K F H kvs es->kvs.length=es.length
 | _,_,.nil=>rfl
 | _,_,.cons h r t=>by simp [DReps.length t]
def eU(a:List (D × D)):Bool:=a.all fun p=>(cS p.1).isSome
theorem DReps.flat:∀{kvs:List (D × D)}{es:List cR},DReps K F H kvs es->eU kvs=true->∀ e∈es,∃ ks,e.1=.inl ks/\bJ K H e.2.1 (ks.map V.int)
 | _,_,.nil,_,e,a=>nomatch a
 | _,_,.cons h r t,f,e,a=>by
  unfold eU at f;rw [List.all_cons,QF]at f;rcases Ql.mp a with rfl | a
  ·obtain⟨ks,q⟩:=Option.isSome_iff_exists.mp f.1
   have:=(v3 h).mp q
   refine⟨ks,this,?_⟩
   dsimp only at this ⊢;subst this;exact h
  ·exact DReps.flat t f.2 e a
end
abbrev lN:=List Int × YP × JS
abbrev ER:cR->lN->Prop:=fun e x=>e.1=.inl x.1/\e.2.1=x.2.1/\RelV e.2.2 x.2.2
theorem xU(k:List Int):∀{es:List cR}{xs:List lN},Paired ER es xs->nI es k=(Vj xs k).isSome
 | _,_,.nil=>rfl
 | _,_,@Paired.cons _ _ _ e x es xs h t=>by
  have b:=xU k t;unfold nI at b ⊢;rw [Jy,b];by_cases c:x.1=k
  ·have a:Vj (x::xs) k=some x.2:=by simp [Vj,YX,c]
   rw [a,decide_eq_true (by rw [h.1,c])];rfl
  ·have a:Vj (x::xs) k=Vj xs k:=by simp [Vj,YX,c]
   rw [a,decide_eq_false (by rw [h.1];intro z;cases z;exact c rfl)];rfl
theorem Gq(a:RelV v u):∀{es:List cR}{xs:List lN},Paired ER es xs->Paired ER (es.map fun e=>if e.1=.inl k then(e.1,e.2.1,v)else e) (xs.map (putAt k u))
 | _,_,.nil=>.nil
 | _,_,@Paired.cons _ _ _ e x es xs h t=>by
  rw [Qk,Qk];refine .cons ?_ (Gq a t);unfold putAt;by_cases c:x.1=k
  ·rw [if_pos c,if_pos (by rw [h.1,c])];exact⟨h.1,h.2.1,a⟩
  ·rw [if_neg c,if_neg (by rw [h.1];intro z;cases z;exact c rfl)];exact h
theorem Fk(a:RelV v u)(t:Paired ER es xs):Paired ER (jZ es k b v) (storedH xs k b u):=by
 unfold jZ storedH;rw [xU k t];by_cases c:(Vj xs k).isSome=true
 ·rw [if_pos c,if_pos c];exact Gq a t
 ·rw [if_neg c,if_neg c];exact Paired.snoc t ⟨rfl,rfl,a⟩
theorem AK:∀{es:List cR}{xs:List lN},Paired ER es xs->es.map (·.1)=(xs.map (·.1)).map Sum.inl
 | _,_,.nil=>rfl
 | _,_,.cons h t=>by rw [Qk,Qk,Qk,AK t,h.1]
theorem AJ:∀{es:List cR}{xs:List lN},Paired ER es xs->(es.find? fun e=>decide (e.1=.inl k))=some (.inl k,b,v)->∃ p,Vj xs k=some p/\RelV v p.2
 | _,_,.nil,q=>by cases q
 | _,_,@Paired.cons _ _ _ e x es xs h t,q=>by
  rw [YX]at q;by_cases c:x.1=k
  ·have a:Vj (x::xs) k=some x.2:=by simp [Vj,YX,c]
   rw [decide_eq_true (by rw [h.1,c])]at q;cases q
   exact⟨_,a,h.2.2⟩
  ·have a:Vj (x::xs) k=Vj xs k:=by simp [Vj,YX,c]
   rw [decide_eq_false (by rw [h.1];intro z;cases z;exact c rfl)]at q;rw [a];exact AJ t q
theorem Gy{l:List (List Int)}(h:l.Nodup):(l.map (Sum.inl:List Int->dP)).Nodup:=by
 rw [UL,Yb];exact List.Pairwise.imp (fun n e=>n (Sum.inl.inj e)) h
theorem VH{l:List (List Int)}(h:(l.map (Sum.inl:List Int->dP)).Nodup):l.Nodup:=by
 rw [UL,Yb]at h;exact List.Pairwise.imp (fun n e=>n (by rw [e])) h
abbrev fD(P:JY)(w:J1):HeapKind P w (List Int):=tupleKind (intKind P w)
theorem tW{X:Cx}{pins:List (YP × Obj)}{p:L2.St}{H:Hp}{s:JT}{a:YP}{es:List cR}{ep:Nat}(I:Inv X pins p H s)(h:H a=some (bO a es ep))(d:∀ e∈es,∃ ks,e.1=.inl ks/\bJ X.K H e.2.1 (ks.map V.int))(m:(es.map (·.1)).Nodup):
  (a == Zp)=false/\∃ xs:List lN,s.heap.DictOfH (fD X.prog X.w) a xs/\Paired ER es xs:=by
 obtain⟨⟨u,o,f,B,A,z,y⟩,_⟩:=(show dS X.prog X.w H s.heap a (bO a es ep)from I.hok a _ h)
 have mk:∀{l:List cR}{r:List ZM},Paired (fun(e:dP × YP × V) (r:ZM)=>r.hash=Az e.1/\r.key=.ref e.2.1/\RelV e.2.2 r.val) l r->(∀ e∈l,∃ ks,e.1=.inl ks/\bJ X.K H e.2.1 (ks.map V.int))->
   ∃ xs:List lN,r=xs.map (entryOfKey (fD X.prog X.w))/\Paired ER l xs/\∀ x∈xs,(fD X.prog X.w).is s.heap x.1 x.2.1:=by
  intro l r q
  induction q with
  | nil=>exact fun _=>⟨[],rfl,.nil,fun x b=>nomatch b⟩
  | @cons e r l rs h t ih=>
   intro d;obtain⟨xs,i,c,g⟩:=ih fun e v=>d e (Qg _ v);obtain⟨ks,n,E⟩:=d e Qh
   refine⟨(ks,e.2.1,r.val)::xs,?_,.cons ⟨n,rfl,h.2.2⟩ c,fun x b=>?_⟩
   ·rw [Qk,<- i];congr 1;obtain⟨M,J,G⟩:=r;obtain⟨k,j,F⟩:=h;dsimp only at k j ⊢;subst k j;rw [n];rfl
   ·rcases Ql.mp b with rfl | b
    ·exact iY I E
    ·exact g x b
 obtain⟨xs,i,c,g⟩:=mk y d
 refine⟨u,xs,⟨o,f,ep,B,A,z,i,g,?_⟩,c⟩
 rw [AK c]at m;exact VH m
theorem Ei{P:JY}{w:J1}{H:Hp}{h:Heap}{a:YP}{es:List cR}{xs:List lN}(c:(a == Zp)=false)(d:h.DictOfH (fD P w) a xs)(r:Paired ER es xs):∃ ep,dS P w H h a (bO a es ep):=by
 obtain⟨o,b,ep,f,j,i,g,m,l⟩:=d;clear m l
 refine⟨ep,⟨c,o,b,f,j,i,?_⟩,⟨o,f⟩,fun p n ⟨c,o,b,s,q⟩ k=>⟨c,o,b,k _ s,q⟩⟩
 rw [g];clear f j i g
 induction r with
 | nil=>exact .nil
 | @cons e x es xs h t ih=>
  rw [Qk];refine .cons ⟨?_,?_,h.2.2⟩ ih
  ·rw [h.1];rfl
  ·rw [h.2.1];rfl
end DC
namespace DC
open PySem.Spec L2 DL ST SL
section
variable {X:Cx}
def fF(b:Bool)(d e:D):Option D:=match e with
 | .dict a=>(cS d).bind fun k=>if eU a=true then some (.bool (if b then !fS a k else fS a k))else none
 | e=>dG b d e
theorem vT(h:fF neg d (.dict kvs)=some r):∃ k,cS d=some k/\eU kvs=true/\r=.bool (if neg then !fS kvs k else fS kvs k):=by
 obtain⟨k,a,q⟩:=aE (show((cS d).bind fun k=>if eU kvs=true then some (J6 (if neg then !fS kvs k else fS kvs k))else none)=some r from h);by_cases c:eU kvs=true
 ·rw [if_pos c]at q;cases q;exact⟨k,a,c,rfl⟩
 ·rw [if_neg c]at q;cases q
theorem Cs(E:X.A.units+65<Zg):bC X (Zf .In) (cD X.K (fF false)):=fun c s B H x y v u Q I m j J=>by
 obtain⟨F,d,e,q,z,p,R2,g,k⟩:=J
 cases R2 with
 | @dct a es kvs ep f h n l t=>
  obtain⟨i,G,o,rfl⟩:=vT g;obtain⟨b,rfl,N⟩:=qD p G;cases m;cases j;obtain⟨M,S,dd,O⟩:=tW I h (DReps.flat t o) n;refine wpAny_in_heap (knd:=fD X.prog X.w) (k:=i) (show X.A.in1.units<Zg from by show X.A.units+1<Zg;lia) (iY I N) M dd ?_;rw [<- xU i O,<- DReps.has i t]
  exact⟨.bl _,H,I.tok _,rfl,k F H _ (aH.refl F H) (.bl _)⟩
 | exn f h n=>
  obtain⟨i,G,o,_⟩:=vT g;cases o
 | tup h r=>exact yG E c s B H _ _ v u Q I m j ⟨F,d,_,q,z,p,.tup h r,g,k⟩
 | lst h r=>exact yG E c s B H _ _ v u Q I m j ⟨F,d,_,q,z,p,.lst h r,g,k⟩
 | non=>cases g
 | bl _=>cases g
 | int _=>cases g
 | str _=>cases g
theorem Ir(E:X.A.units+65<Zg):bC X (Zf .NotIn) (cD X.K (fF true)):=fun c s B H x y v u Q I m j J=>by
 obtain⟨F,d,e,q,z,p,R2,g,k⟩:=J
 cases R2 with
 | @dct a es kvs ep f h n l t=>
  obtain⟨i,G,o,rfl⟩:=vT g;obtain⟨b,rfl,N⟩:=qD p G;cases m;cases j;obtain⟨M,S,dd,O⟩:=tW I h (DReps.flat t o) n;refine wpAny_notIn_heap (knd:=fD X.prog X.w) (k:=i) (show X.A.in1.units<Zg from by show X.A.units+1<Zg;lia) (iY I N) M dd ?_;rw [<- xU i O,<- DReps.has i t]
  exact⟨.bl _,H,I.tok _,rfl,k F H _ (aH.refl F H) (.bl _)⟩
 | exn f h n=>
  obtain⟨i,G,o,_⟩:=vT g;cases o
 | tup h r=>exact p6 E c s B H _ _ v u Q I m j ⟨F,d,_,q,z,p,.tup h r,g,k⟩
 | lst h r=>exact p6 E c s B H _ _ v u Q I m j ⟨F,d,_,q,z,p,.lst h r,g,k⟩
 | non=>cases g
 | bl _=>cases g
 | int _=>cases g
 | str _=>cases g
def y9(d e:D):Option D:=match d with
 | .dict a=>(cS e).bind fun k=>if eU a=true then getD a k else none
 | d=>aO d e
theorem MR(hu:X.A.units+65<Zg):fC X (cD X.K y9):=fun c g j s o H x y v u Q I E B S J=>by
 obtain⟨F,d,e,q,z,R1,R2,i,k⟩:=S
 cases R1 with
 | @dct a es kvs ep f h n l t=>
  obtain⟨G,O,i⟩:=aE (show((cS e).bind fun k=>if eU kvs=true then getD kvs k else none)=some q from i);by_cases M:eU kvs=true
  ·rw [if_pos M]at i;obtain⟨b,rfl,U⟩:=qD R2 O;cases E;cases B;obtain⟨lo,xs,dd,er⟩:=tW I h (DReps.flat t M) n;obtain⟨b',T,g1,Z⟩:=DReps.get G t i;obtain⟨p,Y,W⟩:=AJ er g1;have N:=dd.typeIs;unfold Ua;refine Qa ?_;rw [UG N.not_modules];refine Qa (Jx N PySem.F.slot_dict_getitem.lookup ?_)
   have fin:JW (JX X.prog X.w) X.A (Vc g false (.ref a) (.ref b)) (fun r m=>JW (JX X.prog X.w) X.A (letTemporaryGo c (.ref a) r >>= fun _=>pure r) (EP X j o Q) X.xe m) X.xe s:=by
    rw [J];refine wpAny_operating ?_;refine wpAny_getItem_heap (knd:=fD X.prog X.w) (k:=G) (show X.A.in1.units<Zg from by show X.A.units+1<Zg;lia) (iY I U) dd Y ?_;exact Qa (UT (Qb ⟨T,H,I.tok _,W,k F H _ (aH.refl F H) Z⟩))
   first
    | exact Qb (Qa fin)
    | exact Qa (Qb (Qa fin))
    | exact Qa fin
  ·rw [if_neg M]at i;cases i
 | exn f h n=>
  obtain⟨G,O,i⟩:=aE i;cases i
 | tup h r=>exact bD c g j s o H _ _ v u Q I E B ⟨F,_,e,q,z,.tup h r,R2,i,k⟩ J
 | lst h r=>exact bD c g j s o H _ _ v u Q I E B ⟨F,_,e,q,z,.lst h r,R2,i,k⟩ J
 | non=>cases i
 | bl _=>cases i
 | int _=>cases i
 | str _=>cases i
end
end DC
namespace DC
open PySem.Spec L2 DL ST SL
def p8:D->Option (List Int × D)
 | .tuple [k,v]=>(cS k).bind fun a=>some (a,v)
 | _=>none
def jO:List D->Option (List (List Int × D))
 | []=>some []
 | d::r=>(p8 d).bind fun p=>(jO r).bind fun a=>some (p::a)
def mK(b:List (List Int × D)):List (D × D):=b.foldl (fun a p=>fJ a p.1 p.2) []
def Bh:List D->Option D
 | [.list ds]=>if ds.length<=1000 then(jO ds).bind fun a=>some (.dict (mK a))else none
 | _=>none
structure Tr where
 k:List Int
 b:YP
 v:V
 d:D
def Dn(K:PySem.W.Frag)(F:YP->Prop)(H:Hp)(x:V)(t:Tr):Prop:=∃ b,x=.ref b/\bJ K H b [.ref t.b,t.v]/\bJ K H t.b (t.k.map V.int)/\aM K F H t.d t.v
theorem W9{K:PySem.W.Frag}{F:YP->Prop}{H:Hp}{d:D}{x:V}{p:List Int × D}(r:aM K F H d x)(h:p8 d=some p):∃ t,p=(t.k,t.d)/\Dn K F H x t:=by
 cases r with
 | @tup a vs ds h1 r1=>
  unfold p8 at h
  split at h
  ·rename_i k v e;cases e;obtain⟨j,m,h⟩:=aE h;cases h
   cases r1 with
   | cons f i=>
    cases i with
    | cons c g=>
     cases g;obtain⟨b,rfl,l⟩:=qD f m
     exact⟨⟨j,b,_,v⟩,rfl,a,rfl,h1,l,c⟩
  ·cases h
 | _=>cases h
theorem IE{K:PySem.W.Frag}{F:YP->Prop}{H:Hp}:∀{ds:List D}{vs:List V}{ps:List (List Int × D)},Reps K F H ds vs->jO ds=some ps->∃ ts:List Tr,ps=ts.map (fun t=>(t.k,t.d))/\Paired (Dn K F H) vs ts
 | _,_,_,.nil,h=>by cases h;exact⟨[],rfl,.nil⟩
 | _,_,_,.cons r rs,h=>by
  obtain⟨p,c,h⟩:=aE h;obtain⟨ps,b,h⟩:=aE h;cases h;obtain⟨t,rfl,q⟩:=W9 r c;obtain⟨ts,rfl,a⟩:=IE rs b
  exact⟨t::ts,rfl,.cons q a⟩
theorem Paired.at{c d:Type}{R:c->d->Prop}:∀{l:List c}{m:List d}{i:Nat}{a:c},Paired R l m->l[i]?=some a->∃ b,m[i]?=some b/\R a b
 | _,_,_,_,.nil,e=>by simp at e
 | _,_,0,_,.cons h _,e=>by simp at e;subst e;exact⟨_,rfl,h⟩
 | _,_,i+1,_,.cons _ t,e=>by
  obtain⟨b,g,f⟩:=Paired.at t (by simpa using e)
  exact⟨b,by simpa using g,f⟩
theorem Paired.atR{d c:Type}{R:d->c->Prop}:∀{l:List d}{m:List c}{i:Nat}{b:c},Paired R l m->m[i]?=some b->∃ a,l[i]?=some a/\R a b
 | _,_,_,_,.nil,e=>by simp at e
 | _,_,0,_,.cons h _,e=>by simp at e;subst e;exact⟨_,rfl,h⟩
 | _,_,i+1,_,.cons _ t,e=>by
  obtain⟨b,g,f⟩:=Paired.atR t (by simpa using e)
  exact⟨b,by simpa using g,f⟩
theorem pick{P:Nat->JS->Prop}(n:Nat)(h:∀ i,i<n->∃ u,P i u):∃ f:Nat->JS,∀ i,i<n->P i (f i):=by
 classical
 refine⟨fun i=>if c:i<n then Classical.choose (h i c)else .none,fun i a=>?_⟩
 show P i (if c:i<n then Classical.choose (h i c)else .none)
 rw [dif_pos a];exact Classical.choose_spec (h i a)
def jC:Tr:=⟨[],0,.non,.none⟩
theorem Fw{K:PySem.W.Frag}{F:YP->Prop}{H:Hp}(ts:List Tr)(a:Nat->JS)(h:∀ t∈ts,bJ K H t.b (t.k.map V.int)/\aM K F H t.d t.v)(f:∀(i:Nat) t,ts[i]?=some t->RelV t.v (a i)):
  ∀ i,i<=ts.length->∃ es,DReps K F H (mK ((ts.map fun t=>(t.k,t.d)).take i)) es/\Paired ER es (i5 (fun i=>(ts.getD i jC).k) (fun i=>(ts.getD i jC).b) a i)
 | 0,_=>⟨[],.nil,.nil⟩
 | i+1,hi=>by
  obtain⟨es,n,m⟩:=Fw ts a h f i (by lia);have c:i<ts.length:=hi
  have j:ts[i]?=some ts[i]:=by simp [c]
  have l:ts.getD i jC=ts[i]:=by simp [List.getD,c]
  have g:=h ts[i] (Ys c)
  refine⟨jZ es ts[i].k ts[i].b ts[i].v,?_,?_⟩
  ·have e:(ts.map fun t=>(t.k,t.d)).take (i+1)=(ts.map fun t=>(t.k,t.d)).take i++[(ts[i].k,ts[i].d)]:=by
    rw [List.take_succ,QH,j];rfl
   rw [e];unfold mK;rw [List.foldl_append];exact DReps.put n g.1 g.2
  ·show Paired ER _ (storedH _ (ts.getD i jC).k (ts.getD i jC).b (a i))
   rw [l];exact Fk (f i _ j) m
section
variable {X:Cx}
theorem boot_dict:Zn "dict"=some (.type "dict"):=by decide +kernel
theorem Xt{P:JY}{w:J1}(h h':Heap)(k:List Int)(b:YP)(x:(fD P w).is h k b)(e:∀ b o,h.get? b=some o->h'.get? b=some o):(fD P w).is h' k b:=TK.at x fun o a=>e b o a
theorem PC{pins:List (YP × Obj)}{a:L2.St}{H:Hp}{s:JT}(I:Inv X pins a H s):Zp<s.heap.objs.size:=by
 have h:J4<s.heap.objs.size:=(I.mod.glob.keeps I.bk).lt;exact Nat.lt_trans (by decide) h
def NN(K:PySem.W.Frag):List V->Hp->VK->Prop:=fun b H Q=>∃(F:YP->Prop) (ds:List D) (ps:List (List Int × D)),(∀ a,F a->H a≠none)/\Reps K F H [.list ds] b/\ds.length<=1000/\jO ds=some ps /\
 ∀ p es ep,H p=none->DReps K F H (mK ps) es->(es.map (·.1)).Nodup->es.length<=1000->Q (.ref p) (aJ H p (bO p es ep))
theorem Bg(hc:X.calm=true)(hu:X.A.units+66<Zg):dA X (.type "dict") (NN X.K):=fun a0 s σ H xs us Q I rv zz=>by
 obtain⟨F,ds,ps,z,R,hl,e1,k⟩:=zz
 cases R with
 | cons R1 R2=>
  cases R2
  cases R1 with
  | @lst a vs _ h1 r1=>
   obtain⟨u,rfl,ru⟩:=jQ rv;cases ru;obtain⟨f,n,⟨o,nl,g1,g2,g3,g4⟩,_⟩:=I.list h1.sq;obtain⟨c,rfl,p⟩:=IE r1 e1
   have d:f.length=c.length:=by rw [<- n.length];exact Paired.length p
   have r:c.length<=1000:=by rw [<- Paired.length p,<- r1.length];exact hl
   obtain⟨m,h⟩:=pick (P:=fun i u=>∀ t,c[i]?=some t->RelV t.v u/\∀ v,f[i]?=some v->∃ b,v=.ref b/\s.heap.IsTuple b #[.ref t.b,u]) c.length fun i g=>by
    have l:c[i]?=some c[i]:=by simp [g]
    obtain⟨x,S,b,rfl,J,E,G⟩:=Paired.atR p l;obtain⟨a2,rj,O,_⟩:=I.tuple J
    cases rj with
    | @cons _ u1 _ us1 ra rb=>
     cases rb with
     | @cons _ u2 _ us2 rc rd=>
      cases rd;cases ra
      refine⟨u2,fun t j=>?_⟩
      rw [l]at j;cases j
      refine⟨rc,fun v T=>?_⟩
      obtain⟨w',ew,M⟩:=n.get S;rw [T]at ew;cases ew;cases M
      exact⟨b,rfl,O⟩
   obtain⟨oc,od,a1,N⟩:=o
   have W:s.heap.get? a=some { cls:=.type "list",dict:=none,data:=.seq f.toArray nl,slots:=N }:=by
    rw [g1];simp only at g2 g3 g4;rw [g2,g3,g4]
   refine PM (knd:=fD X.prog X.w) (fun i=>(c.getD i jC).k) (fun i=>(c.getD i jC).b) m Xt (I.ok.hd hc) (fun B hB=>show B.units<Zg by lia) W (fun i v T=>?_) (fun i g=>?_) (by rw [QI,d];exact r) fun h' tk dd keep=>?_
   ·have q:f[i]?=some v:=by simpa using T
    have g:i<c.length:=by rw [<- d];exact(Qe.mp q).1
    have l:c[i]?=some c[i]:=by simp [g]
    have Y:c.getD i jC=c[i]:=by simp [List.getD,g]
    obtain⟨b,e,it⟩:=(h i g _ l).2 v q
    exact⟨b,e,by rw [Y];exact it⟩
   ·have y:i<c.length:=by rw [<- d];simpa using g
    have l:c[i]?=some c[i]:=by simp [y]
    have Y:c.getD i jC=c[i]:=by simp [List.getD,y]
    obtain⟨x,S,b,_,J,E,G⟩:=Paired.atR p l
    show TK X.prog X.w s.heap (c.getD i jC).k (c.getD i jC).b
    rw [Y];exact iY I E
   ·obtain⟨es,f1,Z⟩:=Fw (K:=X.K) (F:=F) (H:=H) c m (fun t j=>by
     obtain⟨i,g⟩:=List.mem_iff_getElem?.mp j;obtain⟨x,S,b,_,J,E,G⟩:=Paired.atR p g
     exact⟨E,G⟩) (fun i t j=>(h i (Qe.mp j).1 t j).1) c.length (Qj _)
    rw [Jt (by simp)]at f1
    have U:f.toArray.size=c.length:=by rw [QI,d]
    rw [U]at dd;have lo:(s.heap.objs.size == Zp)=false:=beq_eq_false_iff_ne.mpr (ZI (QB (PC I)));have hp:H s.heap.objs.size=none:=I.hok.fresh (Qj _);obtain⟨ep,oo⟩:=Ei (H:=H) lo dd Z
    refine⟨.ref s.heap.objs.size,aJ H s.heap.objs.size (bO s.heap.objs.size es ep),I.laid keep (Qj _) oo,rfl,k _ es ep hp f1 ?_ ?_⟩
    ·obtain⟨_,_,_,_,_,_,_,_,hn⟩:=dd;rw [AK Z];exact Gy hn
    ·rw [Paired.length Z];exact Qr (Bb _) r
theorem RP(h:X.calm=true)(g:X.A.units+66<Zg):dA X (.type "dict") (iR X.K Bh):=oD (Bg h g) fun j H Q e=>by
 obtain⟨F,s,q,z,R,a,k⟩:=e;unfold Bh at a
 split at a
 ·rename_i b;by_cases c:b.length<=1000
  ·rw [if_pos c]at a;obtain⟨f,i,a⟩:=aE a;cases a
   exact⟨F,b,f,z,R,c,i,fun p m o d r n l=>k _ _ _ (aH.frozen d) (.dct (.inr rfl) cN n l (r.stay (aH.frozen d).stay))⟩
  ·rw [if_neg c]at a;cases a
 ·cases a
end
end DC
namespace DC
open PySem.Spec L2 DL ST SL EL
def eM(ga:aA->Option D):aA->Option (List D):=fun a=>(ga a).bind jJ
def iT(gr:aA->Option (List D)):aA->Option (List D):=fun a=>(gr a).bind j0
def rZ(gr:aA->Option (List D)):aA->Option (List D):=fun a=>(gr a).bind CK
section
variable {X:Cx}{tg e a b:Expr}{es:List Expr}{ga:aA->Option D}{gr:aA->Option (List D)}{p pos:Pos}
theorem i6(a:DE X e ga):DI X tg e (eM ga):=FW a
theorem q8(c:Gl X "range")(b:X.mg "range"=none)(d:DA X [a] gr)(hs:JU [a] X.env=[(false,Za a X.env)]:=by rfl):DI X tg (.Call (.Name "range" p) [a] [] pos) (iT gr):=RC c b d hs
theorem RB{x1}(e:Gl X "zip")(d:X.mg "zip"=none)(f:DA X [a,b] gr)(hs:JU [a,b] X.env=[(false,Za a X.env),(false,Za b X.env)]:=by rfl)(c:JU [b] X.env=[(false,Za b X.env)]:=by rfl):
  DI X (.Tuple elts x1 tpos) (.Call (.Name "zip" p) [a,b] [] pos) (rZ gr):=RD e d f hs c
end
end DC
namespace DL
open PySem.Spec L2
def Dz:Sl->Bool
 | .ownD _ | .ownM _=>true
 | _=>false
def sB(i:Nat)(ρ:aA):Bool:=(ρ.set i .no).all fun s => !Dz s
theorem Iq(h:sB i ρ=true)(a:ρ[j]?=some s)(hs:Dz s=true:=by rfl):i=j:=by
 by_cases c:i=j
 ·exact c
 ·have:(ρ.set i .no)[j]?=some s:=by rw [Qq c];exact a
  have:=QT.mp h _ (QD this)
  rw [hs]at this;cases this
theorem aW.putOwnD{K:PySem.W.Frag}{F:YP->Prop}{H H₀:Hp}{A:L2.St}{ρ:List Sl}(S:aW K F H H₀ A ρ){i:Nat}{b:List (D × D)}{es:List (dP × YP × V)}{ep:Nat}{p:YP}(E:H p=none)(O:H₀ p=none)(n:(es.map (·.1)).Nodup)(l:es.length<=1000)(r:DReps K F H b es):
  aW K F (aJ H p (bO p es ep)) H₀ (A.set i (some (.ref p))) (ρ.set i (.ownD b)):=by
 have e:aH F F H (aJ H p (bO p es ep)):=aH.fresh E;have S':=S.ext e;have N:¬ F p:=fun f=>S.fz p f E
 refine⟨by simp [S.len],fun j s h=>?_,fun j k a u t v y x I G=>?_,S'.fz⟩
 ·by_cases c:i=j
  ·subst c
   have d:i<ρ.length:=by
    have:=Qe.mp h
    simpa using this.1
   rw [Qx d]at h;cases h
   exact⟨some (.ref p),by rw [Qx (by rw [S.len];exact d)],p,es,ep,rfl,cN,N,O,n,l,r.stay e.stay⟩
  ·rw [Qq c]at h;obtain⟨o,q,w⟩:=S'.sl j s h
   exact⟨o,by rw [Qq c];exact q,w⟩
 ·have B:∀(m:Nat) (es:List D),(ρ.set i (.ownD b))[m]?=some (.own es)->i≠m:=fun m es g z=>by
   subst z;by_cases d:i<ρ.length
   ·rw [Qx d]at g;cases g
   ·rw [Jz (by simpa using Ya d)]at g;cases g
  have M:=B j u y;have J:=B k t x;rw [Qq M]at y I;rw [Qq J]at x G;exact S.sep j k a u t v y x I G
theorem aW.turnD{K:PySem.W.Frag}{F:YP->Prop}{H H₀:Hp}{B:L2.St}{ρ:List Sl}(S:aW K F H H₀ B ρ){i:Nat}{I c:List (D × D)}{es b:List (dP × YP × V)}{ep ep':Nat}{p:YP}(hi:ρ[i]?=some (.ownD I))(hs:B[i]?=some (some (.ref p)))
  (J:H p=some (bO p es ep)) (A:¬ F p) (h0:H₀ p=none) (one:sB i ρ=true) (n:(b.map (·.1)).Nodup) (l:b.length<=1000) (r:DReps K F H c b):
  aW K F (aJ H p (bO p b ep')) H₀ B (ρ.set i (.ownD c))/\bA K F F H (aJ H p (bO p b ep')):=by
 have T:bA K F F H (aJ H p (bO p b ep')):=⟨fun _ h=>h,fun a Z h=>by
   rcases h with(h | ⟨o,h⟩) | h
   ·exact .inl (.inl (by rw [aV (by intro z;subst z;rw [J]at h;cases h)];exact h))
   ·exact .inl (.inr ⟨o,by rw [aV (by intro z;subst z;rw [J]at h;cases h)];exact h⟩)
   ·exact .inr h,fun a Z f h=>by
   have x:a≠p:=fun z=>A (by rw [<- z];exact f);rcases h with h | ⟨o,h⟩
   ·exact .inl (by rw [aV x];exact h)
   ·exact .inr ⟨o,by rw [aV x];exact h⟩,fun a φ f h=>by rw [aV (fun z=>A (by rw [<- z];exact f))];exact h⟩
 have Y:i<ρ.length:=(Qe.mp hi).1
 refine⟨⟨by simp [S.len],fun j s h=>?_,fun j k a t u M Q O h3=>?_,fun a f z=>S.fz a f (by
  have x:a≠p:=fun y=>A (by rw [<- y];exact f)
  rwa [aV x]at z)⟩,T⟩
 ·by_cases e:i=j
  ·subst e;rw [Qx Y]at h;cases h
   exact⟨_,hs,p,b,ep',rfl,cN,A,h0,n,l,r.stay T⟩
  ·rw [Qq e]at h;obtain⟨o,q,w⟩:=S.sl j s h
   refine⟨o,q,?_⟩
   cases s with
   | no=>trivial
   | ownD k2=>exact absurd (Iq one h) e
   | ownM k2=>exact absurd (Iq one h) e
   | dat d=>obtain⟨v,G,E⟩:=w;exact⟨v,G,E.stay T⟩
   | own t=>
    obtain⟨a,ws,G,N,nf,U,E⟩:=w
    exact⟨a,ws,G,by rw [aV (by intro z;subst z;rw [J]at N;cases N)];exact N,nf,U,E.stay T⟩
 ·have X:∀(m:Nat) (es:List D),(ρ.set i (.ownD c))[m]?=some (.own es)->i≠m:=fun m es g z=>by
   subst z;rw [Qx Y]at g;cases g
  have nj:=X j t Q;have nk:=X k u O;rw [Qq nj]at Q;rw [Qq nk]at O;exact S.sep j k a t u M Q O h3
end DL
namespace DC
open PySem.Spec L2 DL ST SL EL
def xA(i:Nat)(gr:aA->Option (List D)):aA->Option aQ:=fun a=>(gr a).bind fun b=>match b with
 | [.list ds]=>if ds.length<=1000 then(jO ds).bind fun c=>some (.nx (a.set i (.ownD (mK c))))else none
 | _=>none
def t8(i:Nat)(gk:aA->Option D):aA->Option D:=fun a=>match a[i]? with
 | some (.ownD kvs)=>(gk a).bind fun c=>(cS c).bind fun b=>if eU kvs=true then getD kvs b else none
 | _=>none
def sD(i:Nat)(gk e:aA->Option D):aA->Option aQ:=fun a=>match a[i]? with
 | some (.ownD kvs)=>(e a).bind fun d=>(gk a).bind fun c=>(cS c).bind fun b=>if(eU kvs && decide (kvs.length<1000) && sB i a)=true then some (.nx (a.set i (.ownD (fJ kvs b d))))else none
 | _=>none
section
variable {X:Cx}{e k v:Expr}{es:List Expr}{gr:aA->Option (List D)}{gk gv:aA->Option D}{p pos:Pos}
theorem RL(M:X.N.Nodup)(J:X.calm=true)(v:X.A.units+66<Zg)(G:Gl X y)(z:X.mg y=none)(u:Zn y=some (.type "dict"))(K:DA X (e::es) gr)(B:X.N[i]?=some x:=by rfl)(t:Loc X.env.scope x:=by first | exact Ze rfl | exact Zc rfl)
  (w:y≠"__name__":=by decide) (d:(y == ("__debug__":Str))=false:=by decide) (he:JU (e::es) X.env=(false,Za e X.env)::JU es X.env:=by rfl) (hpl:(Zb pos'' (JU es X.env)).any (·.1)=false:=by rfl)
  (hs:ZC (.Call (.Name y p) (e::es) [] pos'') (some (.Name x pos')) pos.line X.env=pure false:=by rfl) (I:X.fn x=true ∨ X.env.scope.names.lookup x=some .local:=by first | exact .inl rfl | exact .inr rfl | assumption):
  DS X (.Assign [.Name x pos'] (.Call (.Name y p) (e::es) [] pos'') pos) (xA i gr):=ps_mono (ps_set M B t (sV (Bg J v) G z u K w d he hpl) hs I) fun W U H m=>by
 obtain⟨g,a,F,j,o,E,S,q,k⟩:=m;obtain⟨Y,Q,q⟩:=aE q
 split at q
 ·rename_i f;by_cases c:f.length<=1000
  ·rw [if_pos c]at q;obtain⟨s,O,q⟩:=aE q;cases q
   refine⟨F,a,j,[.list f],S,Q,fun h H' Z E' T=>⟨h,f,s,(S.ext E').fz,T,c,O,fun pp es ep b r n l=>?_⟩⟩
   exact k h _ _ ((E.trans E').trans (aH.fresh b)) (E'.stay.trans (aH.fresh b).stay) ((S.ext E').putOwnD b ((E.trans E').same.free b) n l r)
  ·rw [if_neg c]at q;cases q
 ·cases q
def NS(K:PySem.W.Frag):R2:=fun x y H Q=>∃(F:YP->Prop) (a b:YP) (es:List cR) (ep:Nat) (kvs:List (D × D)) (ks:List Int) (r:D),x=.ref a/\y=.ref b/\bJ K H b (ks.map V.int)/\H a=some (bO a es ep)/\(es.map (·.1)).Nodup/\eU kvs=true/\DReps K F H kvs es/\getD kvs ks=some r/\∀ w,aM K F H r w->Q w H
theorem S9(hu:X.A.units+65<Zg):fC X (NS X.K):=fun c d f s j H x y v u Q I z o l E=>by
 obtain⟨F,a,b,es,ep,B,g,q,W,U,J,h,n,T,t,G,k⟩:=l;subst W U;cases z;cases o;obtain⟨lo,Z,dd,Y⟩:=tW I h (DReps.flat t T) n;obtain⟨b',m,S,O⟩:=DReps.get g t G;obtain⟨p,N,M⟩:=AJ Y S;have i:=dd.typeIs;unfold Ua;refine Qa ?_;rw [UG i.not_modules];refine Qa (Jx i PySem.F.slot_dict_getitem.lookup ?_)
 have fin:JW (JX X.prog X.w) X.A (Vc d false (.ref a) (.ref b)) (fun r e=>JW (JX X.prog X.w) X.A (letTemporaryGo c (.ref a) r >>= fun _=>pure r) (EP X f j Q) X.xe e) X.xe s:=by
  rw [E];refine wpAny_operating ?_;refine wpAny_getItem_heap (knd:=fD X.prog X.w) (k:=g) (show X.A.in1.units<Zg from by show X.A.units+1<Zg;lia) (iY I J) dd N ?_;exact Qa (UT (Qb ⟨m,H,I.tok _,M,k _ O⟩))
 first
  | exact Qb (Qa fin)
  | exact Qa (Qb (Qa fin))
  | exact Qa fin
theorem Rv(y:X.A.units+65<Zg)(z:DE X k gk)(G:X.N[i]?=some x:=by rfl)(v:gG X.env.scope x:=by first | exact Ze rfl | exact Zc (Ze rfl) | exact Zc (Zc rfl))(B:(x == ("__debug__":Str))=false:=by decide)
  (f:(x == ("__classdict__":Str))=false:=by decide) (hs:qX k:=by exact fun _ _=>rfl):DE X (.Subscript (.Name x p) k pos) (t8 i gk):=
 bT (sW (S9 y) (pe_var G v B f) z hs) fun W H Q l=>by
  obtain⟨F,e,j,d,S,q,t⟩:=l;unfold t8 at q
  split at q
  ·rename_i c O;obtain⟨u,M,q⟩:=aE q;obtain⟨s,K,q⟩:=aE q;by_cases g:eU c=true
   ·rw [if_pos g]at q;obtain⟨a,I,J,r,o,q3,Z,n,Y,m⟩:=S.ownD O
    refine⟨.ref a,r,F,e,j,u,S,M,fun h U kv E1 T=>?_⟩
    obtain⟨b,rfl,E⟩:=qD T K
    exact⟨h,a,b,I,J,c,s,d,rfl,rfl,E,E1.same _ _ o,n,g,m.stay E1.stay,q,fun w R=>t h U w E1 R⟩
   ·rw [if_neg g]at q;cases q
  ·cases q
theorem Wf{es:List cR}{k:List Int}{b:YP}{v:V}(h:(es.map (·.1)).Nodup):((jZ es k b v).map (·.1)).Nodup:=by
 unfold jZ;by_cases c:nI es k=true
 ·rw [if_pos c,Q3]
  have:(es.map ((fun x=>x.1) ∘ fun(e:cR)=>if e.1=.inl k then(e.1,e.2.1,v)else e))=es.map (·.1):=by
   refine List.map_congr_left fun e _=>?_
   show(if e.1=.inl k then(e.1,e.2.1,v)else e).1=e.1
   split <;> rfl
  rw [this];exact h
 ·rw [if_neg c,QX,YJ]
  refine⟨h,by simp,fun x d y a z=>?_⟩
  subst z;simp only [Qk,List.map_nil,Qy]at a;subst a;obtain⟨e,f,g⟩:=QO.mp d;exact c (List.any_eq_true.mpr ⟨e,f,decide_eq_true g⟩)
theorem Wg{es:List cR}{k:List Int}{b:YP}{v:V}:(jZ es k b v).length<=es.length+1:=by
 unfold jZ;split
 ·rw [Qd];lia
 ·rw [Qm,Yo];lia
theorem RK{i:Nat}{x:Str}{p' h:Pos}(hu:X.A.units+65<Zg)(hk:DE X k gk)(hv:DE X v gv)(hN:X.N[i]?=some x:=by rfl)(Z:gG X.env.scope x:=by first | exact Ze rfl | exact Zc (Ze rfl) | exact Zc (Zc rfl))(hd:(x == ("__debug__":Str))=false:=by decide)
  (a2:(x == ("__classdict__":Str))=false:=by decide) (hs:ZC v (some (.Subscript (.Name x p') k h)) pos.line X.env=pure false:=by rfl):DS X (.Assign [.Subscript (.Name x p') k h] v pos) (sD i gk gv):=by
 intro g s n H W I ⟨a3,j,F,M,o,E,S,q,kk⟩;unfold sD at q
 split at q
 ·rename_i t e0;obtain⟨d,e1,q⟩:=aE q;obtain⟨kd,e2,q⟩:=aE q;obtain⟨B,e3,q⟩:=aE q;by_cases c:(eU t && decide (t.length<1000) && sB i M)=true
  ·rw [if_pos c]at q;cases q;simp only [QF,decide_eq_true_eq]at c;obtain⟨⟨fl,ln⟩,one⟩:=c;refine wpAny_Assign_Subscript (aU (hv g s n H (fun w r=>∃ m,aH F m H r/\aM X.K m r d w) I ⟨F,j,M,d,S,e1,fun m r w E1 R1=>⟨m,E1,R1⟩⟩) fun u s1 ⟨w,r,I1,T,m,E1,R1⟩=>?_) hs;have S1:=S.ext E1;obtain⟨a,es,ep,q1,q2,q3,q4,q5,q6,q7⟩:=S1.ownD e0;refine aU ((pe_var hN Z hd a2) g s1 n r (fun z J=>z=.ref a/\J=r) I1 ⟨.ref a,q1,rfl,rfl⟩) fun u2 s2 O=>?_;obtain⟨z,J,I2,rz,ez,eh⟩:=O;subst ez eh;cases rz;refine aU (hk g s2 n J (fun y p=>∃ l,aH m l J p/\aM X.K l p kd y) I2 ⟨m,j,M,kd,S1,e2,fun l p y E3 R3=>⟨l,E3,R3⟩⟩) fun u3 Q O=>?_;obtain⟨y,p,I3,ry,l,E3,R3⟩:=O;obtain⟨b,rfl,hb⟩:=qD R3 e3;cases ry;have S3:=S1.ext E3;have hH:=E3.same _ _ q2;have t3:=q7.stay (K:=X.K) E3.stay;obtain⟨lo,xs,dd,er⟩:=tW I3 hH (DReps.flat t3 fl) q5
   have Y:xs.length<=sizeLine:=by rw [<- Paired.length er];exact Qr q6 (by rw [QW];lia)
   refine wpAny_setItem_heap (knd:=fD X.prog X.w) (k:=B) (show X.A.in1.units<Zg from by show X.A.units+1<Zg;lia) (iY I3 hb) dd (fun h' G a0=>?_) Y
   have a1:¬ l a:=fun f=>by
    rcases E3.new a f with f | ⟨f,_⟩
    ·exact q3 f
    ·rw [q2]at f;cases f
   have U:es.length<1000:=by rw [<- DReps.length q7];exact ln
   obtain⟨ep',oo⟩:=Ei (H:=p) lo G (Fk T er);obtain⟨T1,T2⟩:=S3.turnD (ep':=ep') e0 q1 hH a1 q4 one (Wf (k:=B) (b:=b) (v:=w) q5) (Qr Wg U) (DReps.put t3 hb (R1.stay E3.stay));have I4:Inv X g n (aJ p a (bO a (jZ es B b w) ep')) { Q with heap:=h',toks:=Q.toks+(fD X.prog X.w).draws B }:=I3.write (x:=a) (e:=a) (t':=Q.toks+(fD X.prog X.w).draws B) (by rw [hH];exact Uk) (.inl rfl) (fun c ob hc z=>(a0.2 c hc).trans z) (let⟨o2,_,_,hq,_⟩:=G;⟨o2,hq⟩) oo
   exact⟨n,_,I4,kk l _ n (((E.trans E1).trans E3).turn q4) ((E1.stay.trans E3.stay).trans T2) T1⟩
  ·rw [if_neg c]at q;cases q
 ·cases q
end
end DC
namespace DC
open PySem.Spec L2 DL ST SL EL
def lM(h:Heap)(a:YP)(b:Array ZM)(ep:Nat):Prop:=(a == Zp)=false/\∃ o,h.get? a=some o/\o.ExactDict/\o.data=.dict b ep
section
variable {P:JY}{w:J1}{A:Around}{E:JS->JT->Prop}{s:JT}{d it:YP}{raw:Array ZM}{ep i:Nat}
theorem lM.ty(h:lM s.heap d raw ep):s.TypeIs (.ref d) "dict":=let⟨_,o,h1,h2,_⟩:=h;⟨o,h1,h2.1⟩
theorem Hh(h:lM s.heap d raw ep)(f:Q (.ref s.heap.objs.size) { s with heap:=s.heap.push { cls:=.type "dict_keyiterator",data:=.fields #[.ref d,.int 0 0,.int raw.size 0,.int ep 0] } }):JW (JX P w) A (pyIter (.ref d)) Q E s:=by
 have a:=h.ty;obtain⟨e,o,c,g,b⟩:=h;refine wpAny_pyIter_slot a PySem.F.slot_dict_iter (Yi PySem.F.slot_dict_iter a PySem.F.entry_dict_iter ?_ (PySem.F.args_dict_iter_1 _));unfold Builtin.«dict.__iter__»;refine Qa ?_;unfold Builtin.Dict.dictSlotNone
 refine Qa (UF a ?_);show JW _ _ (pure (J2 d)) _ _ s;refine Qb ?_
 show JW _ _ (UH d >>= _) _ _ s;unfold UH
 rw [if_neg (by rw [e];exact Qv)];refine Qa (Qb (Qa (YU c b ?_)));refine Qa (JP c b (Qa (Yj (Qb ⟨_,rfl,"dict_keyiterator",_,⟨_,Qu _ rfl,rfl⟩,PySem.F.slot_dict_keyiterator_next.lookup,?_⟩))))
 simpa [Z2]using f
theorem G8(a:s.heap.IsKeyIter it d i raw.size ep)(h:lM s.heap d raw ep)(j:i<raw.size)
  (l:∀ h',h'.IsKeyIter it d (i+1) raw.size ep->Zi it s.heap h'->Q (some raw[i].key) { s with heap:=h' }):JW (JX P w) A (UI (.ref it)) Q E s:=by
 obtain⟨o,e,k,c⟩:=id a;obtain⟨n,m,g,p,f⟩:=h;unfold UI;refine Qa (UN (YG (name:=Zr "__next__") a.typeIs PySem.F.slot_dict_keyiterator_next (Yi PySem.F.slot_dict_keyiterator_next a.typeIs PySem.F.entry_dict_keyiterator_next ?_ (PySem.F.args_dict_keyiterator_next_1 _))));refine Qa (Qb (Qa (Qa ?_)));refine Qa (YS a.typeIs (Qb (Qa (U7 e c ?_))));simp only [show Builtin.Dict_items.ownsTuple "dict_keyiterator"=false from by decide,Qp,if_false]
 show JW _ _ (if(J2 d == J9)=true then _ else _) _ _ s;rw [if_neg (show ¬ ((J2 d == J9)=true)from Qv)]
 refine Qa (Qb (Qa (YU g f ?_)));rw [if_neg (by simp)];refine Qa (Qb (Qa (JP g f ?_)));rw [if_neg (by simp)];refine Qb ?_;simp only [show ¬ ((i:Int)<0)from by lia,if_false,Je,QK j];refine Qa ?_;refine Qa (YS a.typeIs (Qb (Qa (wpAny_isOneOf_keyiter a.typeIs ?_))))
 show JW _ _ (setField (.ref it) 1 (Z2 ((i:Int)+1)) >>= _) _ _ s;refine Qa (YR e c (by simp) ?_)
 have b:(s.heap.update it (Zt (·.setIfInBounds 1 (Z2 ((i:Int)+1))))).IsKeyIter it d (i+1) raw.size ep:=⟨_,Q1 _ e (Y9 (Yq c _)),(Uy ..).trans k,by rw [Yq c];simp [Z2]⟩;refine Qa (Q6 (Qa (wpAny_isOneOf_keyiter (s:={ s with heap:=s.heap.update it (Zt (·.setIfInBounds 1 (Z2 ((i:Int)+1)))) }) b.typeIs ?_)))
 show JW _ _ (pure raw[i].key) _ _ _;exact Qb (Qb ⟨_,rfl,Qb (l _ b (QZ ..))⟩)
theorem Gn(l:A.handled=none)(c:s.heap.IsKeyIter it d i raw.size ep)(h:lM s.heap d raw ep)(k:raw.size<=i)
  (n:∀ h',Heap.ExtBut it s.heap h'->Q none { s with heap:=h' }):JW (JX P w) A (UI (.ref it)) Q E s:=by
 obtain⟨o,e,r,f⟩:=id c;obtain⟨q,p,j,t,g⟩:=h;unfold UI;refine Qa (UN (YG (name:=Zr "__next__") c.typeIs PySem.F.slot_dict_keyiterator_next (Yi PySem.F.slot_dict_keyiterator_next c.typeIs PySem.F.entry_dict_keyiterator_next ?_ (PySem.F.args_dict_keyiterator_next_1 _))));refine Qa (Qb (Qa (Qa ?_)));refine Qa (YS c.typeIs (Qb (Qa (U7 e f ?_))));simp only [show Builtin.Dict_items.ownsTuple "dict_keyiterator"=false from by decide,Qp,if_false]
 show JW _ _ (if(J2 d == J9)=true then _ else _) _ _ s;rw [if_neg (show ¬ ((J2 d == J9)=true)from Qv)]
 refine Qa (Qb (Qa (YU j g ?_)));rw [if_neg (by simp)];refine Qa (Qb (Qa (JP j g ?_)));rw [if_neg (by simp)];refine Qb ?_;simp only [show ¬ ((i:Int)<0)from by lia,if_false,Je,Yu k];refine Qa ?_
 refine Qa (YS c.typeIs (Qb ?_));show JW _ _ (setField (.ref it) 0 .none >>= _) _ _ s
 refine Qa (YR e f (by simp) ?_);show JW _ _ (newExc (.type "StopIteration") [] >>= _) _ _ _;refine Qa ?_
 simp only [newExc,newTuple];refine Qa (Yj ?_ (by size_fits));refine Qa (m:=U8 _ _) (Ve (a:=J9) (by first | rfl | (simp only [U8];rfl)) (Yj ?_ (by size_fits)));simp only [raiseNew];refine Qa (wpAny_handled ?_);rw [show A.in1.handled=none from l];refine Qa (Qb (wpAny_throw ?_));refine Qa (Jo (T:="StopIteration") (b:=true) ⟨_,Qu _ rfl,rfl⟩ isSubtype_stop ?_);exact Qb (n _ (((QZ ..).extBut.push _).push _))
end
def CN(a:YP)(es:List cR)(ep:Nat):It:=⟨fun i H=>H a=some (bO a es ep)/\i<es.length,fun i H x b=>b=H/\∃ e,es[i]?=some e/\x=.ref e.2.1,fun i H=>H a=some (bO a es ep)/\es.length<=i⟩
theorem wX(I:Inv X pins σ H s)(h:H a=some (bO a es ep)):
  ∃ raw:Array ZM,lM s.heap a raw ep/\raw.size=es.length/\∀(i:Nat) (hi:i<raw.size) (e:cR),es[i]?=some e->raw[i].key=.ref e.2.1:=by
 obtain⟨⟨d,o,raw,k,j,g,c⟩,_⟩:=(show dS X.prog X.w H s.heap a (bO a es ep)from I.hok a _ h)
 refine⟨raw,⟨d,o,k,j,g⟩,?_,fun i hi e f=>?_⟩
 ·have:=Paired.length c
  simpa using this.symm
 ·obtain⟨r,b,_,q,_⟩:=Paired.at c f
  have:raw.toList[i]?=some raw[i]:=by simp [hi]
  rw [this]at b;cases b;exact q
theorem zTc{P:JY}{w:J1}{K:PySem.W.Frag}{S:Expr}(a it:YP)(es:List cR)(ep:Nat):kO P w K S (CN a es ep) [it] it (fun i h=>h.IsKeyIter it a i es.length ep) where
 mem:=by simp
 obj:=fun i h f b j=>by
  have e:b=it:=by simpa using j
  subst e;obtain⟨o,e,c,d⟩:=f
  exact⟨o,e,fun v z=>by rw [d]at z;cases z⟩
 keep:=fun i h n f k=>let⟨o,e,c⟩:=f;⟨o,k it (by simp) o e,c⟩
 item:=by
  intro X u q x Q i g s J H E I m f t;subst u q x;obtain⟨r,N⟩:=t;obtain⟨p,rd,sz,M⟩:=wX I r;obtain⟨G,F,U,B,A,y⟩:=m it (by simp);rw [<- sz]at f;refine G8 f rd (by lia) fun n l T=>?_;have Z:Inv X g J H { s with heap:=n }:=I.turned (t':=s.toks) (fun b o j e=>(T.2 b j).trans e) G F B A y;obtain⟨o,e,c,d⟩:=id l
  have O:es[i]?=some es[i]:=by simp [N]
  refine⟨_,rfl,uB (s:={ s with heap:=n }) e c d (by decide) ⟨.ref (es[i]).2.1,H,Z,?_,⟨rfl,_,O,rfl⟩,by rw [<- sz];exact l,fun b j=>(m b j).1⟩⟩
  rw [M i (by lia) _ O];rfl
 done:=by
  intro X u q x Q i g s J H E I m f t;subst u q x;obtain⟨r,N⟩:=t;obtain⟨p,rd,sz,M⟩:=wX I r;obtain⟨G,F,U,B,A,y⟩:=m it (by simp);rw [<- sz]at f;exact Gn (I.ok.hd Q) f rd (by lia) fun n Y=>⟨rfl,I.turned (t':=s.toks) (fun b o j e=>Y b o j e) G F B A y⟩
 self:=fun _ _ _ _ _ f h=>wpAny_pyIter_keyiter f h
def zC:D->Bool
 | .tuple _=>true
 | _=>false
def sH:D->Option (List D)
 | .dict a=>if(a.all fun e=>zC e.1)=true then some (a.map (·.1))else none
 | d=>jJ d
theorem H0{K:PySem.W.Frag}{F:YP->Prop}{H:Hp}:∀{kss:List (List Int)}{bs:List YP},Paired (fun(ks:List Int) (b:YP)=>bJ K H b (ks.map V.int)) kss bs->Reps K F H (kss.map fun ks=>.tuple (ks.map J0)) (bs.map V.ref)
 | _,_,.nil=>.nil
 | _,_,.cons h t=>.cons (.tup h (rG _)) (H0 t)
theorem HZ{K:PySem.W.Frag}{F:YP->Prop}{H:Hp}{k:dP}{b:YP}(h:oA K H k b):aM K F H (jE k) (.ref b):=by
 cases k with
 | inl c=>exact .tup h (rG c)
 | inr a=>obtain⟨_,bs,e,d⟩:=h;exact .tup e (H0 d)
theorem DReps.key{K:PySem.W.Frag}{F:YP->Prop}{H:Hp}{a:List (D × D)}{es:List cR}(t:DReps K F H a es):∀{i:Nat}{d:D},(a.map (·.1))[i]?=some d->∃ e,es[i]?=some e/\aM K F H d (.ref e.2.1):=by
 induction es generalizing a with
 | nil=>cases t;intro i d h;simp at h
 | cons e es b=>
  cases t with
  | cons c f t=>
   intro i d h
   cases i with
   | zero=>simp at h;subst h;exact⟨_,rfl,HZ c⟩
   | succ i=>exact b t (by simpa using h)
theorem SU{K:PySem.W.Frag}{F:YP->Prop}{H:Hp}{a:YP}{es:List cR}{ep:Nat}{b:List (D × D)}(f:F a)(h:H a=some (bO a es ep))(t:DReps K F H b es):kL K F H (b.map (·.1)) (CN a es ep):=fun p u T z i=>by
 have j:=T.xt _ _ f h;have g:=t.stay T
 refine⟨fun d o=>?_,fun n=>⟨j,by rw [<- DReps.length g];simpa using n⟩⟩
 obtain⟨e,k,r⟩:=DReps.key g o
 refine⟨⟨j,(Qe.mp k).1⟩,fun x s y=>?_⟩
 obtain⟨m,q,c,l⟩:=y;subst m l;rw [k]at c;cases c
 exact⟨p,aH.refl _ _,r⟩
def u7(ga:aA->Option D):aA->Option (List D):=fun a=>(ga a).bind sH
theorem Rz{X:Cx}{G e:Expr}{ga:aA->Option D}(A:DE X e ga):DI X G e (u7 ga):=by
 intro g s z H R I h;obtain⟨F,i,w,O,S,q,k⟩:=h;obtain⟨d,B,q⟩:=aE q
 cases d with
 | dict j=>
  by_cases c:(j.all fun e=>zC e.1)=true
  ·rw [sH,if_pos c]at q;cases q;refine aU (A g s z H (fun x m=>∃ p,aH F p H m/\aM X.K p m (.dict j) x) I ⟨F,i,w,_,S,B,fun p m v y u=>⟨p,y,u⟩⟩) fun v r E=>?_;obtain⟨x,m,I1,M,p,y,u⟩:=E;generalize hd:PyData.dict j=dd at u
   cases u with
   | @dct a es kvs' ep f h n l t=>
    cases hd;cases M;obtain⟨J,rd,sz,Q⟩:=wX I1 h;refine Hh rd ⟨r.heap.objs.size,[r.heap.objs.size],_,_,m,rfl,I1.kept (t':=r.toks) fun b o e=>Qf _ e,zTc a _ es ep,⟨_,Qu _ rfl,rfl,by rw [sz];rfl⟩,fun b N=>?_,k p m _ y (SU f h t)⟩
    have e:b=r.heap.objs.size:=by simpa using N
    subst e;exact I1.fpOk (Qj _) (I1.hok.fresh (Qj _))
   | exn f h n=>
    exfalso
    cases hd;cases c
   | _=>cases hd
  ·rw [sH,if_neg c]at q;cases q
 | _=>exact FW A g s z H R I ⟨F,i,w,O,S,by show(ga w).bind jJ=_;rw [B];exact q,k⟩
end DC
namespace DC
open PySem.Spec L2 DL ST SL EL
def nE:List D->Option D
 | [.bool b]=>some (.int (if b=true then 1 else 0))
 | _=>none
theorem PF:Zn "int"=some (.type "int"):=by decide +kernel
theorem RQ:dA X (.type "int") (iR X.K nE):=fun b s h H i j Q I d c=>by
 obtain⟨F,l,q,z,R,a,k⟩:=c;unfold nE at a
 split at a
 ·cases a
  cases R with
  | cons g R2=>
   cases R2;cases g
   cases d with
   | cons f e=>
    cases e;cases f;exact call_int_bool ⟨.int _,H,I.tok _,⟨_,rfl⟩,k F H _ (aH.refl F H) (.int _)⟩
 ·cases a
end DC
namespace DL
open PySem.Spec L2
section
variable {X:Cx}{a b:Expr}{ga:aA->Option (List D)}{pos:Pos}
end
end DL
namespace TX
open PySem.Spec L2 DL
open Builtin Builtin.Str
theorem Kk:∀{xs:List Str}{us:List JS},Vals (xs.map V.str) us->∃ l:List (Str × Tok),us=strValues l/\l.map (·.1)=xs
 | [],_,.nil=>⟨[],rfl,rfl⟩
 | x::xs,_,.cons r t=>by
  obtain⟨u,rfl⟩:=r;obtain⟨l,rfl,e⟩:=Kk t
  exact⟨(x,u)::l,rfl,by rw [Qk,e]⟩
theorem KO:∀ l:List (Str × Tok),Vals ((l.map (·.1)).map V.str) (strValues l)
 | []=>.nil
 | p::l=>.cons ⟨p.2,rfl⟩ (KO l)
theorem Xc(z y:Str):(partsBetween z (occurrences z y 0 z.length (z.length+1)) y.length).length<=z.length+2:=by
 rw [length_partsBetween];exact Nat.succ_le_succ (StrLaws.occ_length_le _ _ _ _ _)
section
variable {X:Cx}
theorem Vm:o6 X "str.join" (fun x vs H Q=>∃ sep a xs,x=.str sep/\vs=[.ref a]/\bY X.K H a (xs.map V.str)/\JoinOk sep xs=true/\Q (.str (Txt.join sep xs)) H):=by
 intro c s o H x vs v p Q I f g h;obtain⟨sep,a,xs,rfl,rfl,n,b,q⟩:=h;obtain⟨t,rfl⟩:=f;obtain⟨u,rfl,i⟩:=g.one;cases i;obtain⟨m,r,j,_⟩:=I.list n;obtain⟨l,rfl,e⟩:=Kk r;exact SC.join j.isList e b fun d k=>⟨.str _,H,I.tok k,⟨d,rfl⟩,q⟩
theorem Vn:o6 X "str.split" (fun x vs H Q=>∃ z y,x=.str z/\vs=[.str y]/\(y.length == 0)=false/\z.length+2<=sizeLine/\∀ p,H p=none->Q (.ref p) (aJ H p (.lst ((Txt.split z y).map V.str)))):=by
 intro b s k H x vs v A Q I m n h;obtain⟨z,y,rfl,rfl,j,o,q⟩:=h;obtain⟨t,rfl⟩:=m;obtain⟨u,rfl,d,rfl⟩:=n.one;have r:=Xc z y
 have fin:∀(l:List (Str × Tok)) (g:Tok),l.map (·.1)=Txt.split z y->l.length<=sizeLine->EP X b k Q (.ref s.heap.objs.size) { s with heap:=s.heap.push { cls:=.type "list",data:=.seq (strValues l).toArray },toks:=g }:=fun l g e f=>
  ⟨.ref s.heap.objs.size,_,I.lnew (ys:=(Txt.split z y).map V.str) (by rw [<- e];exact KO l) (by rw [<- e,Qd,Qd];exact f),rfl,q _ I.fresh⟩
 have one:(1:Nat)<=sizeLine:=by rw [QW];lia
 by_cases a:(decide (z.length<y.length) || decide (strKind z<strKind y))=true
 ·exact U4 F.slot_str_split (JR _ _ _) F.entry_str_split (F.args_str_split_2 _ _) (meets_str_split_cannot_occur z y t d a) (fin [(z,t)] s.toks (by unfold Txt.split;rw [if_pos a];rfl) one)
 ·by_cases c:(occurrences z y 0 z.length (z.length+1)).isEmpty=true
  ·exact U4 F.slot_str_split (JR _ _ _) F.entry_str_split (F.args_str_split_2 _ _) (meets_str_split_not_found z y t d (by simpa using a) j c) (fin [(z,t)] s.toks (by unfold Txt.split;rw [if_neg a,if_pos c];rfl) one)
  ·have f:(partsBetween z (occurrences z y 0 z.length (z.length+1)) y.length).length<=sizeLine:=Qr r o;refine U4 F.slot_str_split (JR _ _ _) F.entry_str_split (F.args_str_split_2 _ _) (meets_str_split_sep z y t d (by simpa using a) j (by simpa using c) (by lia) f) ?_
   show wants _ _ _ { s with toks:=_,heap:=s.heap.push { cls:=.type "list",data:=.seq (strsFrom s.toks (partsBetween z (occurrences z y 0 z.length (z.length+1)) y.length)).toArray } }
   rw [strsFrom_eq];have i:=numbered_texts s.toks (partsBetween z (occurrences z y 0 z.length (z.length+1)) y.length)
   have w:(numbered s.toks (partsBetween z (occurrences z y 0 z.length (z.length+1)) y.length)).length<=sizeLine:=by
    have:=congrArg ZO i
    rw [Qd]at this;lia
   exact fin _ _ (i.trans (by unfold Txt.split;rw [if_neg a,if_neg c])) w
end
end TX
namespace TX
open PySem.Spec L2 DL
open Builtin Builtin.Str
def oW:List D->Option (List Str)
 | []=>some []
 | .str x::r=>(oW r).bind fun a=>some (x::a)
 | _=>none
theorem zSj{K:PySem.W.Frag}{F:YP->Prop}{H:Hp}:∀{ds:List D}{vs:List V}{xs:List Str},Reps K F H ds vs->oW ds=some xs->vs=xs.map V.str:=by
 intro ds
 induction ds with
 | nil=>intro vs xs r h;cases r;cases h;rfl
 | cons d ds b=>
  intro vs xs r h
  cases r with
  | cons r a=>
   cases d with
   | str x=>
    obtain⟨e,c,q⟩:=aE h;cases q;cases r;rw [b a c];rfl
   | _=>cases h
theorem KN{K:PySem.W.Frag}{F:YP->Prop}{H:Hp}:∀ xs:List Str,Reps K F H (xs.map J8) (xs.map V.str)
 | []=>.nil
 | x::xs=>.cons (.str x) (KN xs)
def vU:D->D->Option D
 | .str sep,.list ds=>(oW ds).bind fun a=>if decide ((a.map (·.length)).sum+a.length<=1048576) && decide (sep.length<=16)then some (.str (Txt.join sep a))else none
 | _,_=>none
def vW:D->D->Option D
 | .str z,.str y=>if decide (0<y.length) && decide (z.length<=1000)then some (.list ((Txt.split z y).map .str))else none
 | _,_=>none
section
variable {X:Cx}{o e:Expr}{go ge:aA->Option D}{apos cpos:Pos}
def mI:List D->Option D
 | [.str z]=>if decide (z.length<=1000000)then some (.int z.length)else none
 | _=>none
theorem EI:dA X (.builtin "len") (iR X.K mI):=oD O7 fun e H Q b=>by
 obtain⟨F,f,q,z,R,a,k⟩:=b;unfold mI at a
 split at a
 ·split at a
  next c=>
   cases a
   cases R with
   | cons r d=>
    cases d;cases r
    exact⟨_,rfl,by rw [QW];have:=of_decide_eq_true c;lia,k F H _ (aH.refl F H) (.int _)⟩
  next=>cases a
 ·cases a
def oG:D->D->Option D
 | .str x,.str y=>if decide (x.length+y.length<=1000000)then some (.str (x++y))else none
 | _,_=>none
theorem W2:bC X (Zy .Add) (cD X.K oG):=sT WU fun x y H Q b=>by
 obtain⟨F,d,e,q,z,f,R2,a,k⟩:=b;unfold oG at a
 split at a
 ·split at a
  next c=>
   cases a;cases f;cases R2
   exact⟨_,_,rfl,rfl,by rw [QW];have:=of_decide_eq_true c;lia,k F H _ (aH.refl F H) (.str _)⟩
  next=>cases a
 ·cases a
end
end TX
namespace TX
open PySem.Spec L2 DL ZL EL
open Builtin Builtin.Str
def Ae(x:Str):List Str:=x.cps.toList.map fun c=>⟨#[c]⟩
end TX
namespace TB
open PySem.Spec L2 DL TX
inductive jA(K:PySem.W.Frag)(w:J1):List (Str × D)->List ZM->Prop
 | nil:jA K w [] []
 | cons {x:Str}{d:D}{h:Int}{t:Tok}{v:V}{u:JS}{tb:List (Str × D)}{es:List ZM}:h=PySem.hashStr w x->RelV v u->(∀ F H,aM K F H d v)->jA K w tb es->jA K w ((x,d)::tb) (⟨h,.str x t,u⟩::es)
def lP(K:PySem.W.Frag)(w:J1)(a:YP)(b:List (Str × D)):Prop:=∃ es ep,K.lookup a=some ⟨.type "dict",none,.dict es ep,#[]⟩/\jA K w b es.toList
def pE(b:List (Str × D))(ga:aA->Option D):aA->Option D:=fun a=>(ga a).bind fun k=>match k with
 | .str x=>b.lookup x
 | _=>none
theorem Lb{prog:JY}{K:PySem.W.Frag}{w:J1}:∀{tb:List (Str × D)}{es:List ZM},jA K w tb es->∀ e∈es,∃ k,(PySem.strKind prog w).is k e.key=true/\e.hash=(PySem.strKind prog w).hash k:=by
 intro tb es h
 induction h with
 | nil=>intro e a;cases a
 | cons c r d _ b=>
  intro e a;rcases Ql.mp a with rfl | a
  ·exact⟨_,by simp [PySem.strKind,Z8],c⟩
  ·exact b e a
theorem La{prog:JY}{K:PySem.W.Frag}{w:J1}{x:Str}{d:D}:∀{tb:List (Str × D)}{es:List ZM},jA K w tb es->tb.lookup x=some d->∃ e v,es.find? (fun e=>(PySem.strKind prog w).is x e.key)=some e/\RelV v e.val/\∀ F H,aM K F H d v:=by
 intro tb es h
 induction h with
 | nil=>intro e;cases e
 | @cons y d' hh t v u tb es h1 h2 h3 _ ih=>
  intro e;rw [QQ]at e;by_cases z:x=y
  ·subst z;rw [beq_self_eq_true]at e;cases e
   exact⟨_,v,by rw [List.find?_cons_of_pos (by simp [PySem.strKind,Z8])],h2,h3⟩
  ·rw [show(x == y)=false from by simpa using z]at e;obtain⟨g,a,f,c,b⟩:=ih e
   refine⟨g,a,?_,c,b⟩
   rw [List.find?_cons_of_neg (by simp [PySem.strKind,Z8];first | exact z | exact fun q=>z q.symm)];exact f
section
variable {X:Cx}{e:Expr}{ga gb:aA->Option D}{p pos:Pos}
def NV(K:PySem.W.Frag)(w:J1):R2:=fun x y H Q=>∃ a k tb d,x=.ref a/\y=.str k/\lP K w a tb/\tb.lookup k=some d/\∀ v,(∀ F,aM K F H d v)->Q v H
theorem Te:fC X (NV X.K X.w):=fun b c g s m H x y v u Q I o n ⟨a,k,Z,d,U,S,⟨h,W,p,T⟩,J,q⟩ z=>by
 subst U S;cases o;obtain⟨t,rfl⟩:=n;obtain⟨Y,i,O,N,M⟩:=La (prog:=X.prog) T J;have B:=I.kIn a _ p;have j:s.heap.MapOf (PySem.strKind X.prog X.w) a (findBy (PySem.strKind X.prog X.w).is h):=⟨_,h,W,B,⟨rfl,rfl,rfl⟩,rfl,fun e G=>Lb T e (by simpa using G),fun _=>rfl⟩
 have E:findBy (PySem.strKind X.prog X.w).is h k=some Y.val:=by
  unfold findBy;rw [<- Array.find?_toList,O];rfl
 have l:=j.typeIs;unfold Ua;refine Qa ?_;rw [UG l.not_modules];refine Qa (Jx l PySem.F.slot_dict_getitem.lookup ?_)
 have fin:JW (JX X.prog X.w) X.A (Vc c false (.ref a) (.str k t)) (fun r f=>JW (JX X.prog X.w) X.A (letTemporaryGo b (.ref a) r >>= fun _=>pure r) (EP X g m Q) X.xe f) X.xe s:=by
  rw [z];refine wpAny_operating ?_;refine wpAny_getItem_of (knd:=PySem.strKind X.prog X.w) (k:=k) (by simp [PySem.strKind,Z8]) j E ?_;exact Qa (UT (Qb ⟨i,H,I.tok _,N,q i fun F=>M F H⟩))
 first
  | exact Qb (Qa fin)
  | exact Qa (Qb (Qa fin))
  | exact Qa fin
theorem FS(j:Gl X x)(i:X.mg x=some (.ref a))(T:lP X.K X.w a tb)(m:DE X e ga)(l:(x == ("__debug__":Str))=false:=by decide)(hs:qX e:=by exact fun _ _=>rfl):DE X (.Subscript (.Name x p) e pos) (pE tb ga):=
 bT (sW Te (IG (v:=.ref a) j i rfl l) m hs) fun t H Q g=>by
  obtain⟨F,b,f,d,S,q,k⟩:=g;obtain⟨h,n,q⟩:=aE q
  refine⟨F,b,f,h,S,n,fun c r v s o=>?_⟩
  split at q
  ·cases o
   exact⟨a,_,tb,d,rfl,rfl,T,q,fun v R=>k c r v s (R c)⟩
  ·cases q
def gS:D->D->Option D
 | .str x,.int i=>if decide (x.length<=1000000)then(atI x.cps.toList i).bind fun c=>some (.str ⟨#[c]⟩)else none
 | _,_=>none
theorem DD:fC X (cD X.K gS):=Hj Tc fun x y H Q b=>by
 obtain⟨F,d,e,q,z,h,R2,a,k⟩:=b;unfold gS at a
 split at a
 ·split at a
  next c=>
   obtain⟨g,f,a⟩:=aE a;cases a;cases h;cases R2
   exact⟨_,_,g,rfl,rfl,by rw [QW];have:=of_decide_eq_true c;lia,f,k F H _ (aH.refl F H) (.str _)⟩
  next=>cases a
 ·cases a
end
mutual
def vB:D->Bool
 | .none=>true
 | .bool _=>true
 | .int _=>true
 | .str _=>true
 | .tuple a=>noLs a
 | _=>false
def noLs:List D->Bool
 | []=>true
 | d::ds=>vB d && noLs ds
end
mutual
theorem Gv{K:PySem.W.Frag}{F a:YP->Prop}{H:Hp}{d:D}{v:V}(h:aM K F H d v)(q:vB d=true):aM K a H d v:=by
 cases h with
 | non=>exact .non
 | bl b=>exact .bl b
 | int i=>exact .int i
 | str x=>exact .str x
 | tup h r=>exact .tup h (noLs_rep r q)
 | lst h r=>cases q
 | dct f h n l r=>cases q
 | exn f h n=>cases q
theorem noLs_rep{K:PySem.W.Frag}{F a:YP->Prop}{H:Hp}{ds:List D}{vs:List V}(h:Reps K F H ds vs)(q:noLs ds=true):Reps K a H ds vs:=by
 cases h with
 | nil=>exact .nil
 | cons h r=>
  have q:=QN.mp q;exact .cons (Gv h q.1) (noLs_rep r q.2)
end
section
variable {X:Cx}{e:Expr}{ga:aA->Option D}{p pos:Pos}
end
end TB
namespace TX
open PySem.Spec L2 DL
open Builtin Builtin.Str
section
variable {X:Cx}
theorem Xz:kN X (fun x lo hi H Q=>∃ z,x=.str z/\z.length<=sizeLine/\Q (.str (Txt.slice z lo hi)) H):=by
 intro b s n H x v B A lo hi E Q I p y w r h;obtain⟨z,rfl,c,q⟩:=h;obtain⟨t,rfl⟩:=p;have fin:∀ a k,EP X b n Q (.str (Txt.slice z lo hi) a) { s with toks:=k }:=fun a k=>⟨.str _,H,I.tok k,⟨a,rfl⟩,q⟩
 refine⟨"str",_,PySem.F.slot_str_getitem.lookup,JR _ _ _,?_⟩
 obtain⟨o,f,e,d⟩:=y
 cases w <;> cases r
 ·exact YV (l:=none) (u:=none) (st:=none) ⟨o,f,e,d⟩ rfl (JQ ⟨Qr (Txt.slice_le z _ _) c,fun a k=>fin a k⟩)
 ·rename_i j g;exact YV (l:=none) (u:=some (j,g)) (st:=none) ⟨o,f,e,d⟩ rfl (JQ ⟨Qr (Txt.slice_le z _ _) c,fun a k=>fin a k⟩)
 ·rename_i i m;exact YV (l:=some (i,m)) (u:=none) (st:=none) ⟨o,f,e,d⟩ rfl (JQ ⟨Qr (Txt.slice_le z _ _) c,fun a k=>fin a k⟩)
 ·rename_i i m j g;exact YV (l:=some (i,m)) (u:=some (j,g)) (st:=none) ⟨o,f,e,d⟩ rfl (JQ ⟨Qr (Txt.slice_le z _ _) c,fun a k=>fin a k⟩)
def Ds:D->Option Int->Option Int->Option D
 | .str z,lo,hi=>if decide (z.length<=1000000)then some (.str (Txt.slice z lo hi))else none
 | _,_,_=>none
def pD(ga:aA->Option D)(b gh:aA->Option (Option Int)):aA->Option D:=fun a=>(ga a).bind fun d=>(b a).bind fun l=>(gh a).bind fun h=>Ds d l h
theorem Rx{a:Expr}{g i:Option Expr}{ga:aA->Option D}{j gh:aA->Option (Option Int)}{n f:Pos}(r:DE X a ga)(o:DO X g j)(p:DO X i gh):DE X (.Subscript a (.Slice g i none n) f) (pD ga j gh):=
 bT (IJ Xz r o p) fun B H Q m=>by
  obtain⟨F,b,e,d,S,q,k⟩:=m;obtain⟨x,u,q⟩:=aE q;obtain⟨l,t,q⟩:=aE q;obtain⟨h,s,q⟩:=aE q
  refine⟨F,b,e,x,S,u,fun z I v E1 w=>⟨z,b,e,l,S.ext E1,t,fun y G E2=>⟨y,b,e,h,(S.ext E1).ext E2,s,fun J E A=>?_⟩⟩⟩
  unfold Ds at q
  split at q
  ·split at q
   next c=>
    cases q;cases w
    exact⟨_,rfl,by rw [QW];have:=of_decide_eq_true c;lia,k _ _ _ (E1.trans (E2.trans A)) (.str _)⟩
   next=>cases q
  ·cases q
def Dy:D->Bool
 | .none=>true
 | _=>false
def rV:D->D->Option D
 | d,.none=>some (.bool (Dy d))
 | _,_=>none
theorem W4:bC X (Zf .Is) (cD X.K rV):=sT WX fun x y H Q b=>by
 obtain⟨F,d,e,q,z,c,R2,a,k⟩:=b;unfold rV at a
 split at a
 ·cases a;cases R2
  refine⟨rfl,?_⟩
  have e:decide (x=.non)=Dy d:=by cases c <;> rfl
  rw [e];exact k F H _ (aH.refl F H) (.bl _)
 ·cases a
def yO(x:Str):It:=⟨fun i _=>i<x.cps.size,fun i H v a=>a=H/\∃ c,x.cps[i]?=some c/\v=.str ⟨#[c]⟩,fun i _=>x.cps.size<=i⟩
theorem zTe{P:JY}{w:J1}{K:PySem.W.Frag}{tg:Expr}(f:YP)(x:Str)(t:Tok):kO P w K tg (yO x) [f] f (fun i h=>h.IsStrIter f (Zv x) x t i) where
 mem:=by simp
 obj:=fun i h l b g=>by
  obtain⟨o,ho,_,hd⟩:=l;rw [Qy.mp g]
  exact⟨o,ho,fun v z=>by rw [hd]at z;cases z⟩
 keep:=fun i h j l k=>by
  obtain⟨o,ho,r⟩:=l
  exact⟨o,k f (by simp) o ho,r⟩
 item:=by
  intro X hP Z hK hc i m s Y H E I M l hg;subst hP Z hK;obtain⟨U,T,f2,S,O,N⟩:=M f (by simp);have a2:i<x.cps.size:=hg
  have go:∀(n:String),Zv x=n->n="str_ascii_iterator" ∨ n="str_iterator"->∀(c:Nat) (j:Heap) (J:Tok),x.cps[i]?=some c->j.IsStrIter f n x t (i+1)->(∀ b o,b≠f->s.heap.get? b=some o->j.get? b=some o)->∃ u,some (Value.str ⟨#[c]⟩ s.toks)=some u /\
    JW (JX X.prog X.w) X.A (UU tg (.ref f) u) (fun _ s2=>∃ y H',Inv X m Y H' s2/\RelV y u/\(yO x).yld i H y H'/\s2.heap.IsStrIter f (Zv x) x t (i+1)/\∀ b∈[f],H' b=none) E { s with heap:=j,toks:=J }:=fun n hn a1 c j J a5 F kk=>by
   have I1:Inv X m Y H { s with heap:=j,toks:=J }:=I.turned (fun b o g e=>kk b o g e) U T S O N;obtain⟨o',a0,a4,a3⟩:=id F
   refine⟨_,rfl,uB (s:={ s with heap:=j,toks:=J }) (n:=n) a0 a4 a3 (by rcases a1 with rfl | rfl <;> decide) ⟨.str ⟨#[c]⟩,H,I1,⟨_,rfl⟩,⟨rfl,c,a5,rfl⟩,by rw [hn];exact F,fun b g=>(M b g).1⟩⟩
  have p:x.cps[i]?=some x.cps[i]:=by simp [a2]
  by_cases a:(x.cps.all (·<128))=true
  ·have e:Zv x="str_ascii_iterator":=by unfold Zv;rw [if_pos a]
   have d:s.heap.IsStrIter f "str_ascii_iterator" x t i:=by rw [<- e];exact l
   exact wpAny_pyNext_ascii_item d p fun j B hs=>go _ e (.inl rfl) _ j _ p B fun b o g q=>hs.extBut b o g q
  ·have e:Zv x="str_iterator":=by unfold Zv;rw [if_neg a]
   have d:s.heap.IsStrIter f "str_iterator" x t i:=by rw [<- e];exact l
   exact wpAny_pyNext_wide_item d p fun j B hs=>go _ e (.inr rfl) _ j _ p B fun b o g q=>hs.extBut b o g q
 done:=by
  intro X hP Z hK hc i m s Y H E I M l hg;subst hP Z hK;obtain⟨U,T,f2,S,O,N⟩:=M f (by simp);have G:x.cps[i]?=none:=Yu hg;by_cases a:(x.cps.all (·<128))=true
  ·have e:Zv x="str_ascii_iterator":=by unfold Zv;rw [if_pos a]
   have d:s.heap.IsStrIter f "str_ascii_iterator" x t i:=by rw [<- e];exact l
   exact wpAny_pyNext_ascii_end (I.ok.hd hc) d G fun j eb=>⟨rfl,I.turned (t':=s.toks) (fun b o g e=>eb b o g e) U T S O N⟩
  ·have e:Zv x="str_iterator":=by unfold Zv;rw [if_neg a]
   have d:s.heap.IsStrIter f "str_iterator" x t i:=by rw [<- e];exact l
   exact wpAny_pyNext_wide_end (I.ok.hd hc) d G fun j eb=>⟨rfl,I.turned (t':=s.toks) (fun b o g e=>eb b o g e) U T S O N⟩
 self:=fun A i s Q E l h=>by
  by_cases a:(x.cps.all (·<128))=true
  ·have e:Zv x="str_ascii_iterator":=by unfold Zv;rw [if_pos a]
   have d:s.heap.IsStrIter f "str_ascii_iterator" x t i:=by rw [<- e];exact l
   exact wpAny_pyIter_striter_ascii d h
  ·have e:Zv x="str_iterator":=by unfold Zv;rw [if_neg a]
   have d:s.heap.IsStrIter f "str_iterator" x t i:=by rw [<- e];exact l
   exact wpAny_pyIter_striter_wide d h
def Ag:D->Option (List D)
 | .str x=>some ((Ae x).map .str)
 | _=>none
def u8(ga:aA->Option D):aA->Option (List D):=fun a=>(ga a).bind Ag
theorem RA{M e:Expr}{ga:aA->Option D}(Q:DE X e ga):DI X M e (u8 ga):=by
 intro j s E H R I h;obtain⟨F,l,G,Y,S,q,k⟩:=h;obtain⟨d,U,q⟩:=aE q;refine aU (Q j s E H (fun x f=>∃ g,aH F g H f/\aM X.K g f d x) I ⟨F,l,G,d,S,U,fun g f v u r=>⟨g,u,r⟩⟩) fun v m w=>?_;obtain⟨x,f,I1,N,g,u,r⟩:=w
 cases r with
 | str z=>
  cases q;obtain⟨t,rfl⟩:=N;refine wpAny_pyIter_strU ?_
  refine⟨m.heap.objs.size,[m.heap.objs.size],_,yO z,f,rfl,I1.kept (t':=m.toks) fun b o e=>Qf _ e,zTe _ z t,⟨_,Qu _ rfl,rfl,rfl⟩,fun b O=>?_,k g f _ u ?_⟩
  ·have e:b=m.heap.objs.size:=by simpa using O
   subst e;exact I1.fpOk (Qj _) (I1.hok.fresh (Qj _))
  ·intro B H2 T w i
   refine⟨fun d a=>?_,fun p=>?_⟩
   ·unfold Ae at a;rw [Q3,QH,QL]at a
    cases n:z.cps[i]? with
    | none=>rw [n]at a;cases a
    | some c=>
     rw [n]at a;cases a
     refine⟨(Q5.mp n).1,fun y W J=>?_⟩
     obtain⟨rfl,Z,A,rfl⟩:=J;rw [n]at A;cases A
     exact⟨B,aH.refl B W,.str _⟩
   ·unfold Ae at p;rw [Qd,Qd,Qt]at p;exact p
 | _=>cases q
end
end TX
namespace CL
open PySem.Spec L2
section
variable {X:Cx}{N':List Str}{scope:ZY}{inner:List (Option Nat)}{x0:Str}{cl:List (Str × YP)}{C:YP}{fp:List YP}{s s4:JT}{H:Hp}{σ:L2.St}{pins:List (YP × Obj)}
end
section
variable {X:Cx}{elt tg iter:Expr}{ifs:List Expr}{scope:ZY}{pos:Pos}{N':List Str}{inner:List (Option Nat)}{x0:Str}{wi:TI}{g:TG}{ti:TT}{te:TE}
end
end CL
namespace DL
open PySem.Spec PySem.SeqAt L2 CL
section
variable {X:Cx}{elt tg iter:Expr}{ifs:List Expr}{scope:ZY}{pos:Pos}{N':List Str}{inner:List (Option Nat)}{x0:Str}{gi:aA->Option (List D)}{s:D->aA->Option aA}{t:aA->Option Bool}{ge:aA->Option D}
end
end DL
namespace CL
open PySem.Spec L2
section
variable {X:Cx}{elt tg iter:Expr}{ifs:List Expr}{scope:ZY}{pos:Pos}{N':List Str}{inner:List (Option Nat)}{x0:Str}{wi:TI}{g:TG}{ti:TT}{te:TE}
end
end CL
namespace DL
open PySem.Spec PySem.SeqAt L2 CL
section
variable {X:Cx}{elt tg iter:Expr}{ifs:List Expr}{scope:ZY}{pos:Pos}{N':List Str}{inner:List (Option Nat)}{x0:Str}{gi:aA->Option (List D)}{s:D->aA->Option aA}{t:aA->Option Bool}{ge:aA->Option D}
end
end DL
namespace DC
open PySem.Spec L2 DL ST SL EL
section
variable {P:JY}{w:J1}{A:Around}{E:JS->JT->Prop}{s:JT}
end
section
variable {X:Cx}{e k v:Expr}{es:List Expr}{gr:aA->Option (List D)}{ge gk gv gd:aA->Option D}{p pos:Pos}
end
end DC
namespace DC
open PySem.Spec L2 DL ST SL EL
section
variable {X:Cx}{e k v o d:Expr}{es:List Expr}{gr:aA->Option (List D)}{ga ge gk gv gd:aA->Option D}{p pos:Pos}
def Ot(r:V->List V->Hp->VK->Prop)(to:TE)(t:TA):TE:=fun b H Q=>to b H fun x c=>(∃ a es ep,x=.ref a/\c a=some (bO a es ep))/\t b c fun d e=>r x d e Q
theorem Xf{to:TE}{t:TA}{name:Str}{m c:Pos}{id:String}{r:V->List V->Hp->VK->Prop}(u:Slot "dict" name id)(ty:typeOf (.builtin id)=pure (.type "method_descriptor"))(N:o6 X id r)(M:PE X o to)(U:PA X (e::es) t)
  (T:Zo o name X.env (Za o X.env)=Za o X.env)
  (S:((Zb c (JU (e::es) X.env)).all (fun x => !x.1) && (ZU c (Zz [] X.env)).all (fun x=>x.1.isSome) && decide ((e::es).length+([]:List ZJ).length+(if([]:List ZJ).isEmpty then 0 else 1)<30))=true)
  (O:(m.endLine == c.line)=true) (hs:JU (e::es) X.env=(false,Za e X.env)::JU es X.env) (K:(Zb c (JU es X.env)).any (·.1)=false):PE X (.Call (.Attribute o name m) (e::es) [] c) (Ot r to t):=fun b s d H Q I h=>by
 refine wpAny_Call_method_late T S O rfl (aU (M b s d H _ I h) fun v g ⟨x,n,I1,B,⟨a,f,Y,W,J⟩,G⟩=>?_);subst W;cases B;obtain⟨⟨lo,i,z,l,k,g3,g4⟩,_⟩:=(show dS X.prog X.w n g.heap a (bO a f Y)from I1.hok a _ J)
 refine⟨"dict",id,PySem.F.plainAttrs_dict,u,ty,⟨i,l,k.1⟩,fun a' Z=>by cases Z;exact⟨i,l,k.2.1⟩,?_⟩
 have j:=U c b g d n _ I1 G;rw [hs]at j ⊢;exact Calls.callWith_builtin (by show(false || (Zb c (JU es X.env)).any (·.1))=false;rw [K];rfl) (UR (aU j fun q y ⟨p,H2,I2,A,E⟩=>N b y d H2 (.ref a) p (.ref a) q Q I2 rfl A E))
end
end DC
namespace DC
open PySem.Spec L2 DL ST SL EL TB TX
section
variable {X:Cx}{e k v a b:Expr}{es:List Expr}{gr:aA->Option (List D)}{ga gb ge gk gv:aA->Option D}{p pos:Pos}
def Bj(ds:List D):Option D:=(dJ ds).bind fun a=>if a.length=2 then some (.int (if a.getD 1 0<a.getD 0 0 then a.getD 1 0 else a.getD 0 0))else none
def Bi(ds:List D):Option D:=(dJ ds).bind fun a=>if a.length=2 then some (.int (if a.getD 1 0 > a.getD 0 0 then a.getD 1 0 else a.getD 0 0))else none
theorem Kf(h:is.length=2):∃ i j,is=[i,j]:=by
 rcases is with _ | ⟨i,_ | ⟨j,_ | ⟨k,r⟩⟩⟩
 ·cases h
 ·cases h
 ·exact⟨i,j,rfl⟩
 ·cases h
theorem RT(e:X.calm=true):dA X (.builtin "min") (iR X.K Bj):=oD (Pb e) fun g H Q b=>by
 obtain⟨F,h,q,z,R,a,k⟩:=b;obtain⟨d,f,a⟩:=aE a;by_cases c:d.length=2
 ·rw [if_pos c]at a;cases a;obtain⟨i,j,rfl⟩:=Kf c
  have:=xX R f
  subst this
  exact⟨_,_,rfl,k F H _ (aH.refl F H) (.int _)⟩
 ·rw [if_neg c]at a;cases a
theorem RS(e:X.calm=true):dA X (.builtin "max") (iR X.K Bi):=oD (Pa e) fun g H Q b=>by
 obtain⟨F,h,q,z,R,a,k⟩:=b;obtain⟨d,f,a⟩:=aE a;by_cases c:d.length=2
 ·rw [if_pos c]at a;cases a;obtain⟨i,j,rfl⟩:=Kf c
  have:=xX R f
  subst this
  exact⟨_,_,rfl,k F H _ (aH.refl F H) (.int _)⟩
 ·rw [if_neg c]at a;cases a
end
end DC
namespace DC
open PySem.Spec L2 DL ST SL EL TB TX
section
variable {X:Cx}{e:Expr}{ga:aA->Option D}{p pos:Pos}
end
end DC
namespace EX
open PySem.Spec L2 DL
def gP(P:JY)(w:J1):gQ:=fun c H s E e d=>∃(a:YP) (C:YP) (tr:Option YP) (H':Hp),e=.ref a/\d.os=s.os/\UZ d.gens/\Un (dN c) [] H H' s.heap d.heap/\cX P w H' d.heap/\mY d.heap a (.ref C) tr /\
 (∀ b,(b=a ∨ some b=tr)->s.heap.get? b=none/\H' b=none)/\E (.ref C) none H'
section
variable {X:Cx}{pins:List (YP × Obj)}{σ:L2.St}{H H':Hp}{s s':JT}
theorem Ck(I:Inv X pins σ H s)(c:s.heap.get? b=none):
  X.s₀.heap.get? b=none ∨ b∈X.ex:=by
 by_cases a:b∈X.ex
 ·exact .inr a
 ·cases q:X.s₀.heap.get? b with
  | none=>exact .inl rfl
  | some o=>obtain⟨d,e⟩:=I.base.there b o q a;rw [c]at e;cases e
theorem Cm(I:Inv X pins σ H s)(c:s.heap.get? b=none):b≠X.env.locals:=fun e=>by
 obtain⟨m,⟨o,_,_,a,_⟩,_⟩:=I.loc;rw [<- e,c]at a;cases a
theorem Cl(I:Inv X pins σ H s)(d:s.heap.get? b=none):∀ x c,X.env.cells.lookup x=some c->c≠b:=fun x c e z=>by
 obtain⟨v,o,a,_⟩:=I.cell x c e;rw [z,d]at a;cases a
theorem Cn(I:Inv X pins σ H s)(c:s.heap.get? b=none):∀ p∈X.pn++pins,p.1≠b:=fun p a z=>by
 have:=(I.pin p a).1
 rw [z,c]at this;cases this
theorem G4(I:Inv X pins σ H s)(d:s.heap.get? b=none):H b=none:=by
 cases q:H b with
 | none=>rfl
 | some u=>
  have:∃ o,s.heap.get? b=some o:=by
   have x:=I.hok b u q;have lt:=x.lt
   cases u with
   | lst c=>obtain⟨_,_,_,_,e⟩:=x;exact⟨_,e⟩
   | tup c=>obtain⟨_,_,_,o,e,_⟩:=x;exact⟨_,e⟩
   | dK a=>obtain⟨_,_,_,_,o,_,_,e,_⟩:=x;exact⟨_,e⟩
   | dT a=>obtain⟨_,_,_,_,o,_,_,e,_⟩:=x;exact⟨_,e⟩
   | set S n=>obtain⟨o,_,_,_,e,_⟩:=x;exact⟨_,e⟩
   | ins C k fs=>obtain⟨_,_,_,e,_⟩:=x;exact⟨_,e⟩
   | own y=>obtain⟨_,e⟩:=x;exact⟨_,e⟩
   | xd fs=>obtain⟨_,⟨_,_,_,e,_⟩,_⟩:=x;exact⟨_,e⟩
   | rng i j=>obtain⟨_,_,_,e⟩:=x;exact⟨_,e⟩
   | frz h u=>obtain⟨e,_⟩:=x;exact⟨_,e⟩
   | tbl g=>exact⟨_,(show s.heap.get? b=some _ from x)⟩
   | met f y=>exact⟨_,(show s.heap.get? b=some _ from x)⟩
   | ext φ=>obtain⟨_,⟨_,e⟩,_⟩:=x;exact⟨_,e⟩
  obtain⟨o,e⟩:=this;rw [d]at e;cases e
theorem Xp(i:X.ex=[])(I:Inv X pins σ H s)(h:gP X.prog X.w X.stack H s E e s'):
  ∃ a C tr H',e=.ref a/\Inv X pins σ H' s'/\ThrownC X pins H' s' a (.ref C) tr/\E (.ref C) none H':=by
 obtain⟨a,C,tr,H',rfl,k,c,un,g,j,f,q⟩:=h
 refine⟨a,C,tr,H',rfl,I.call' k un g c (fun b z=>absurd z (by simp)),⟨j,fun b m=>?_⟩,q⟩
 obtain⟨d,l⟩:=f b m
 refine⟨?_,l,Cm I d,Cl I d,Cn I d⟩
 rcases Ck I d with z | z
 ·exact z
 ·rw [i]at z;cases z
end
theorem Hx{P:JY}{w:J1}{K:PySem.W.Frag}{x:Str->Option JS}{base:Heap}{N:List Str}{d:Str}{scope:ZY}{f:YP}{j:JS}{A:Around}{outer:List Env}{s:JT}{H:Hp}{E:XK}
  {pins:List (YP × Obj)}{J:L2.St}{k:Hp}{s':JT}{a C:YP}{F:Option YP} (I:Inv (gH (gP P w) P w K x base N d scope f j A outer s H E) pins J k s')
  (T:ThrownC (gH (gP P w) P w K x base N d scope f j A outer s H E) pins k s' a (.ref C) F) (h:E (.ref C) none k):(gH (gP P w) P w K x base N d scope f j A outer s H E).xe (.ref a) s':=by
 have Q:(A.deeper (envOfC d scope s.heap.objs.size f j)).frames=some (envOfC d scope s.heap.objs.size f j::outer):=I.ok.frames;have M:s'.heap.FunFrames base (envOfC d scope s.heap.objs.size f j::outer):=I.stack;refine VV (env:=envOfC d scope s.heap.objs.size f j) (outer:=outer) Q M rfl T.fly fun O S p U K'=>?_
 have t:∀ b,b∈dN (envOfC d scope s.heap.objs.size f j::outer)->b=s.heap.objs.size ∨ b∈dN outer:=fun b g=>by
  unfold dN at g;rw [YK]at g;exact Ql.mp g
 have i:∀ b o,s.heap.get? b=some o->¬ (b=a ∨ some b=F)/\b≠s.heap.objs.size:=fun b o e=>by
  refine⟨fun z=>?_,QB (Qs e)⟩
  have n:s.heap.get? b=none:=(T.new b z).1;rw [n]at e;cases e
 have B:Un (dN outer) [] H k s.heap s'.heap:=I.base
 have G:∀ b u,k b=some u->∀ o,s'.heap.get? b=some o->O.get? b=some o:=fun b u e o q=>K'.keep b o (fun z=>by
  have n:=(T.new b z).2.1
  rw [n]at e;cases e) (fun z=>by
  have n:=I.stkFree b z
  rw [n]at e;cases e) q
 refine⟨a,C,some S,k,rfl,I.os,I.bare,⟨fun b o e n g m=>?_,fun b o e n g m=>?_,B.free,fun b o e m=>?_,B.tups,B.frzs,B.tbls⟩,fun b u e=>?_,U,fun b g=>?_,h⟩
 ·exact K'.keep b o (i b o e).1 (fun z=>(t b z).elim (i b o e).2 g) (B.keep b o e n g m)
 ·obtain⟨X,q⟩:=B.slot b o e n g m;obtain⟨l,r⟩:=K'.slot b _ (i b o e).1 q
  exact⟨l,r⟩
 ·obtain⟨Y,q⟩:=B.there b o e m;obtain⟨l,r⟩:=K'.slot b _ (i b o e).1 q
  exact⟨_,r⟩
 ·refine(I.hok b u e).stay (fun c v y q=>?_) (fun _ q=>q) fun _ _ q=>q
  rcases y with rfl | y
  ·exact G c u e v q
  ·exact G c _ y v q
 ·rcases g with rfl | g
  ·exact⟨(T.new b (.inl rfl)).1,(T.new b (.inl rfl)).2.1⟩
  ·cases g
   exact⟨UP (Qr I.sz p),I.hok.fresh p⟩
abbrev R:=Sum D Str
def nG(m:Nat)(g:aA->Option aQ):List D->Option R:=fun a=>match g (cE m a)with
 | some (.rt d)=>some (.inl d)
 | some (.nx _)=>some (.inl .none)
 | some (.ex x _)=>some (.inr x)
 | _=>none
def pL(G:List D->Option R):List D->Option D:=fun a=>match G a with
 | some (.inl d)=>some d
 | _=>none
def sJ(K:PySem.W.Frag)(n:Nat)(G:List D->Option R):Sp:=fun b H Q E=>∃(F:YP->Prop) (ds:List D) (o:R),ds.length=n/\(∀ a,F a->H a≠none)/\Reps K F H ds b/\G ds=some o/\match o with
 | .inl d=>∀ F' H' v,aH F F' H H'->aM K F' H' d v->Q v H'
 | .inr x=>∀ F' H' C,aH F F' H H'->PySem.W.nsIn K J4 x=some (some (.ref C))->E (.ref C) none H'
theorem Mw{P:JY}{w:J1}{K:PySem.W.Frag}{I:Str->Option JS}{base:Heap}{x b:Str}{st:Zj}{f:YP}{M:J5}{N t:List Str}{k n m:Nat}{g:aA->Option aQ}{G:List D->Option R}(hG:G=nG m g)(Z:t.length=n)(hm:N.length=m)
  (F:eG K x b st f M) (S:bQ N t (aS st))
  (hb:∀(cdv:JS) (A:Around) (outer:List Env) (s:JT) (H:Hp) (E:XK),bU k (A.deeper (envOfC b (aS st) s.heap.objs.size f cdv))->
   g8 (gH (gP P w) P w K I base N b (aS st) f cdv A outer s H E) (cW st) g):aK P w K I base (gP P w) (k+1) f M t (sJ K n G):=by
 subst Z hm hG;obtain⟨oc,od,kV,a0,pm,an,cdv,ct,U,rfl,X,y⟩:=F.ex;refine AQ X y S (fun T H Q E h=>?_) fun A outer s H T Q E Y h=>?_
 ·obtain⟨F,ds,d,J,_,r,_⟩:=h;rw [<- r.length,J]
 ·obtain⟨F,ds,o,J,z,r,q,u⟩:=h
  refine⟨_,hb cdv A outer s H E Y,?_⟩
  unfold nG at q
  split at q
  ·rename_i d' e;cases q
   exact⟨F,H,F,_,_,aH.refl F H,n4 z r,e,fun i c v j R'=>u i c v j R'⟩
  ·rename_i p e;cases q
   exact⟨F,H,F,_,_,aH.refl F H,n4 z r,e,fun i c l j O S'=>u i c .non j .non⟩
  ·rename_i x' p e;cases q
   exact⟨F,H,F,_,_,aH.refl F H,n4 z r,e,fun i c l B s' a C tr j S' I' hC O=>Hx I' O (u i c C j hC)⟩
  ·cases q
theorem Tt{P:JY}{w:J1}{K:PySem.W.Frag}{i:Str->Option JS}{base:Heap}{f:YP}{j:J5}{h:List Str}{k n:Nat}{G:List D->Option R}{G':List D->Option D}(I:G'=pL G)(F:aK P w K i base (gP P w) k f j h (sJ K n G)):
  aK P w K i base aL k f j h (aX K n G'):=by
 subst I
 have conv:∀ a H Q E,aX K n (pL G) a H Q E->sJ K n G a H Q E0:=fun a H Q E l=>by
  obtain⟨F,M,d,x,z,r,q,o⟩:=l;unfold pL at q
  split at q
  ·rename_i O e;cases q
   exact⟨F,M,.inl d,x,z,r,e,o⟩
  ·cases q
 refine⟨fun a H Q E q=>F.len a H Q E0 (conv a H Q E q),fun A b s H g m a Q E v y B p t=>?_⟩
 refine Y1 (F.run A b s H g m a Q E0 v y B p (conv a H Q E t)) fun r N c=>?_
 cases r with
 | ok J=>
  cases J with
  | ret u=>exact c
  | next=>exact c
  | brk=>exact c
  | cont=>exact c
 | error e=>
  obtain⟨_,_,_,_,_,_,_,_,_,_,_,z⟩:=c;exact z
end EX
namespace EX
open PySem.Spec L2 DL
def uP(X:Cx)(d:L2.St):XK:=fun b _ c=>∀ pins s' a tr,Inv X pins d c s'->ThrownC X pins c s' a b tr->X.xe (.ref a) s'
section
variable {X:Cx}{k n:Nat}{f C:YP}{fd:J5}{ps:List Str}{sp:Sp}{x:Str}{p pos pos' np cpos:Pos}{e:Expr}{es:List Expr}{t:TA}{G:List D->Option R}{gr:aA->Option (List D)}{ga:aA->Option D}
theorem Ii(F:aK X.prog X.w X.K X.mg X.base (gP X.prog X.w) k f fd ps sp)(j:bU k X.A)(m:Binds X.K fd ps [])(d:X.ex=[])
  (I:Inv X pins σ H s) (r:Vals vs us) (h:sp vs H Q (uP X σ)):JW (JX X.prog X.w) X.A (call (.ref f) us) (EP X pins σ Q) X.xe s:=by
 have l:(us++[]).length=ps.length:=by rw [QG,<- r.length];exact F.len _ _ _ _ h
 have c:=m s us I.kIn l;rw [QG]at c;refine wpAny_call (Y1 (F.run X.A X.stack s H ⟨us,[]⟩ us vs Q (uP X σ) j I.env0 c r h) fun r i b=>?_)
 cases r with
 | error e=>
  obtain⟨a,C,g,t,rfl,p,o,q⟩:=Xp d I b;exact q pins i a g p o
 | ok n=>
  cases n with
  | ret u=>exact I.after b
  | next=>exact Zx b
  | brk=>exact Zx b
  | cont=>exact Zx b
theorem Xg(F:aK X.prog X.w X.K X.mg X.base (gP X.prog X.w) k f fd ps sp)(d:bU k X.A)(j:Gl X x)(g:X.mg x=some (.ref f))(i:PySem.W.keepIn X.K (.ref f)=true)(l:Binds X.K fd ps [])(b:X.ex=[])
  (m:PA X (e::es) t) (c:(x == ("__debug__":Str))=false:=by decide) (he:JU (e::es) X.env=(false,Za e X.env)::JU es X.env:=by rfl) (hpl:(Zb pos (JU es X.env)).any (·.1)=false:=by rfl):
  PE X (.Call (.Name x p) (e::es) [] pos) (fun σ H Q=>t σ H fun vs H1=>sp vs H1 Q (uP X σ)):=by
 intro a s σ H Q I h;refine YM (pU I j g ?_ c);refine PySem.W.callWith_K (h₀:=X.base) I.ok.mod.kin i (aU (m pos a s σ H _ I h) fun n o ⟨vs,H1,I1,r,q⟩=>⟨I1.kIn,?_⟩) he hpl;exact Ii F d l b I1 r q
def DR(K:PySem.W.Frag)(g:aA->Option Unit):TE:=fun a H Q=>∃(F:YP->Prop) (H₀:Hp) (ρ:aA),aW K F H H₀ a ρ/\g ρ=some ()/\∀ F' H' v,aH F F' H H'->Q v H'
def BV(x:Str)(g:aA->Option Unit):aA->Option aQ:=fun a=>(g a).bind fun _=>some (.ex x a)
theorem Rj{K:PySem.W.Frag}{h:Heap}{C:YP}{b:List JS}{a:String}(c:K.In h)(q:PySem.W.excIn K C b a=true):
  ∃ bm N nm qn bs hdct sn sub ab col dd k0 k1 k2 k3 k5 mN,h.get? C=some (excClassObj nm qn C N bs bm hdct sn sub ab col dd k0 k1 k2 k3 k5 a)/\h.Ns N mN/\mN "__init__"=none/\OwnTail h b bm:=by
 unfold PySem.W.excIn at q
 split at q
 next dd cd sl lk=>
  split at q
  next C' bm k0 k1 k2 k3 n k5 hm hs=>
   simp only [QF,beq_iff_eq,JB]at q;obtain⟨⟨⟨⟨⟨t,s⟩,r⟩,p⟩,f⟩,o⟩:=q;subst t;subst s
   cases cd with
   | mk nm bs d g qn i sn sub ab col e=>
    have m:d=_:=hm;have k:e=false:=r;subst m;subst k
    have j:sl=#[k0,k1,k2,k3,some (.builtin n),k5]:=by
     cases sl with
     | mk l=>exact congrArg Array.mk hs
    subst j
    exact⟨bm,g,nm,qn,bs,i,sn,sub,ab,col,dd,k0,k1,k2,k3,k5,_,c _ _ lk,.of_isNs (PySem.W.isNs_of_in c f),PySem.W.nsMap_none_of_in c f o,PySem.W.tail_of_in c p⟩
  next=>cases q
 next=>cases q
theorem Gh{B h i:String}{l:List JS}{g:aA->Option Unit}(FB:ExcBaseFacts B h i l)(hh:X.A.handled=none)(u:X.ex=[])(p:PySem.W.nsIn X.K J4 x=some (some (.ref C)))(j:PySem.W.excIn X.K C l h=true)
  (hg:Gl X x) (hm:X.mg x=some (.ref C)) (ha:PE X e (DR X.K g)) (w:(x == ("__debug__":Str))=false:=by decide)
  (he:JU [e] X.env=(false,Za e X.env)::JU [] X.env:=by rfl) (hpl:(Zb cpos (JU [e] X.env)).any (·.1)=false:=by rfl):DS X (.Raise (some (.Call (.Name x np) [e] [] cpos)) none pos) (BV x g):=by
 intro f s n H W I ⟨U,m,F,Z,o,E,S,q,k⟩;obtain⟨_,e1,q⟩:=aE q;cases q;obtain⟨bm,N,nm,qn,bs,hdct,sn,sub,ab,col,dd,k0,k1,k2,k3,k5,mN,hC,hN,t,T⟩:=Rj I.ok.mod.kin j
 refine wpAny_Raise_call_subT (C:=C) (nm:=nm) (q:=qn) (N:=N) (bs:=bs) (bm:=bm) (hdct:=hdct) (sn:=sn) (sub:=sub) (ab:=ab) (col:=col) (dd:=dd) (k0:=k0) (k1:=k1) (k2:=k2) (k3:=k3) (k5:=k5)
  FB (mN:=mN) (T.hasType FB.hasBase) hh hpl t (pU I hg hm ⟨rfl,?_⟩ w)
 have M:=eF ha fQ he cpos f s n H (fun J H1=>J.length=1/\∃ G,aH F G H H1) I ⟨F,m,Z,S,e1,fun G H' v E'=>⟨rfl,G,E'⟩⟩;rw [he]at M ⊢;refine UR (aU M fun us d zz=>?_);obtain⟨J,Q,I2,r,hl,F2,Y⟩:=zz
 refine⟨rfl,by rw [<- r.length,hl];decide,I2.bk _ _ hC,hN.keeps I2.bk,T.keeps I2.bk,fun O a c=>?_⟩
 obtain⟨t0,h1,h2,h3⟩:=c.there;have I3:Inv X f n Q { d with heap:=O }:=I2.kept (t':=d.toks) c.keeps;refine k F2 Q n f { d with heap:=O } a C none (E.trans Y) (S.ext Y) I3 p ⟨⟨_,_,h1,rfl,rfl,rfl⟩,fun b hb=>?_⟩
 have y:b=a:=by
  rcases hb with z | z
  ·exact z
  ·cases z
 subst y
 refine⟨?_,G4 I2 c.new,Cm I2 c.new,Cl I2 c.new,Cn I2 c.new⟩
 rcases Ck I2 c.new with z | z
 ·exact z
 ·rw [u]at z;cases z
end
end EX
namespace EX
open PySem.Spec L2 DL
def qE:D->Bool
 | .tuple a=>Zl a && PyData.showableAll a && decide (Zk a<=60) && decide ((tupleText (UX a)).length<=1000000)
 | _=>false
def zI(ga:aA->Option D):aA->Option Unit:=fun a=>(ga a).bind fun d=>if qE d=true then some ()else none
def zG:aA->Option Unit:=fun _=>some ()
def PJ(X:Cx)(e:Expr)(g:aA->Option Unit):Prop:=∀(pins:List (YP × Obj)) (s:JT) (σ:L2.St) (H:Hp) (Q:Hp->Prop),Inv X pins σ H s->
 (∃(F:YP->Prop) (H₀:Hp) (ρ:aA),aW X.K F H H₀ σ ρ/\g ρ=some ()/\∀ F' H',aH F F' H H'->Q H')->
 JW (JX X.prog X.w) X.A (Za e X.env) (fun u a=>∃ y t H',u=.str y t/\y.length<=1000000/\Inv X pins σ H' a/\Q H') X.xe s
section
variable {X:Cx}{e:Expr}{pos:Pos}{ga:aA->Option D}
theorem HM(f:x.length<=1000000):PJ X (.Constant (.str x) j pos) zG:=fun a s d H Q I ⟨F,c,l,S,_,k⟩=>
 aU ((IK:PE X (.Constant (.str x) j pos) (tC (.str x))) a s d H (fun v b=>v=.str x/\b=H) I ⟨rfl,rfl⟩) fun u m e=>by
  obtain⟨v,b,i,r,h,g⟩:=e;subst h g;obtain⟨t,rfl⟩:=r
  exact⟨x,t,b,rfl,f,i,k F b (aH.refl F b)⟩
theorem Tq{pins:List (YP × Obj)}{b:L2.St}{H:Hp}{s:JT}{y:Str}{t:Tok}{Q:Hp->Prop}(I:Inv X pins b H s)(a:y.length<=1000000)(q:Q H):
  JW (JX X.prog X.w) X.A (formatField (.str y t) Str.empty) (fun u s'=>∃ y t H',u=.str y t/\y.length<=1000000/\Inv X pins b H' s'/\Q H') X.xe s:=
 wpAny_formatField_str ⟨y,t,H,rfl,a,I,q⟩ ⟨y,_,H,rfl,a,I.tok _,q⟩ (Qr a (by rw [QW];lia))
theorem HL(hg:X.A.guards=some [])(hu:X.A.units+66<Zg)(ha:DE X e ga):PJ X (.FormattedValue e 114 none pos) (zI ga):=fun g s U H Q I p=>by
 obtain⟨F,j,W,S,q,k⟩:=p;obtain⟨d,e1,q⟩:=aE q
 have m:qE d=true:=by
  by_cases c:qE d=true
  ·exact c
  ·rw [if_neg c]at q;cases q
 refine wpAny_FormattedValue_repr (aU (ha g s U H (fun v l=>∃ f,aH F f H l/\aM X.K f l d v) I ⟨F,j,W,d,S,e1,fun f l v B y=>⟨f,B,y⟩⟩) fun u E p=>?_);obtain⟨v,l,I1,r,f,B,y⟩:=p
 cases y with
 | @tup a vs ds h1 r1=>
  have i:(Zl ds && PyData.showableAll ds && decide (Zk ds<=60) && decide ((tupleText (UX ds)).length<=1000000))=true:=m;simp only [QF,decide_eq_true_eq]at i;obtain⟨⟨⟨T,b2⟩,b3⟩,O⟩:=i;cases r;obtain⟨a0,Z,⟨o,J,N,n,M⟩,_⟩:=I1.tuple h1;obtain⟨as,G⟩:=Reps.reads I1 r1 T Z;have h:(tupleText (UX ds)).length<=sizeLine:=Qr O (by rw [QW];lia);have nd:PyData.hasDictAll ds=false:=PyData.hasDictAll_of_canLayAll ds T;obtain⟨bs,m,hk⟩:=ReprAllK.of_readsAll (prog:=X.prog) (w:=X.w) G b2 (fun z=>by rw [nd]at z;cases z) (fun t ht=>Qr (tupleText_mem_le ht) h);have rd:Reads E.heap (.ref a) (.tuple ds) as:=.tuple J N M (by simpa using G);have x:a∉bs:=not_mem_of_deeper rd (by simp only [UA];lia) m;refine wpAny_pyReprObj_tupleK (h₀:=E.heap) (as:=bs) (d:=Zk ds) (ts:=UX ds) J N M x (by simpa using hk) hg (fun b _=>Clear.nil b) (by lia) (fun _ _ z=>z) (fun h' t Y keep=>?_) h;exact Tq (I1.kept (t':=Y) keep) O (k f l B)
 | _=>cases m
def sA:List (aA->Option Unit)->aA->Option Unit
 | [],_=>some ()
 | g::gs,ρ=>(g ρ).bind fun _=>sA gs ρ
inductive rL(X:Cx):List Expr->List (aA->Option Unit)->Prop
 | nil:rL X [] []
 | cons {e:Expr}{g:aA->Option Unit}{es:List Expr}{gs:List (aA->Option Unit)}:PJ X e g->rL X es gs->rL X (e::es) (g::gs)
theorem Sj(P:rL X es gs):∀(acc:Str) (pins:List (YP × Obj)) (s:JT) (σ:L2.St) (H:Hp) (Q:VK),Inv X pins σ H s->acc.length+es.length * 1000000<=10000000->
  (∃(F:YP->Prop) (H₀:Hp) (ρ:aA),aW X.K F H H₀ σ ρ/\sA gs ρ=some ()/\∀ F' H' v,aH F F' H H'->Q v H')->
  Joins (JX X.prog X.w) X.A X.xe (es.map fun e=>Za e X.env) acc (fun out s₁=>out.length<=sizeLine/\EP X pins σ Q (.str out s₁.toks) { s₁ with toks:=s₁.toks+1 }) s:=by
 induction P with
 | nil=>
  intro acc pins s σ H Q I d h;obtain⟨F,H₀,ρ,S,q,k⟩:=h
  exact⟨by rw [QW];simp at d;lia,.str acc,H,I.tok _,⟨_,rfl⟩,k F H _ (aH.refl F H)⟩
 | @cons e g es gs h t ih=>
  intro acc pins s σ H Q I d l;obtain⟨F,H₀,ρ,S,q,k⟩:=l;obtain⟨_,n,q⟩:=aE q;refine aU (h pins s σ H (fun b=>∃ a,aH F a H b) I ⟨F,H₀,ρ,S,n,fun a b E1=>⟨a,E1⟩⟩) fun u j f=>?_;obtain⟨y,i,b,m,z,o,a,E1⟩:=f
  have c:(acc++y).length+es.length * 1000000<=10000000:=by
   rw [strLen_append];rw [Qo]at d;lia
  exact⟨y,i,m,by rw [QW];lia,ih (acc++y) pins j σ b Q o c ⟨a,H₀,ρ,S.ext E1,q,fun r p v x=>k r p v (E1.trans x)⟩⟩
theorem II{c b:Expr}{a:List Expr}{f:List (aA->Option Unit)}(h:rL X (c::b::a) f)(i:a.length<=5)(he:evalEach (c::b::a) X.env=(c::b::a).map fun e=>Za e X.env:=by rfl):PE X (.JoinedStr (c::b::a) pos) (DR X.K (sA f)):=fun d s g H Q I q=>by
 refine wpAny_JoinedStr ?_;rw [he];exact Sj h Str.empty d s g H Q I (by simp only [Qo];show 0+_<=_;lia) q
end
end EX
namespace EX
open PySem.Spec L2 DL
section
variable {M:Model}{A:Around}{E:JS->JT->Prop}{s:JT}
theorem VJ
  (k:A.frames=some (env::outer)) (x:s.heap.FunFrames base (env::outer)) (t:env.frame=some L) (F:mY s.heap e cls tr)
  (h:∀ h' T,s.heap.objs.size<=T->mY h' e cls (some T)->rH (dN (env::outer)) (fun b=>b=e ∨ some b=tr) s.heap h'->Q () { s with heap:=h' }):
  JW M A (noteFrame (.ref e) env) (fun _ s'=>JW M A (setFlight (.ref e) none) Q E s') E s:=by
 obtain⟨I,r,n,G,p,f⟩:=F;subst G;unfold noteFrame;simp only [t]
 cases tr with
 | none=>
  have m:r[1]?=some .none:=f;refine Qa (Jg n p m ?_);rw [if_neg (by decide)];refine xT k x t n p (Q5.mp m).1 fun h' T f w K'=>h h' T f w ⟨fun b o c=>K'.keep b o fun z=>c (.inl z),fun b o c=>K'.slot b o fun z=>c (.inl z)⟩
 | some T=>
  obtain⟨m,v,J,B,f,i,y⟩:=f;refine Qa (Jg n p m ?_);rw [if_pos (show(J2 T != J9)=true from by simp)];refine Qa (Jg f i y ?_);rw [if_neg (show ¬ ((J9 == Z2 L)=true)from by simp [Z2])];refine Qa (YR f i (Q5.mp y).1 ?_);have a:∀ b,b≠T->(s.heap.update T (Zt (·.setIfInBounds 3 J9))).get? b=s.heap.get? b:=fun b c=>Yk _ _ (ZI c)
  have d:∀ b o,s.heap.get? b=some o->(∀ r,o.data≠.fields r)->b≠T:=fun b o c g q=>by
   rw [q,f]at c;injection c with c;subst c;exact g B i
  refine xT (s:={ s with heap:=s.heap.update T (Zt (·.setIfInBounds 3 J9)) }) k (x.of_keeps fun b o c g=>⟨o,(a b (d b o c g)).trans c,rfl⟩) t ((a e (ZI v)).trans n) p (Q5.mp m).1 fun h' H l w K'=>h h' H (by rw [Heap.size_update]at l;exact l) w ?_
  exact⟨fun b o c u j=>K'.keep b o (fun z=>c (.inl z)) u ((a b fun z=>c (.inr (by rw [z]))).trans j),fun b o c j=>K'.slot b o (fun z=>c (.inl z)) ((a b fun z=>c (.inr (by rw [z]))).trans j)⟩
end
def v5(X:Cx)(pins:List (YP × Obj))(H:Hp)(b:YP):Prop:=X.s₀.heap.get? b=none/\H b=none/\b≠X.env.locals/\(∀ x c,X.env.cells.lookup x=some c->c≠b)/\∀ p∈X.pn++pins,p.1≠b
section
variable {X:Cx}{pins:List (YP × Obj)}{σ:L2.St}{H:Hp}{s:JT}{h':Heap}{a C:YP}{no:YP->Prop}
theorem Pq(I:Inv X pins σ H s)(c:X.ex=[])(d:s.heap.objs.size<=b):v5 X pins H b:=by
 have a:=UP d
 refine⟨?_,G4 I a,Cm I a,Cl I a,Cn I a⟩
 rcases Ck I a with z | z
 ·exact z
 ·rw [c]at z;cases z
theorem Hd(I:Inv X pins σ H s)(T:∀ b,no b->v5 X pins H b)(K:rH (dN X.stack) no s.heap h'):Inv X pins σ H { s with heap:=h' }:=by
 have Q:∀ b,b∈dN X.stack->b=X.env.locals ∨ b∈X.fs:=fun b f=>Ql.mp (I.stkSub b f)
 have d:∀ b o,X.s₀.heap.get? b=some o->¬ no b:=fun b o e z=>by
  have n:=(T b z).1;rw [n]at e;cases e
 have lo:¬ no X.env.locals:=fun z=>(T _ z).2.2.1 rfl;have ce:∀ x c,X.env.cells.lookup x=some c->¬ no c:=fun x c e z=>(T _ z).2.2.2.1 x c e rfl
 have F:∀ b u,H b=some u->∀ o,s.heap.get? b=some o->h'.get? b=some o:=fun b u e o q=>K.keep b o (fun z=>by
  have n:=(T b z).2.1
  rw [n]at e;cases e) (fun z=>by
  have n:=I.stkFree b z
  rw [n]at e;cases e) q
 have a:∀ x c v,X.env.cells.lookup x=some c->s.heap.IsCell c v->h'.IsCell c v:=fun x c v e S=>by
  obtain⟨o,y,A⟩:=S;obtain⟨G,q⟩:=K.slot c o (ce x c e) y
  exact⟨_,q,A⟩
 have B:=I.base
 refine⟨I.ok,I.os,I.bare,⟨fun b o e n f j=>?_,fun b o e n f j=>?_,B.free,fun b o e j=>?_,B.tups,B.frzs,B.tbls⟩,?_,fun x c e=>?_,I.free,I.freeC,fun p O=>?_,fun b u e=>?_,I.len⟩
 ·refine K.keep b o (d b o e) (fun z=>(Q b z).elim (fun w=>?_) f) (B.keep b o e n f j)
  have:=QJ (Qs e) I.ok.above
  rw [w]at this;exact absurd this (Jl _)
 ·obtain⟨G,q⟩:=B.slot b o e n f j;obtain⟨g,t⟩:=K.slot b _ (d b o e) q
  exact⟨g,t⟩
 ·obtain⟨o',q⟩:=B.there b o e j;obtain⟨g,t⟩:=K.slot b _ (d b o e) q
  exact⟨_,t⟩
 ·obtain⟨m,⟨o,es,ep,y,A,r⟩,l⟩:=I.loc;obtain⟨G,q⟩:=K.slot _ o lo y
  refine⟨m,⟨_,es,ep,q,A,r⟩,fun i x v h1 h2 h3=>?_⟩
  obtain⟨u,U,h⟩:=l i x v h1 h2 h3
  refine⟨u,U,?_⟩
  rcases h with h | ⟨h,c,N,k3⟩
  ·exact .inl h
  ·exact .inr ⟨h,c,N,a x c _ N k3⟩
 ·obtain⟨v,k⟩:=I.cell x c e
  exact⟨v,a x c v e k⟩
 ·obtain⟨Z,Y,M,J,W⟩:=I.pin p O
  refine⟨K.keep _ _ (fun z=>(T _ z).2.2.2.2 p O rfl) (fun z=>(Q _ z).elim M J) Z,Y,M,J,W⟩
 ·refine(I.hok b u e).stay (fun c v E q=>?_) (fun _ q=>q) fun _ _ q=>q
  rcases E with rfl | E
  ·exact F c u e v q
  ·exact F c _ E v q
end
end EX
namespace EX
open PySem.Spec L2 DL PySem.W
theorem Ri{K:PySem.W.Frag}{M:Model}{A:Around}{E:JS->JT->Prop}{s:JT}{a C L:YP}{j:Obj}{b:Bool}{Q:Bool->JT->Prop}(k:K.In s.heap)(he:s.heap.get? a=some j)(l:j.cls=.ref C)
  (o:kitCls K (.ref C) (.ref L)=some b) (n:subIn K (.ref L) (.type "BaseException")=some true) (q:Q b s):JW M A (excMatches (.ref a) (.ref L)) Q E s:=by
 obtain⟨h,g,d,t,p⟩:=s;obtain⟨e,i,c⟩:=kit_cls (M:=M) k o;have m:=looks_subIn (M:=M) k n;have f:=tc_notTuple;unfold excMatches;have LI:Looks M h (isInstance (.ref L) (.type "tuple")) false:=e.andThen (Looks.of_pure f);refine Qa (LI.at ?_);simp only [Qp,if_false];refine Qa (Qb ?_)
 have LE:Looks M h (isExcClass (.ref L)) true:=by
  unfold isExcClass;refine i.andThen ?_;exact m
 simp only [List.forIn_cons,List.forIn_nil];refine Qa (Qa (Qa (LE.at ?_)));simp only [Yy,Qp,if_false]
 repeat (any_goals (first | assumption | (with_reducible refine c.at ?_) | (with_reducible refine wpAny_loadPart_at he ?_;rw [l]) | wp_step))
 cases b <;> exact Qb (Qb (Qb q))
section
variable {prog:JY}{w:J1}{A:Around}{E:JS->JT->Prop}{h:Heap}{g:Array Vg}{d:Drawn}{t:Nat}{os:OsState}{a C:YP}{o:Obj}{K:PySem.W.Frag}
end
end EX
namespace EX
open PySem.Spec L2 DL PySem.W
theorem Nc{X:Cx}{A':Around}{c':Bool}{a:List (YP × Obj)}{d:JS->JT->Prop}(ok:X.Ok)(b:A'.frames=X.A.frames)(c:c'=true->A'.handled=none):Cx.Ok { X with A:=A',calm:=c',pn:=a,xe:=d }:=
 ⟨ok.mod,ok.kind,ok.glob,ok.blt,ok.above,ok.inj,ok.has,ok.cab,c,b.trans ok.frames,ok.stk,ok.exf,ok.bs,ok.bsz,ok.noex,ok.exfs,ok.funs,ok.frf⟩
theorem xY{X:Cx}{pins a:List (YP × Obj)}{c:L2.St}{H:Hp}{s:JT}{A':Around}{c':Bool}{b:List (YP × Obj)}{g:JS->JT->Prop}(I:Inv X pins c H s)(e:A'.frames=X.A.frames)(f:c'=true->A'.handled=none)
  (d:∀ p∈b++a,p∈X.pn++pins):Inv { X with A:=A',calm:=c',pn:=b,xe:=g } a c H s:=
 ⟨Nc I.ok e f,I.os,I.bare,I.base,I.loc,I.cell,I.free,I.freeC,fun p h=>I.pin p (d p h),I.hok,I.len⟩
theorem uC(ok:X.Ok)(I:Inv { X with A:=A',calm:=c',pn:=pn',xe:=E' } pins' σ H s)
  (a:∀ p∈X.pn++pins,p∈pn'++pins'):Inv X pins σ H s:=
 ⟨ok,I.os,I.bare,I.base,I.loc,I.cell,I.free,I.freeC,fun p h=>I.pin p (a p h),I.hok,I.len⟩
section
variable {X:Cx}{pins:List (YP × Obj)}{σ:L2.St}{H:Hp}{s:JT}
end
def tU(K:PySem.W.Frag)(L:YP)(x:Str):Prop:=∃ C,nsIn K J4 x=some (some (.ref C))/\kitCls K (.ref C) (.ref L)=some true
section
variable {X:Cx}{body suite:List Zj}{b₀:Zj}{gb gh:aA->Option aQ}{cs:List Str}{i:Nat}{n Ln:Str}{np hp pos:Pos}{L:YP}
end
end EX
namespace EX
open PySem.Spec L2 DL PySem.W
section
variable {X:Cx}{k n:Nat}{f:YP}{fd:J5}{ps:List Str}{x:Str}{p pos pos':Pos}{e e' c:Expr}{es:List Expr}{G:List D->Option R}{gr:aA->Option (List D)}{ga:aA->Option D}{gx gy:aA->Option R}
end
section
variable {X:Cx}{e:Expr}{ga:aA->Option D}{p pos p':Pos}{tb:List (Str × Bool)}
end
end EX
namespace EX
open PySem.Spec L2 DL PySem.W
theorem Xm{K:PySem.W.Frag}{L:YP}:∀ x,([]:List Str).contains x=true->tU K L x:=fun x h=>by cases h
theorem Xl{K:PySem.W.Frag}{L C:YP}{y:Str}{cs:List Str}(b:nsIn K J4 y=some (some (.ref C)))(a:kitCls K (.ref C) (.ref L)=some true)(t:∀ x,cs.contains x=true->tU K L x):∀ x,(y::cs).contains x=true->tU K L x:=fun x h=>by
 rw [Ju,JO]at h;rcases h with h | h
 ·cases(beq_iff_eq.mp h)
  exact⟨C,b,a⟩
 ·exact t x h
section
variable {X:Cx}{e e' c:Expr}{gx gy:aA->Option R}{t:aA->Option Bool}{pos:Pos}
end
end EX
namespace EX
open PySem.Spec L2 DL PySem.W
theorem R6{K:PySem.W.Frag}{C:YP}{b:List JS}{a:String}(q:excIn K C b a=true):(clsIn K C).isSome=true/\typeIn K (.ref C)=some (.type "type"):=by
 unfold excIn at q
 split at q
 next dd cd sl lk=>
  refine⟨?_,?_⟩
  ·unfold clsIn;rw [lk];rfl
  ·show(K.lookup C).map (·.cls)=_
   rw [lk];rfl
 next=>cases q
theorem R8{K:PySem.W.Frag}{C L:YP}{b:List JS}{a:String}(q:excIn K L b a=true)(h:subIn K (.ref C) (.ref L)=some true):kitCls K (.ref C) (.ref L)=some true:=by
 obtain⟨d,c⟩:=R6 q;unfold kitCls;simp only [d,c,beq_self_eq_true,JL,if_true];exact h
end EX
namespace EX
open PySem.Spec L2 DL PySem.W
end EX
namespace EX
open PySem.Spec L2 DL PySem.W
section
variable {X:Cx}{body suite:List Zj}{b₀:Zj}{gb gh:aA->Option aQ}{cs:List Str}{Ln:Str}{np hp pos:Pos}{L:YP}
theorem RO(ok:X.Ok)
  (O:∀ e pn E,g8 { X with A:=X.A.mark (some e),calm:=false,pn:=pn,xe:=E } (b₀::suite) gh) (r:X.ex=[]) (h:X.stack=X.env::X.outer) (n:X.env.frame=some X.env.locals)
  (Q:Gl X Ln) (M:X.mg Ln=some (.ref L)) (t:(Ln == ("__debug__":Str))=false) (hB:subIn X.K (.ref L) (.type "BaseException")=some true)
  (Z:tU X.K L x) (E1:aH F₀ F H₀ H) (S1:aW X.K F H H₀ σ ρ) (I1:Inv { X with pn:=X.pn++pins,xe:=E' } pins' σ H s) (hC:nsIn X.K J4 x=some (some (.ref C))) (T1:ThrownC { X with pn:=X.pn++pins,xe:=E' } pins' H s a (.ref C) tr)
  (q:gh (ρ.map frz)=some (.rt d)) (k:∀ F' H' v,aH F₀ F' H₀ H'->aM X.K F' H' d v->W.rt v H'):
  JW (JX X.prog X.w) X.A (noteFrame (.ref a) X.env) (fun _ s₂=>JW (JX X.prog X.w) X.A (setFlight (.ref a) none) (fun _ s₃=>JW (JX X.prog X.w) X.A (handleBy (.ref a) X.env [.ExceptHandler (some (.Name Ln np)) none (b₀::suite) hp]) (SP X pins W) E s₃) E s₂) E s:=by
 obtain⟨C',i,N⟩:=Z;rw [hC]at i;cases i
 have fr:X.A.frames=some (X.env::X.outer):=by rw [ok.frames,h]
 have I:s.heap.FunFrames X.base (X.env::X.outer):=by
  have:=I1.stack
  rw [show({ X with pn:=X.pn++pins,xe:=E' }:Cx).stack=X.stack from rfl,h]at this;exact this
 refine VJ fr I n T1.fly fun h' T B F' K'=>?_;have aT:v5 { X with pn:=X.pn++pins,xe:=E' } pins' H T:=Pq I1 r B;have aa:v5 { X with pn:=X.pn++pins,xe:=E' } pins' H a:=T1.new a (.inl rfl)
 have K2:rH (dN ({ X with pn:=X.pn++pins,xe:=E' }:Cx).stack) (fun b=>b=a ∨ some b=tr) s.heap h':=by
  rw [show({ X with pn:=X.pn++pins,xe:=E' }:Cx).stack=X.stack from rfl,h];exact K'
 have I2:=Hd I1 (fun b g=>T1.new b g) K2;obtain⟨oe,vs,G,U,S,h1,Y,oT,ts,m,y,h3⟩:=F'
 have Ih:∀ E,Inv { X with A:=X.A.mark (some (.ref a)),calm:=false,pn:=X.pn++pins++pins',xe:=E } [] σ H { s with heap:=h' }:=fun E=>
  xY (X:=X) (A':=X.A.mark (some (.ref a))) (pins:=pins++pins') (uC ok I2 (fun p hp=>by simpa [Qw]using hp)) rfl (fun z=>nomatch z) (fun p hp=>by simpa [Qw]using hp)
 refine wpAny_handleBy_cons (codeAny_handlers_test (pU (Ih fun _ _=>False) Q M ?_ t)) (by intro q;cases q);refine Ri I2.kIn G U N hB (codeAny_handlers_suite ?_);refine wpAny_setFlight_none G S h1 m y (Q5.mp h3).1 ?_;have c:∀ b,b≠T->(h'.update T (Zt (·.setIfInBounds 3 J9))).get? b=h'.get? b:=fun b g=>Yk _ _ (ZI g);have I3:=Hd (h':=h'.update T (Zt (·.setIfInBounds 3 J9))) (no:=(·=T)) (s:={ s with heap:=h' }) (I2) (fun b g=>by rw [g];exact aT) ⟨fun b o g _ e=>(c b g).trans e,fun b o g e=>⟨o.slots,(c b g).trans e⟩⟩
 have I7:∀ E,Inv { X with A:=X.A.mark (some (.ref a)),calm:=false,pn:=X.pn++pins++pins',xe:=E } [] σ H _:=fun E=>
  xY (X:=X) (A':=X.A.mark (some (.ref a))) (pins:=pins++pins') (uC ok I3 (fun p hp=>by simpa [Qw]using hp)) rfl (fun z=>nomatch z) (fun p hp=>by simpa [Qw]using hp)
 refine aU (O (.ref a) (X.pn++pins++pins') _ [] _ _ _ { nx:=fun _ _=>False,rt:=W.rt } (I7 _) ⟨F₀,H₀,_,_,_,E1.thaw S1 (aH.refl _ _),S1.frz,q,fun F3 j v E3 R3=>k F3 j v E3 R3⟩) fun f s6 z=>?_
 cases f with
 | next=>obtain⟨_,_,_,z⟩:=z;exact z.elim
 | brk=>obtain⟨_,_,_,z⟩:=z;exact z.elim
 | cont=>obtain⟨_,_,_,z⟩:=z;exact z.elim
 | ret u=>
  obtain⟨v,l,j,I8,J,w⟩:=z
  have I9:Inv X pins l j s6:=uC ok I8 (fun p hp=>by
   rw [QG]
   exact Yf _ hp)
  exact⟨v,_,j,I9,J,w⟩
end
end EX
namespace TB
open PySem.Spec L2 DL TX
def AE(b:List (Str × D))(ga:aA->Option D):aA->Option D:=fun a=>(ga a).bind fun k=>match k with
 | .str x=>(b.lookup x).bind fun _=>some (.bool false)
 | _=>none
section
variable {X:Cx}{e:Expr}{ga:aA->Option D}{p pos:Pos}
def HW(K:PySem.W.Frag)(w:J1):R2:=fun x y H Q=>∃ a k tb d,x=.str k/\y=.ref a/\lP K w a tb/\(a == Zp)=false/\tb.lookup k=some d/\Q (.bl false) H
theorem W0:bC X (Zf .NotIn) (HW X.K X.w):=fun c s E H x y v u Q I g f ⟨a,k,G,d,z,r,⟨b,A,i,T⟩,h,o,q⟩=>by
 subst z r;cases f;obtain⟨t,rfl⟩:=g;obtain⟨B,F,p,M,J⟩:=La (prog:=X.prog) T o;have j:=I.kIn a _ i;have l:s.heap.MapOf (PySem.strKind X.prog X.w) a (findBy (PySem.strKind X.prog X.w).is b):=⟨_,b,A,j,⟨rfl,rfl,rfl⟩,rfl,fun e n=>Lb T e (by simpa using n),fun _=>rfl⟩
 have m:findBy (PySem.strKind X.prog X.w).is b k=some B.val:=by
  unfold findBy;rw [<- Array.find?_toList,p];rfl
 refine wpAny_notIn_of (knd:=PySem.strKind X.prog X.w) (k:=k) (by simp [PySem.strKind,Z8]) h l ?_;rw [m]
 exact⟨.bl false,H,I.tok _,rfl,q⟩
theorem V0(o:X.mg x=some (.ref a))(T:lP X.K X.w a tb)(e:(a == Zp)=false)(q:tD X.K (AE tb ga) σ H Q):lY (HW X.K X.w) (tD X.K ga) (fun σ H Q=>Q (.ref a) H) σ H Q:=by
 obtain⟨F,b,c,d,S,q,k⟩:=q;obtain⟨f,h,q⟩:=aE q
 refine⟨F,b,c,f,S,h,fun m l v n j=>?_⟩
 split at q
 ·obtain⟨i,g,q⟩:=aE q;cases q;cases j
  exact⟨a,_,tb,i,rfl,rfl,T,e,g,k m l _ n (.bl false)⟩
 ·cases q
theorem Re(d:Gl X x)(b:X.mg x=some (.ref a))(T:lP X.K X.w a tb)(c:(a == Zp)=false)(h:DE X e ga)(g:ZH .NotIn (.Name x p)=false)(f:(x == ("__debug__":Str))=false:=by decide):DT X (.Compare e [.NotIn] [.Name x p] pos) (eB (AE tb ga)):=
 mV (wW W0 h (IG (v:=.ref a) d b rfl f) g) fun _ _ _ q=>GJ (fun _ _ _=>V0 b T c) q
end
end TB
namespace OB
open PySem.Spec L2 DL
structure cK(K:PySem.W.Frag)(φ F F':YP->Prop)(H H':Hp):Prop where
 st:bA K F F' H H'
 out:∀ a o,H a=some o->¬ φ a->H' a=some o
 new:∀ a,F' a->F a ∨ H a=none
 fz:∀ a,F' a->H' a≠none
 lv:∀ a,H' a=none->H a=none
theorem cK.refl{K:PySem.W.Frag}{φ F:YP->Prop}{H:Hp}(z:∀ a,F a->H a≠none):cK K φ F F H H:=⟨bA.refl K F H,fun _ _ h _=>h,fun _ h=>.inl h,z,fun _ h=>h⟩
theorem cK.ext{K:PySem.W.Frag}{φ F b:YP->Prop}{H H':Hp}(z:∀ a,F a->H a≠none)(e:aH F b H H'):cK K φ F b H H':=
 ⟨e.stay,fun a o h _=>e.same a o h,fun a f=>(e.new a f).imp_right fun h=>h.1,e.fz z,fun _ h=>e.same.free h⟩
theorem cK.trans{K:PySem.W.Frag}{φ c F g e:YP->Prop}{H d H2:Hp}(a:cK K φ F g H d)(b:cK K c g e d H2)(s:∀ x,c x->φ x ∨ H x=none):cK K φ F e H H2:=
 ⟨a.st.trans b.st,fun x o h n=>b.out x o (a.out x o h n) (fun f=>(s x f).elim n fun z=>by rw [h]at z;cases z),
  fun x f=>(b.new x f).elim (a.new x) fun f=>.inr (a.lv x f),b.fz,fun x h=>a.lv x (b.lv x h)⟩
structure bS(K:PySem.W.Frag)(B:Type) where
 cl:B->YP
 fn:B->List Str
 At:(YP->Prop)->Hp->YP->B->(YP->Prop)->Prop
 own:∀{F:YP->Prop}{H:Hp}{p:YP}{b:B}{φ:YP->Prop},At F H p b φ->φ p/\∀ a,φ a->H a≠none/\¬ F a
 ins:∀{F:YP->Prop}{H:Hp}{p:YP}{b:B}{φ:YP->Prop},At F H p b φ->∃ dx fs,H p=some (.ins (cl b) dx fs)/\fs.map (·.1)=fn b
 keep:∀{F F':YP->Prop}{H H':Hp}{p:YP}{b:B}{φ:YP->Prop},At F H p b φ->bA K F F' H H'->(∀ a o,φ a->H a=some o->H' a=some o)->(∀ a,φ a->¬ F' a)->At F' H' p b φ
abbrev Oa:=YP × (YP->Prop)
def eL(os:List Oa)(a:YP):Prop:=∃ o,o∈os/\o.2 a
structure aY(K:PySem.W.Frag)(os os':List Oa)(F F':YP->Prop)(H H':Hp):Prop where
 k:cK K (eL os) F F' H H'
 ft:∀ a,eL os' a->eL os a ∨ H a=none
 ad:∀(j:Nat) (o:Oa),os[j]?=some o->∃ φ,os'[j]?=some (o.1,φ)
theorem aY.refl{K:PySem.W.Frag}{os:List Oa}{F:YP->Prop}{H:Hp}(z:∀ a,F a->H a≠none):aY K os os F F H H:=⟨cK.refl z,fun _ h=>.inl h,fun _ o h=>⟨o.2,h⟩⟩
theorem aY.trans{K:PySem.W.Frag}{os d c:List Oa}{F i g:YP->Prop}{H e H2:Hp}(a:aY K os d F i H e)(b:aY K d c i g e H2):aY K os c F g H H2:=
 ⟨a.k.trans b.k a.ft,fun x f=>(b.ft x f).elim (a.ft x) fun f=>.inr (a.k.lv x f),fun j o h=>
  let⟨_,h1⟩:=a.ad j o h
  let⟨φ2,h2⟩:=b.ad j _ h1
  ⟨φ2,h2⟩⟩
theorem aY.ext{K:PySem.W.Frag}{os:List Oa}{F b:YP->Prop}{H H':Hp}(z:∀ a,F a->H a≠none)(e:aH F b H H'):aY K os os F b H H':=⟨cK.ext z e,fun _ h=>.inl h,fun _ o h=>⟨o.2,h⟩⟩
section
variable {K:PySem.W.Frag}{B:Type}(k:bS K B)
structure Os(F:YP->Prop)(H:Hp)(Ω:List B)(os:List Oa):Prop where
 at_:Paired (fun b (o:Oa)=>k.At F H o.1 b o.2) Ω os
 dj:∀(i j:Nat) (o u:Oa),i≠j->os[i]?=some o->os[j]?=some u->∀ a,o.2 a->¬ u.2 a
structure SO(τ:List (Nat × Nat))(F:YP->Prop)(H H₀:Hp)(σ:L2.St)(ρ:aA)(Ω:List B)(os:List Oa):Prop where
 S:aW K F H H₀ σ ρ
 o:Os k F H Ω os
 sep:∀ a,dQ σ ρ a->¬ eL os a
 nm:∀(i:Nat) (kvs:List (List Int × List D)),ρ[i]?≠some (.ownM kvs)
 hd:∀ i j,(i,j)∈τ->∀ o,os[j]?=some o->σ[i]?=some (some (.ref o.1))
 lo:∀ a,H a=none->H₀ a=none
variable {k}
theorem lD{d c:Type}{R:d->c->Prop}:∀{l:List d}{m:List c}{i:Nat}{b:c},Paired R l m->m[i]?=some b->∃ a,l[i]?=some a/\R a b
 | _,_,_,_,.nil,e=>by simp at e
 | _,_,0,_,.cons r _,e=>by simp at e;subst e;exact⟨_,rfl,r⟩
 | _,_,i+1,b,.cons _ t,e=>by
  obtain⟨a,g,f⟩:=lD (i:=i) (b:=b) t (by simpa using e)
  exact⟨a,by simpa using g,f⟩
theorem iI{c d:Type}{R:c->d->Prop}:∀{l:List c}{m:List d}{i:Nat}{a:c},Paired R l m->l[i]?=some a->∃ b,m[i]?=some b/\R a b
 | _,_,_,_,.nil,e=>by simp at e
 | _,_,0,_,.cons r _,e=>by simp at e;subst e;exact⟨_,rfl,r⟩
 | _,_,i+1,b,.cons _ t,e=>by
  obtain⟨a,g,f⟩:=iI (i:=i) (a:=b) t (by simpa using e)
  exact⟨a,by simpa using g,f⟩
theorem BC{d c:Type}{R e:d->c->Prop}:∀{l:List d}{m:List c},Paired R l m->(∀(i:Nat) a b,m[i]?=some b->R a b->e a b)->Paired e l m
 | _,_,.nil,_=>.nil
 | _,_,.cons r t,f=>.cons (f 0 _ _ rfl r) (BC t fun i a b h q=>f (i+1) a b (by simpa using h) q)
theorem IA{d c:Type}{R e:d->c->Prop}{k:d}{g:c}:∀{l:List d}{m:List c} (j:Nat),Paired R l m->(∀(i:Nat) a b,i≠j->m[i]?=some b->R a b->e a b)->e k g->Paired e (l.set j k) (m.set j g)
 | _,_,_,.nil,_,_=>.nil
 | _,_,0,.cons r t,f,q=>.cons q (BC t fun i a b h z=>f (i+1) a b (by lia) (by simpa using h) z)
 | _,_,j+1,.cons r t,f,q=>.cons (f 0 _ _ (by lia) rfl r) (IA j t (fun i a b n h z=>f (i+1) a b (by lia) (by simpa using h) z) q)
theorem iG{os:List Oa}{j:Nat}{o:Oa}{a:YP}(h:os[j]?=some o)(b:o.2 a):eL os a:=⟨o,QD h,b⟩
theorem Fx{os:List Oa}{a:YP}(h:eL os a):∃(j:Nat) (o:Oa),os[j]?=some o/\o.2 a:=by
 obtain⟨o,m,c⟩:=h;obtain⟨j,b⟩:=QY m
 exact⟨j,o,b,c⟩
theorem Os.live{F:YP->Prop}{H:Hp}{Ω:List B}{os:List Oa}(h:Os k F H Ω os){a:YP}(f:eL os a):H a≠none/\¬ F a:=by
 obtain⟨j,o,c,d⟩:=Fx f;obtain⟨b,_,q⟩:=lD h.at_ c
 exact(k.own q).2 a d
theorem Os.keep{F d:YP->Prop}{H c:Hp}{Ω:List B}{os:List Oa}(h:Os k F H Ω os)(T:bA K F d H c)(s:∀ a o,eL os a->H a=some o->c a=some o)(n:∀ a,eL os a->¬ d a):Os k d c Ω os:=
 ⟨BC h.at_ fun j b o g q=>k.keep q T (fun a u f e=>s a u (iG g f) e) fun a f=>n a (iG g f),h.dj⟩
theorem SO.ext{τ:List (Nat × Nat)}{F d:YP->Prop}{H c H₀:Hp}{b:L2.St}{ρ:aA}{Ω:List B}{os:List Oa}(S:SO k τ F H H₀ b ρ Ω os)(e:aH F d H c):SO k τ d c H₀ b ρ Ω os:=
 ⟨S.S.ext e,S.o.keep e.stay (fun a o _ h=>e.same a o h) (fun a f z=>by
  rcases e.new a z with z | ⟨z,_⟩
  ·exact(S.o.live f).2 z
  ·exact(S.o.live f).1 z),S.sep,S.nm,S.hd,fun a h=>S.lo a (e.same.free h)⟩
theorem aW.keep(S:aW K F H H₀ σ ρ)(n:∀ a,dQ σ ρ a->¬ φ a)(nm:∀(i:Nat) (kvs:List (List Int × List D)),ρ[i]?≠some (.ownM kvs))(q:cK K φ F F' H H'):aW K F' H' H₀ σ ρ:=by
 refine⟨S.len,fun i s c=>?_,S.sep,q.fz⟩
 obtain⟨o,g,w⟩:=S.sl i s c
 refine⟨o,g,?_⟩
 have k:∀ a u,H a=some u->¬ F a->¬ F' a:=fun a u h f t=>by
  rcases q.new a t with z | z
  ·exact f z
  ·rw [h]at z;cases z
 cases s with
 | no=>trivial
 | dat d=>obtain⟨v,e,r⟩:=w;exact⟨v,e,r.stay q.st⟩
 | own A=>
  obtain⟨a,m,e,b,f,j,r⟩:=w
  exact⟨a,m,e,q.out a _ b (n a (.inl ⟨i,A,c,by rw [g,e]⟩)),k a _ b f,j,r.stay q.st⟩
 | ownD kvs=>
  obtain⟨a,x,y,e,b,f,j,p,l,r⟩:=w
  exact⟨a,x,y,e,q.out a _ b (n a (.inr ⟨i,kvs,c,by rw [g,e]⟩)),k a _ b f,j,p,l,r.stay q.st⟩
 | ownM kvs=>exact absurd c (nm i kvs)
theorem BB(S:aW K F H H₀ σ ρ)(h:dQ σ ρ a):H a≠none/\H₀ a=none/\¬ F a:=by
 rcases h with⟨i,n,d,c⟩ | ⟨i,l,d,c⟩
 ·obtain⟨b,k,j,g,f,e,_⟩:=S.own d;rw [j]at c;cases c
  exact⟨by rw [g];simp,e,f⟩
 ·obtain⟨b,k,m,j,g,f,e,_⟩:=S.ownD d;rw [j]at c;cases c
  exact⟨by rw [g];simp,e,f⟩
theorem SO.turn{τ:List (Nat × Nat)}{F E:YP->Prop}{H H' H₀:Hp}{G:L2.St}{ρ:aA}{Ω:List B}{os:List Oa}(S:SO k τ F H H₀ G ρ Ω os){j:Nat}{o:Oa}{N:B}{g:YP->Prop}(l:os[j]?=some o)(q:cK K o.2 F E H H')(s:∀ a,g a->o.2 a ∨ H a=none)
  (O:k.At E H' o.1 N g):SO k τ E H' H₀ G ρ (Ω.set j N) (os.set j (o.1,g))/\aY K os (os.set j (o.1,g)) F E H H':=by
 have t:j<os.length:=(Qe.mp l).1;have Q:∀(i:Nat) (u:Oa),i≠j->os[i]?=some u->∀ a,u.2 a->¬ o.2 a:=fun i u n c a p z=>S.o.dj i j u o n c l a p z
 have M:∀ a,eL (os.set j (o.1,g)) a->eL os a ∨ H a=none:=fun a f=>by
  obtain⟨i,u,c,p⟩:=Fx f;by_cases z:j=i
  ·subst z;rw [Qx t]at c;cases c
   exact(s a p).imp_left fun h=>iG l h
  ·rw [Qq z]at c;exact .inl (iG c p)
 refine⟨⟨aW.keep S.S (fun a h f=>S.sep a h (iG l f)) S.nm q,⟨?_,?_⟩,fun a h f=>?_,S.nm,fun i r m u A=>?_,fun a h=>S.lo a (q.lv a h)⟩,⟨q.st,fun a u h n=>q.out a u h fun f=>n (iG l f),q.new,q.fz,q.lv⟩,M,fun i u c=>?_⟩
 ·refine IA j S.o.at_ (fun i b u n c w=>k.keep w q.st (fun a x f e=>q.out a x e (Q i u n c a f)) fun a f T=>?_) O;have J:=(k.own w).2 a f;rcases q.new a T with z | z
  ·exact J.2 z
  ·exact J.1 z
 ·intro i r u v n c d a p y;by_cases z:j=i
  ·subst z;rw [Qx t]at c;cases c;rw [Qq n]at d;rcases s a p with f | f
   ·exact S.o.dj j r o v n l d a f y
   ·exact(S.o.live (iG d y)).1 f
  ·rw [Qq z]at c;by_cases I:j=r
   ·subst I;rw [Qx t]at d;cases d;rcases s a y with f | f
    ·exact S.o.dj i j u o n c l a p f
    ·exact(S.o.live (iG c p)).1 f
   ·rw [Qq I]at d;exact S.o.dj i r u v n c d a p y
 ·rcases M a f with f | f
  ·exact S.sep a h f
  ·exact(BB S.S h).1 f
 ·by_cases z:j=r
  ·subst z;rw [Qx t]at A;cases A;exact S.hd i j m o l
  ·rw [Qq z]at A;exact S.hd i r m u A
 ·by_cases z:j=i
  ·subst z;rw [l]at c;cases c
   exact⟨g,Qx t⟩
  ·exact⟨u.2,by rw [Qq z];exact c⟩
end
end OB
namespace OB
open PySem.Spec L2 DL
abbrev GX(B α:Type):=aA->List B->Option (α × List B)
section
variable {K:PySem.W.Frag}{B:Type}(k:bS K B)(τ:List (Nat × Nat))
inductive jB(g:GX B D)(σ:L2.St)(H:Hp)(Q:VK):Prop
 | mk (F:YP->Prop) (H₀:Hp) (ρ:aA) (Ω:List B) (os:List Oa) (d:D) (Ω':List B) (S:SO k τ F H H₀ σ ρ Ω os) (q:g ρ Ω=some (d,Ω')) (c:∀ F' H' v os',aY K os os' F F' H H'->SO k τ F' H' H₀ σ ρ Ω' os'->aM K F' H' d v->Q v H'):jB g σ H Q
inductive lO(g:GX B Bool)(σ:L2.St)(H:Hp)(Q:Bool->Hp->Prop):Prop
 | mk (F:YP->Prop) (H₀:Hp) (ρ:aA) (Ω:List B) (os:List Oa) (d:Bool) (Ω':List B) (S:SO k τ F H H₀ σ ρ Ω os) (q:g ρ Ω=some (d,Ω')) (c:∀ F' H' os',aY K os os' F F' H H'->SO k τ F' H' H₀ σ ρ Ω' os'->Q d H'):lO g σ H Q
inductive y4(g:GX B (List D))(σ:L2.St)(H:Hp)(Q:List V->Hp->Prop):Prop
 | mk (F:YP->Prop) (H₀:Hp) (ρ:aA) (Ω:List B) (os:List Oa) (ds:List D) (Ω':List B) (S:SO k τ F H H₀ σ ρ Ω os) (q:g ρ Ω=some (ds,Ω')) (c:∀ F' H' vs os',aY K os os' F F' H H'->SO k τ F' H' H₀ σ ρ Ω' os'->Reps K F' H' ds vs->Q vs H'):y4 g σ H Q
def lJ(F:YP->Prop)(H:Hp)(p:YP):Option D->V->Prop
 | some d,v=>aM K F H d v
 | none,v=>v=.ref p
inductive Dm(j:Nat)(g:aA->Option (List (Option D)))(σ:L2.St)(H:Hp)(Q:List V->Hp->Prop):Prop
 | mk (F:YP->Prop) (H₀:Hp) (ρ:aA) (Ω:List B) (os:List Oa) (ds:List (Option D)) (o:Oa) (hj:os[j]?=some o) (S:SO k τ F H H₀ σ ρ Ω os) (q:g ρ=some ds) (c:∀ F' H' vs,aH F F' H H'->Paired (lJ (K:=K) F' H' o.1) ds vs->Q vs H'):Dm j g σ H Q
end
section
variable {X:Cx}{B:Type}(k:bS X.K B)(τ:List (Nat × Nat))
def XE(e:Expr)(g:GX B D):Prop:=PE X e (jB k τ g)
def XT(e:Expr)(g:GX B Bool):Prop:=PT X e (lO k τ g)
def XW(e:Expr)(g:GX B Bool):Prop:=PW X e (lO k τ g)
def XA(es:List Expr)(g:GX B (List D)):Prop:=PA X es (y4 k τ g)
def XO(j:Nat)(es:List Expr)(g:aA->Option (List (Option D))):Prop:=PA X es (Dm k τ j g)
end
section
variable {B α:Type}
def xP(g:aA->Option α):GX B α:=fun a b=>(g a).bind fun d=>some (d,b)
def cU(h:D->D->Option D)(ga gb:GX B D):GX B D:=fun a b=>(ga a b).bind fun x=>(gb a x.2).bind fun y=>(h x.1 y.1).bind fun r=>some (r,y.2)
def xB(ga:GX B D):GX B Bool:=fun a c=>(ga a c).bind fun x=>(eJ x.1).bind fun b=>some (b,x.2)
def sL(t u:GX B Bool):GX B Bool:=fun a b=>(t a b).bind fun x=>if x.1=true then some x else u a x.2
def gU:GX B (List D):=fun _ a=>some ([],a)
def dM(ga:GX B D)(gr:GX B (List D)):GX B (List D):=fun a b=>(ga a b).bind fun x=>(gr a x.2).bind fun y=>some (x.1::y.1,y.2)
abbrev GM(B:Type):=List (Option D)->B->Option (D × B)
def cO(j:Nat)(G:GM B)(gr:aA->Option (List D)):GX B D:=fun c a=>(gr c).bind fun d=>(a[j]?).bind fun b=>(G (none::d.map some) b).bind fun r=>some (r.1,a.set j r.2)
def iC(j:Nat)(G:GM B)(gr:aA->Option (List (Option D))):GX B D:=fun c a=>(gr c).bind fun d=>(a[j]?).bind fun b=>(G d b).bind fun r=>some (r.1,a.set j r.2)
def iQ:aA->Option (List (Option D)):=fun _=>some []
def hZ(ga:aA->Option D)(gr:aA->Option (List (Option D))):aA->Option (List (Option D)):=fun a=>(ga a).bind fun x=>(gr a).bind fun b=>some (some x::b)
def iA(gr:aA->Option (List (Option D))):aA->Option (List (Option D)):=fun a=>(gr a).bind fun b=>some (none::b)
end
def c9{K:PySem.W.Frag}{B:Type}(k:bS K B)(n:Nat)(G:GM B):Sp:=fun c H Q _=>∃(F:YP->Prop) (p:YP) (b:B) (φ:YP->Prop) (ds:List (Option D)) (r:D) (b':B),ds.length=n/\(∀ a,F a->H a≠none)/\k.At F H p b φ/\Paired (lJ (K:=K) F H p) ds c/\G ds b=some (r,b') /\
 ∀ F' H' v φ',cK K φ F F' H H'->(∀ a,φ' a->φ a ∨ H a=none)->k.At F' H' p b' φ'->aM K F' H' r v->Q v H'
theorem x9{a:Type}:∀{fs:List (Str × a)},(fs.map (·.1)).contains m=false->fs.lookup m=none
 | [],_=>rfl
 | (x,v)::fs,h=>by
  rw [Qk,Ju,Bool.or_eq_false_iff]at h;rw [QQ,h.1];exact x9 h.2
theorem A9{K:PySem.W.Frag}{F:YP->Prop}{H:Hp}{p:YP}:∀{ds:List D}{vs:List V},Reps K F H ds vs->Paired (lJ (K:=K) F H p) (ds.map some) vs
 | _,_,.nil=>.nil
 | _,_,.cons h r=>.cons h (A9 r)
section
variable {X:Cx}{B:Type}{k:bS X.K B}{τ:List (Nat × Nat)}{a b c e:Expr}{es rest:List Expr}{pos p:Pos}
theorem cF(h:DE X e g):XE k τ e (xP g):=bT h fun o H Q i=>by
 obtain⟨F,a,b,p,j,d,f,S,q,c⟩:=i;obtain⟨r,l,q⟩:=aE q;cases q
 exact⟨F,a,b,d,S.S,l,fun n m v E R=>c n m v j (aY.ext S.S.fz E) (S.ext E) R⟩
theorem o3(h:DT X e g):XT k τ e (xP g):=mV h fun o H Q i=>by
 obtain⟨F,a,b,p,j,d,f,S,q,c⟩:=i;obtain⟨r,l,q⟩:=aE q;cases q
 exact⟨F,a,b,d,S.S,l,fun n m E=>c n m j (aY.ext S.S.fz E) (S.ext E)⟩
variable {ga gb:GX B D}{t u:GX B Bool}{gr:GX B (List D)}
theorem GK(q:jB k τ (cU h ga gb) σ H Q):lY (cD X.K h) (jB k τ ga) (jB k τ gb) σ H Q:=by
 obtain⟨F,a,f,j,l,d,i,S,q,c⟩:=q;obtain⟨x,o,q⟩:=aE q;obtain⟨y,n,q⟩:=aE q;obtain⟨r,m,q⟩:=aE q;cases q
 exact⟨F,a,f,j,l,x.1,x.2,S,o,fun B G v e K1 p R1=>⟨B,a,f,x.2,e,y.1,y.2,p,n,fun A E w b K2 S2 R2=>⟨A,x.1,y.1,d,S2.S.fz,R1.stay K2.k.st,R2,m,fun u t z g s=>c u t z b ((K1.trans K2).trans (aY.ext S2.S.fz g)) (S2.ext g) s⟩⟩⟩
theorem VZ(m:∀ σ H Q,jB k τ g σ H Q->te σ H Q)(q:lO k τ (xB g) σ H Q):Bv te σ H Q:=by
 obtain⟨F,a,e,h,i,d,f,S,q,c⟩:=q;obtain⟨x,l,q⟩:=aE q;obtain⟨y,j,q⟩:=aE q;cases q;exact m σ H _ ⟨F,a,e,h,i,x.1,x.2,S,l,fun s r v b p n o=>⟨d,lE o j,c s r b p n⟩⟩
theorem pS(c:bC X (Zf op) (cD X.K h))(f:XE k τ a ga)(e:XE k τ b gb)(d:ZH op b=false):XT k τ (.Compare a [op] [b] pos) (xB (cU h ga gb)):=mV (wW c f e d) fun _ _ _ q=>VZ (fun _ _ _=>GK) q
theorem zTM(l:XE k τ a ga)(he:∀ whole,isTrue a X.env whole=(do let v <- whole;standAt a.pos;Uh [v] (truthy v)):=by intro _;rfl):XT k τ a (xB ga):=mV (HS l he) fun u H Q i=>by
 obtain⟨F,b,f,h,j,d,g,S,q,c⟩:=i;obtain⟨x,n,q⟩:=aE q;obtain⟨y,m,q⟩:=aE q;cases q
 exact⟨F,b,f,h,j,x.1,x.2,S,n,fun t s v e r o p=>⟨d,lE p m,c t s e r o⟩⟩
theorem Li(b:XT k τ a t):XW k τ (.BoolOp .Or [a] pos) t:=HV b
theorem Lh(v:XT k τ a t)(s:XW k τ (.BoolOp .Or (b::rest) pos) u):XW k τ (.BoolOp .Or (a::b::rest) pos) (sL t u):=BM (HU v s) fun G H Q o=>by
 obtain⟨F,e,j,n,p,d,h,S,q,c⟩:=o;obtain⟨x,w,q⟩:=aE q
 refine⟨F,e,j,n,p,x.1,x.2,S,w,fun m B f K1 l=>?_⟩
 obtain⟨r,g⟩:=x
 cases r with
 | false=>simp only [Qp,if_false]at q ⊢;exact⟨m,e,j,g,f,d,h,l,q,fun E A i z y=>c E A i (K1.trans z) y⟩
 | true=>simp only [if_true]at q ⊢;cases q;exact c m B f K1 l
theorem D5(h:XW k τ a t):XT k τ a t:=PW.pt h
theorem pP:XA k τ [] (gU (B:=B)):=nU fQ fun g H Q e=>by
 obtain⟨F,a,h,i,f,d,b,S,q,c⟩:=e;cases q;exact c F H [] f (aY.refl S.S.fz) S .nil
theorem iZ(n:XE k τ e ga)(m:XA k τ es gr)(hs:JU (e::es) X.env=(false,Za e X.env)::JU es X.env:=by rfl):XA k τ (e::es) (dM ga gr):=nU (eF n m hs) fun z H Q j=>by
 obtain⟨F,a,g,i,l,d,h,S,q,c⟩:=j;obtain⟨x,p,q⟩:=aE q;obtain⟨y,o,q⟩:=aE q;cases q
 exact⟨F,a,g,i,l,x.1,x.2,S,p,fun w B v f K1 s R1=>⟨w,a,g,x.2,f,y.1,y.2,s,o,fun u t A b K2 r R2=>c u t _ b (K1.trans K2) r (.cons (R1.stay K2.k.st) R2)⟩⟩
theorem IZ:XO k τ j [] iQ:=nU fQ fun d H Q b=>by
 obtain⟨F,a,e,f,g,i,o,h,S,q,c⟩:=b;cases q;exact c F H [] (aH.refl F H) .nil
theorem Pr{K:PySem.W.Frag}{F b:YP->Prop}{H a:Hp}{p:YP}(T:bA K F b H a){od:Option D}{v:V}(h:lJ (K:=K) F H p od v):lJ (K:=K) b a p od v:=by
 cases od with
 | none=>exact h
 | some d=>exact aM.stay T h
theorem IY(n:DE X e g)(l:XO k τ j es gs)(hs:JU (e::es) X.env=(false,Za e X.env)::JU es X.env:=by rfl):XO k τ j (e::es) (hZ g gs):=nU (eF n l hs) fun y H Q f=>by
 obtain⟨F,a,b,d,i,A,o,m,S,q,c⟩:=f;obtain⟨x,r,q⟩:=aE q;obtain⟨h,p,q⟩:=aE q;cases q
 exact⟨F,a,b,x,S.S,r,fun w B v E1 s=>⟨w,a,b,d,i,h,o,m,S.ext E1,p,fun u t z E2 R2=>c u t _ (E1.trans E2) (.cons (Pr (od:=some x) E2.stay s) R2)⟩⟩
theorem I0(m:(i,j)∈τ)(r:XO k τ j es gs)(t:X.N[i]?=some x:=by rfl)(n:gG X.env.scope x:=by first | exact Ze rfl | exact Zc (Ze rfl) | exact Zc (Zc rfl))(s:(x == ("__debug__":Str))=false:=by decide)
  (b:(x == ("__classdict__":Str))=false:=by decide) (hs:JU (.Name x p::es) X.env=(false,Za (.Name x p) X.env)::JU es X.env:=by rfl):XO k τ j (.Name x p::es) (iA gs):=nU (eF (pe_var t n s b) r hs) fun z H Q g=>by
 obtain⟨F,a,e,f,l,B,o,d,S,q,c⟩:=g;obtain⟨h,u,q⟩:=aE q;cases q
 exact⟨_,S.hd i j m o d,F,a,e,f,l,h,o,d,S,u,fun w v A y R2=>c w v _ y (.cons rfl R2)⟩
theorem IS(F:aK X.prog X.w X.K X.mg X.base aL kk f fd ps (c9 k n G))(Y:bU kk X.A)(hg:Gl X x)(Z:X.mg x=some (.ref f))(hk:PySem.W.keepIn X.K (.ref f)=true)(hb:Binds X.K fd ps [])
  (ha:XO k τ j (e::es) gs) (h:∀ ρ ds,gs ρ=some ds->ds.length=n) (l:(x == ("__debug__":Str))=false:=by decide) (he:JU (e::es) X.env=(false,Za e X.env)::JU es X.env:=by rfl) (hpl:(Zb pos (JU es X.env)).any (·.1)=false:=by rfl):
  XE k τ (.Call (.Name x p) (e::es) [] pos) (iC j G gs):=bT (sU (E:=E0) F Y hg Z hk hb .nil mS ha l he hpl) fun σ H Q M=>by
 obtain⟨F,a,ρ,J,T,d,I,S,q,c⟩:=M;obtain⟨g,y,q⟩:=aE q;obtain⟨b,u,q⟩:=aE q;obtain⟨r,e3,q⟩:=aE q;cases q;obtain⟨o,i,_⟩:=iI S.o.at_ u
 refine⟨F,a,ρ,J,T,g,o,i,S,y,fun F1 H1 N z R1=>?_⟩
 show c9 k n G (N++[]) H1 Q E0
 rw [QG];have S1:=S.ext z;obtain⟨b1,t,m⟩:=lD S1.o.at_ i;rw [u]at t;cases t
 refine⟨F1,o.1,b,o.2,g,r.1,r.2,h ρ g y,S1.S.fz,m,R1,e3,fun F' H' v B U O s R'=>?_⟩
 obtain⟨S2,K2⟩:=S1.turn i U O s;exact c F' H' v _ ((aY.ext S.S.fz z).trans K2) S2 R'
theorem CD(mm:(i,j)∈τ)(c:fZ X.K C)(hm:iM X.K C m f)(hf:∀ os b r,G os b=some r->k.cl b=C/\(k.fn b).contains m=false)(F:aK X.prog X.w X.K X.mg X.base aL kk f fd ps (c9 k (n+1) G))(hr:bU kk X.A)(hb:Binds X.K fd ps [])
  (ha:DA X (e::es) gs) (l:∀ ρ ds,gs ρ=some ds->ds.length=n) (hN:X.N[i]?=some x:=by rfl) (hv:gG X.env.scope x:=by first | exact Ze rfl | exact Zc (Ze rfl) | exact Zc (Zc rfl)) (hd:(x == ("__debug__":Str))=false:=by decide)
  (u:(x == ("__classdict__":Str))=false:=by decide) (h:JU (e::es) X.env=(false,Za e X.env)::JU es X.env:=by rfl) (hpl:(Zb pos (JU es X.env)).any (·.1)=false:=by rfl)
  (ht:Za (.Call (.Attribute (.Name x p) m apos) (e::es) [] pos) X.env=(do
   let ov <- Za (.Name x p) X.env
   standAt apos.atName
   let(f,first) <- Uh [ov] (U2 ov m pl)
   callWith pos f first (Zb pos (JU (e::es) X.env)) (ZU pos (Zz [] X.env))):=by rfl):
  XE k τ (.Call (.Attribute (.Name x p) m apos) (e::es) [] pos) (cO j G gs):=bT (Wq (E:=E0) (pe_var hN hv hd u) c hm F hr hb .nil mS ha h hpl ht) fun σ H Q Y=>by
 obtain⟨F,a,ρ,Ω,os,d,W,S,q,c⟩:=Y;obtain⟨g,O,q⟩:=aE q;obtain⟨b,M,q⟩:=aE q;obtain⟨r,J,q⟩:=aE q;cases q;obtain⟨o,s,at0⟩:=iI S.o.at_ M;obtain⟨dx,fs,B,t⟩:=k.ins at0;obtain⟨ec,ef⟩:=hf _ _ _ J;rw [ec]at B
 refine⟨_,S.hd i j mm o s,o.1,dx,fs,rfl,B,x9 (by rw [t];exact ef),F,a,ρ,g,S.S,O,fun F1 H1 Z T R1=>?_⟩
 show c9 k (n+1) G (.ref o.1::(Z++[])) H1 Q E0
 rw [QG];have S1:=S.ext T;obtain⟨b1,I,y⟩:=lD S1.o.at_ s;rw [M]at I;cases I
 refine⟨F1,o.1,b,o.2,none::g.map some,r.1,r.2,by rw [Qo,Qd,l ρ g O],S1.S.fz,y,.cons rfl (A9 R1),J,fun F' H' v U kp sb z R'=>?_⟩
 obtain⟨S2,K2⟩:=S1.turn s kp sb z;exact c F' H' v _ ((aY.ext S.S.fz T).trans K2) S2 R'
theorem kI(B:(i,j)∈τ)(c:fZ X.K C)(T:iM X.K C m f)(U:∀ os b r,G os b=some r->k.cl b=C/\(k.fn b).contains m=false)(F:aK X.prog X.w X.K X.mg X.base aL kk f fd ps (c9 k 1 G))(O:bU kk X.A)(Y:Binds X.K fd ps [])
  (Z:X.N[i]?=some x:=by rfl) (J:gG X.env.scope x:=by first | exact Ze rfl | exact Zc (Ze rfl) | exact Zc (Zc rfl)) (W:(x == ("__debug__":Str))=false:=by decide)
  (e:(x == ("__classdict__":Str))=false:=by decide)
  (M:Za (.Call (.Attribute (.Name x p) m apos) [] [] pos) X.env=(do
   let ov <- Za (.Name x p) X.env
   standAt apos.atName
   let(f,first) <- Uh [ov] (U2 ov m pl)
   callWith pos f first (Zb pos (JU [] X.env)) (ZU pos (Zz [] X.env))):=by rfl):
  XE k τ (.Call (.Attribute (.Name x p) m apos) [] [] pos) (cO j G aG):=bT (Wr (E:=E0) (pe_var Z J W e) c T F O Y .nil mS M) fun σ H Q y=>by
 obtain⟨F,s,ρ,Ω,os,d,u,S,q,c⟩:=y;obtain⟨xs,e1,q⟩:=aE q;cases e1;obtain⟨b,e2,q⟩:=aE q;obtain⟨r,n,q⟩:=aE q;cases q;obtain⟨o,l,at0⟩:=iI S.o.at_ e2;obtain⟨dx,fs,h,a⟩:=k.ins at0;obtain⟨ec,ef⟩:=U _ _ _ n;rw [ec]at h
 refine⟨_,S.hd i j B o l,o.1,dx,fs,rfl,h,x9 (by rw [a];exact ef),?_⟩
 show c9 k 1 G [.ref o.1] H Q E0
 refine⟨F,o.1,b,o.2,[none],r.1,r.2,rfl,S.S.fz,at0,.cons rfl .nil,n,fun F' H' v t I z g R'=>?_⟩
 obtain⟨S2,K2⟩:=S.turn l I z g;exact c F' H' v _ K2 S2 R'
end
end OB
namespace OB
open PySem.Spec L2 DL
inductive kM(B:Type) where
 | nx (ρ:aA) (Ω:List B)
 | rt (d:D) (Ω:List B)
abbrev GS(B:Type):=aA->List B->Option (kM B)
section
variable {X:Cx}{B:Type}(k:bS X.K B)(τ:List (Nat × Nat))
def uW(a:List Oa)(b:YP->Prop)(H₀:Hp)(F:YP->Prop)(H:Hp)(W:jR):kM B->Prop
 | .nx ρ Ω=>∀ F' H' σ os',aY X.K a os' b F' H₀ H'->bA X.K F F' H H'->SO k τ F' H' H₀ σ ρ Ω os'->W.nx σ H'
 | .rt d Ω=>∀ F' H' v os',aY X.K a os' b F' H₀ H'->Os k F' H' Ω os'->aM X.K F' H' d v->W.rt v H'
inductive uY(g:GS B)(W:jR)(σ:L2.St)(H:Hp):Prop
 | mk (os₀:List Oa) (F₀:YP->Prop) (H₀:Hp) (F:YP->Prop) (ρ:aA) (Ω:List B) (os:List Oa) (o:kM B) (K0:aY X.K os₀ os F₀ F H₀ H) (S:SO k τ F H H₀ σ ρ Ω os) (q:g ρ Ω=some o) (c:uW k τ os₀ F₀ H₀ F H W o):uY g W σ H
def XS(st:Zj)(g:GS B):Prop:=PS X st (uY k τ g)
def iN(a:List Zj)(g:GS B):Prop:=eX X a (uY k τ g)
variable {k τ}
theorem uW.from(T:bA X.K F F' H H')(c:uW k τ os₀ F₀ H₀ F H W o):uW k τ os₀ F₀ H₀ F' H' W o:=by
 cases o with
 | nx ρ Ω=>exact fun i h b a g e f=>c i h b a g (T.trans e) f
 | rt d Ω=>exact c
end
section
variable {B:Type}
def eW:GS B:=fun a b=>some (.nx a b)
def bP(g1 c:GS B):GS B:=fun a b=>(g1 a b).bind fun o=>match o with
 | .nx ρ' Ω'=>c ρ' Ω'
 | o=>some o
def b9(i:Nat)(g:GX B D):GS B:=fun a b=>(g a b).bind fun x=>some (.nx (a.set i (.dat x.1)) x.2)
def cL(g:GX B D):GS B:=fun a b=>(g a b).bind fun x=>some (.rt x.1 x.2)
def cV(t:GX B Bool)(g1 c:GS B):GS B:=fun a b=>(t a b).bind fun x=>if x.1=true then g1 a x.2 else c a x.2
def lI(i:Nat)(g:GS B):List D->GS B
 | [],ρ,Ω=>some (.nx ρ Ω)
 | d::ds,ρ,Ω=>(g (ρ.set i (.dat d)) Ω).bind fun o=>match o with
  | .nx ρ' Ω'=>lI i g ds ρ' Ω'
  | o=>some o
def pN(gi:aA->Option (List D))(i:Nat)(g:GS B):GS B:=fun a b=>(gi a).bind fun c=>lI i g c a b
end
theorem Iz(hs:∀ ds,s≠.own ds)(d:∀ ds,s≠.ownD ds)(h:dQ (σ.set i o) (ρ.set i s) a):dQ σ ρ a:=by
 rcases h with⟨j,ds,b,c⟩ | ⟨j,ds,b,c⟩
 ·by_cases z:i=j
  ·subst z;rw [JC]at b;rw [if_pos rfl]at b
   split at b
   ·exact absurd (QA b) (hs ds)
   ·cases b
  ·rw [Qq z]at b c;exact .inl ⟨j,ds,b,c⟩
 ·by_cases z:i=j
  ·subst z;rw [JC]at b;rw [if_pos rfl]at b
   split at b
   ·exact absurd (QA b) (d ds)
   ·cases b
  ·rw [Qq z]at b c;exact .inr ⟨j,ds,b,c⟩
theorem Gu{ρ:aA}{i:Nat}{s:Sl}(hs:∀ kvs,s≠.ownM kvs)(h:∀(i:Nat) (kvs:List (List Int × List D)),ρ[i]?≠some (.ownM kvs)):∀(j:Nat) (kvs:List (List Int × List D)),(ρ.set i s)[j]?≠some (.ownM kvs):=fun j kvs q=>by
 rw [JC]at q
 split at q
 ·split at q
  ·exact hs kvs (QA q)
  ·cases q
 ·exact h j kvs q
section
variable {K:PySem.W.Frag}{B:Type}{k:bS K B}{τ:List (Nat × Nat)}{F:YP->Prop}{H H₀:Hp}{σ:L2.St}{ρ:aA}{Ω:List B}{os:List Oa}
theorem SO.put(S:SO k τ F H H₀ σ ρ Ω os){i:Nat}{d:D}{v:V}(e:∀ ij,ij∈τ->ij.1≠i)(R:aM K F H d v):SO k τ F H H₀ (σ.set i (some v)) (ρ.set i (.dat d)) Ω os:=
 ⟨S.S.put R,S.o,fun a h=>S.sep a (Iz (by intro _ z;cases z) (by intro _ z;cases z) h),Gu (by intro _ z;cases z) S.nm,fun b j m o c=>by
  rw [Qq (ZI (e _ m))]
  exact S.hd b j m o c,S.lo⟩
end
section
variable {X:Cx}{B:Type}{k:bS X.K B}{τ:List (Nat × Nat)}{a b c e iter:Expr}{es:List Expr}{st:Zj}{rest body orelse:List Zj}{g g1 g2:GS B}{ga:GX B D}{t:GX B Bool}{gr:GX B (List D)}{pos p:Pos}
theorem lH:iN k τ [] (eW (B:=B)):=wV HR fun W e H f=>by
 obtain⟨a,d,b,F,i,j,g,o,h,S,q,c⟩:=f;cases q;exact c F H e g h (bA.refl _ F H) S
theorem dE(p:XS k τ st g1)(n:iN k τ rest g2):iN k τ (st::rest) (bP g1 g2):=wV (sZ p n) fun W x H l=>by
 obtain⟨a,e,b,F,i,j,m,o,u,S,q,c⟩:=l;obtain⟨g,r,q⟩:=aE q
 refine⟨a,e,b,F,i,j,m,g,u,S,r,?_⟩
 cases g with
 | nx ρ' Ω'=>exact fun w y h f v s t=>⟨a,e,b,w,ρ',Ω',f,o,v,t,q,c.from s⟩
 | rt d Ω'=>cases q;exact c
theorem dF(a:XS k τ st g):iN k τ [st] g:=qB a
theorem iL(u:X.N.Nodup)(p:∀ ij,ij∈τ->ij.1≠i)(t:XE k τ e ga)(r:X.N[i]?=some x:=by rfl)(n:Loc X.env.scope x:=by first | exact Ze rfl | exact Zc rfl)(hs:ZC e (some (.Name x pos')) pos.line X.env=pure false:=by rfl)(s:X.fn x=true ∨ X.env.scope.names.lookup x=some .local:=by first | exact .inl rfl | exact .inr rfl | assumption):
  XS k τ (.Assign [.Name x pos'] e pos) (b9 i ga):=ps_mono (ps_set u r n t hs s) fun W B H l=>by
 obtain⟨b,g,a,F,h,j,m,o,K0,S,q,c⟩:=l;obtain⟨d,w,q⟩:=aE q;cases q
 exact⟨F,a,h,j,m,d.1,d.2,S,w,fun A z v f K' S' y=>c A z _ f (K0.trans K') K'.k.st (S'.put p y)⟩
theorem fN(m:XE k τ e ga):XS k τ (.Return (some e) pos) (cL ga):=ps_mono (wU m) fun W u H j=>by
 obtain⟨b,g,a,F,h,i,l,o,K0,S,q,c⟩:=j;obtain⟨d,n,q⟩:=aE q;cases q
 exact⟨F,a,h,i,l,d.1,d.2,S,n,fun t s v f r S' p=>c t s v f (K0.trans r) S'.o p⟩
theorem j5(n:XT k τ c t)(s:iN k τ body g1)(p:iN k τ orelse g2):XS k τ (.If c body orelse pos) (cV t g1 g2):=ps_mono (HQ n s p) fun W v H l=>by
 obtain⟨a,d,b,F,g,j,m,o,K0,S,q,c⟩:=l;obtain⟨r,u,q⟩:=aE q;obtain⟨r,e⟩:=r
 refine⟨F,b,g,j,m,r,e,S,u,fun i w f K' h=>?_⟩
 cases r with
 | true=>simp only [if_true]at q ⊢;exact⟨a,d,b,i,g,e,f,o,K0.trans K',h,q,c.from K'.k.st⟩
 | false=>simp only [Qp,if_false]at q ⊢;exact⟨a,d,b,i,g,e,f,o,K0.trans K',h,q,c.from K'.k.st⟩
end
end OB
namespace OB
open PySem.Spec L2 DL
structure FX{K:PySem.W.Frag}{B:Type}(k:bS K B)(τ:List (Nat × Nat))(i:Nat)(g:GS B)(xs:List D)(o:kM B)(os₀:List Oa)(F₀ F F1:YP->Prop)(H₀ H H1:Hp)(n:Nat)(σ2:L2.St)(H2:Hp)(F2:YP->Prop)(ρ2:aA)(Ω2:List B)(os2:List Oa):Prop where
 K0:aY K os₀ os2 F₀ F2 H₀ H2
 T0:bA K F F2 H H2
 T1:bA K F1 F2 H1 H2
 S:SO k τ F2 H2 H₀ σ2 ρ2 Ω2 os2
 q:lI i g (xs.drop n) ρ2 Ω2=some o
section
variable {X:Cx}{B:Type}{k:bS X.K B}{τ:List (Nat × Nat)}{iter e:Expr}{es:List Expr}{body:List Zj}{g:GS B}{pos p tp pos':Pos}
theorem CI(hp:PassesOwn (JX X.prog X.w) X.A X.env X.xe)(hc:X.calm=true)(hN:X.N.Nodup)(ht:∀ ij,ij∈τ->ij.1≠i)(hi:DI X (.Name x tp) iter gi)(hb:iN k τ body g)
  (O:X.N[i]?=some x:=by rfl) (hx:Loc X.env.scope x:=by first | exact Ze rfl | exact Zc rfl) (hf:X.fn x=true ∨ X.env.scope.names.lookup x=some .local:=by first | exact .inl rfl | exact .inr rfl | assumption)
  (hs:∀ x,Zq iter X.env x=pure x:=by intro _;rfl):XS k τ (.For (.Name x tp) iter body [] pos) (pN gi i g):=
 ps_mono (BK hp hc hi (mT hN O hx hf) hb hs) fun W σ H zz=>by
  obtain⟨a,f,b,F,T,Ω,os,o,K0,S,q,c⟩:=zz;obtain⟨e,e1,q⟩:=aE q
  refine⟨F,b,T,e,S.S,e1,fun Q H1 J E1 I1=>?_⟩
  refine⟨fun n m p B=>m=e.length-n/\n<=e.length/\∃ E r s j,FX k τ i g e o a f F Q b H H1 n p B E r s j,
   ⟨e.length,rfl,QR _,Q,T,Ω,os,K0.trans (aY.ext S.S.fz E1),E1.stay,bA.refl _ _ _,S.ext E1,q⟩,?_⟩
  rintro n m p B ⟨rfl,a1,E,r,s,j,K2,T0,T1,S2,t⟩;obtain⟨M,K⟩:=I1 E B T1 S2.S.fz n;by_cases l:n<e.length
  ·right
   have v:e[n]?=some e[n]:=by simp [l]
   obtain⟨go,G⟩:=M _ v;rw [Q0 l]at t;obtain⟨U,e4,t⟩:=aE t
   refine⟨go,fun u Z=>∃ F4 ρ4 Ω4 os4,FX k τ i g e o a f F Q b H H1 (n+1) u Z F4 ρ4 Ω4 os4,fun u Z h=>⟨e.length-(n+1),by lia,rfl,l,h⟩,fun x H3 y=>?_⟩
   obtain⟨F3,E3,R3⟩:=G x H3 y;have TT0:=T0.trans E3.stay;have TT1:=T1.trans E3.stay
   refine⟨a,f,b,F3,r.set i (.dat e[n]),s,j,U,K2.trans (aY.ext S2.S.fz E3),(S2.ext E3).put ht R3,e4,?_⟩
   cases U with
   | nx ρ6 Ω6=>exact fun F6 H6 a0 I K6 Y S6=>⟨F6,ρ6,Ω6,I,K6,TT0.trans Y,TT1.trans Y,S6,t⟩
   | rt d Ω6=>cases t;exact c
  ·left
   have z:e.length<=n:=Ya l
   refine⟨K z,?_⟩
   rw [YH z]at t;cases t;exact c E B p j K2 T0 S2
end
theorem NK{K:PySem.W.Frag}{F:YP->Prop}{H H₀:Hp}{g:L2.St}{ρ:List Sl}(S:aW K F H H₀ g ρ){i:Nat}{o:Option V}:aW K F H H₀ (g.set i o) (ρ.set i .no):=by
 refine⟨by simp [S.len],fun j s h=>?_,fun j k a u t f d c m=>?_,S.fz⟩
 ·by_cases b:i=j
  ·subst b
   have l:i<ρ.length:=by
    have:=Qe.mp h
    simpa using this.1
   rw [Qx l]at h;cases h
   exact⟨o,by rw [Qx (by rw [S.len];exact l)],trivial⟩
  ·rw [Qq b]at h;obtain⟨n,q,w⟩:=S.sl j s h
   exact⟨n,by rw [Qq b];exact q,w⟩
 ·have r:i≠j:=by
   intro e;subst e;rw [JC,if_pos rfl]at d
   split at d <;> cases d
  have p:i≠k:=by
   intro e;subst e;rw [JC,if_pos rfl]at c
   split at c <;> cases c
  rw [Qq r]at d m;rw [Qq p]at c ⊢;exact S.sep j k a u t f d c m
theorem kF{b a:Type}{R:b->a->Prop}:∀{l:List b}{m:List a},Paired R l m->l.length=m.length
 | _,_,.nil=>rfl
 | _,_,.cons _ t=>by rw [Qo,Qo,kF t]
section
variable {K:PySem.W.Frag}{B:Type}{k:bS K B}{τ:List (Nat × Nat)}{F F':YP->Prop}{H H' H₀:Hp}{σ:L2.St}{ρ:aA}{Ω:List B}{os:List Oa}
theorem SO.more(S:SO k τ F H H₀ σ ρ Ω os){i:Nat}{x:YP}{b:B}{φ:YP->Prop}(s:∀ ij,ij∈τ->(ij.1=i ↔ ij.2=Ω.length))(G:i<ρ.length)(q:cK K (fun _=>False) F F' H H')(r:k.At F' H' x b φ)(p:∀ a,φ a->H a=none):
  SO k τ F' H' H₀ (σ.set i (some (.ref x))) (ρ.set i .no) (Ω++[b]) (os++[(x,φ)])/\aY K os (os++[(x,φ)]) F F' H H':=by
 have E:=kF S.o.at_
 have t:∀ a,eL (os++[(x,φ)]) a->eL os a ∨ H a=none:=fun a y=>by
  obtain⟨o,m,h⟩:=y;rcases QE.mp m with m | m
  ·exact .inl ⟨o,m,h⟩
  ·rw [Qy.mp m]at h;exact .inr (p a h)
 have M:aW K F' H' H₀ σ ρ:=aW.keep S.S (fun a _ f=>f) S.nm q
 have A:Os k F' H' Ω os:=S.o.keep q.st (fun a u _ h=>q.out a u h id) (fun a f J=>by
  rcases q.new a J with z | z
  ·exact(S.o.live f).2 z
  ·exact(S.o.live f).1 z)
 have e:∀(j:Nat) (u:Oa),(os++[(x,φ)])[j]?=some u->os[j]?=some u ∨ j=os.length/\u=(x,φ):=fun j u h=>by
  by_cases z:j<os.length
  ·rw [QV z]at h;exact .inl h
  ·rw [Yc (Ya z)]at h
   have:j-os.length=0:=by
    cases w:j-os.length with
    | zero=>rfl
    | succ n=>rw [w]at h;simp at h
   rw [this]at h;exact .inr ⟨by lia,(QA h).symm⟩
 refine⟨⟨NK M,⟨A.at_.snoc r,fun i' j u v n c d a l g=>?_⟩,fun a h f=>?_,Gu (by intro _ z;cases z) S.nm,fun i' j m u c=>?_,fun a h=>S.lo a (q.lv a h)⟩,⟨q.st,fun a u h n=>q.out a u h id,q.new,q.fz,q.lv⟩,t,fun j u h=>⟨u.2,by rw [QV (Qe.mp h).1];exact h⟩⟩
 ·rcases e i' u c with c | ⟨c,rfl⟩
  ·rcases e j v d with d | ⟨d,rfl⟩
   ·exact S.o.dj i' j u v n c d a l g
   ·exact(S.o.live (iG c l)).1 (p a g)
  ·rcases e j v d with d | ⟨d,rfl⟩
   ·exact(S.o.live (iG d g)).1 (p a l)
   ·lia
 ·have h:=Iz (by intro _ z;cases z) (by intro _ z;cases z) h;rcases t a f with f | f
  ·exact S.sep a h f
  ·exact(BB S.S h).1 f
 ·rcases e j u c with c | ⟨I,rfl⟩
  ·have:i≠i':=fun z=>by
    have:=((s _ m).mp z.symm)
    have:=(Qe.mp c).1
    lia
   rw [Qq this];exact S.hd i' j m u c
  ·have z:i'=i:=(s _ m).mpr (by rw [E];exact I);rw [z,Qx (by rw [S.S.len];exact G)]
end
section
variable {B:Type}
def vS(i n:Nat)(G:List D->Option B)(gr:aA->Option (List D)):GS B:=fun a c=>(gr a).bind fun d=>(G d).bind fun b=>if c.length=n/\i<a.length then some (.nx (a.set i .no) (c++[b]))else none
end
def vN{K:PySem.W.Frag}{B:Type}(k:bS K B)(C:YP)(n:Nat)(G:List D->Option B):Sp:=fun c H Q _=>∃(F:YP->Prop) (x dx:YP) (us:List V) (ds:List D) (b:B),c=.ref x::us/\ds.length=n/\(∀ a,F a->H a≠none)/\H x=some (.ins C dx [])/\¬ F x/\Reps K F H ds us/\G ds=some b /\
 ∀ F' H' φ',cK K (fun a=>a=x) F F' H H'->(∀ a,φ' a->a=x ∨ H a=none)->k.At F' H' x b φ'->Q .non H'
section
variable {X:Cx}{B:Type}{k:bS X.K B}{τ:List (Nat × Nat)}{e:Expr}{es:List Expr}{pos p tp pos':Pos}
theorem zTJ(hN:X.N.Nodup)(ht:∀ ij,ij∈τ->(ij.1=i ↔ ij.2=n))(M:Mk X.K C f)(F:aK X.prog X.w X.K X.mg X.base aL kk f fd ps (vN k C m G))(hr:bU (kk+1) X.A)(hg:Gl X y)(hm:X.mg y=some (.ref C))(hb:Binds X.K fd ps [])
  (ha:DA X (e::es) gr) (I:∀ ρ ds,gr ρ=some ds->ds.length=m) (O:(y == ("__debug__":Str))=false:=by decide) (he:JU (e::es) X.env=(false,Za e X.env)::JU es X.env:=by rfl) (hpl:(Zb pos' (JU es X.env)).any (·.1)=false:=by rfl)
  (hi:X.N[i]?=some x:=by rfl) (hx:Loc X.env.scope x:=by first | exact Ze rfl | exact Zc rfl) (hs:ZC (.Call (.Name y p) (e::es) [] pos') (some (.Name x tp)) pos.line X.env=pure false:=by rfl) (hf:X.fn x=true ∨ X.env.scope.names.lookup x=some .local:=by first | exact .inl rfl | exact .inr rfl | assumption):
  XS k τ (.Assign [.Name x tp] (.Call (.Name y p) (e::es) [] pos') pos) (vS i n G gr):=
 ps_mono (ps_set hN hi hx (Wp (E:=E0) M F hr hg hm hb .nil mS ha O he hpl) hs hf) fun W σ H zz=>by
  obtain⟨v,Y,r,F,ρ,Ω,os,o,K0,S,q,c⟩:=zz;obtain⟨ds,U,q⟩:=aE q;obtain⟨b,e2,q⟩:=aE q;by_cases t:Ω.length=n/\i<ρ.length
  ·rw [if_pos t]at q;cases q
   refine⟨F,r,ρ,ds,S.S,U,fun j g T E1 R1=>fun z d s J ne=>?_⟩
   show vN k C m G (.ref z::(T++[])) _ _ E0
   rw [QG];have S1:=S.ext E1;have Ea:aH j j g (aJ g d (.own z)):=aH.fresh J
   have B:aJ g d (.own z) z=none:=by rw [aV ne.symm];exact s
   have Eb:aH j j (aJ g d (.own z)) (aJ (aJ g d (.own z)) z (.ins C d [])):=aH.fresh B;have Ec:=Ea.trans Eb
   refine⟨j,z,d,T,ds,b,rfl,I ρ ds U,Ec.fz S1.S.fz,cN,fun f=>S1.S.fz z f s,R1.stay Ec.stay,e2,fun Z H' a0 l fr Q=>⟨rfl,?_⟩⟩
   have q1:cK X.K (fun _=>False) j Z g H':=⟨Ec.stay.trans l.st,fun a u h _=>l.out a u (Ec.same a u h) (fun w=>by rw [w,s]at h;cases h),fun a f=>(l.new a f).imp_right fun w=>Ec.same.free w,l.fz,fun a h=>Ec.same.free (l.lv a h)⟩
   obtain⟨S2,K2⟩:=S1.more (i:=i) (by rw [t.1];exact ht) t.2 q1 Q fun a h=>by
    rcases fr a h with w | w
    ·rw [w];exact s
    ·exact Ec.same.free w
   exact c Z H' _ _ (K0.trans ((aY.ext S.S.fz E1).trans K2)) (E1.stay.trans K2.k.st) S2
  ·rw [if_neg t]at q;cases q
end
def N2:Option D->Sl
 | some d=>.dat d
 | none=>.no
def fB(n:Nat)(ds:List (Option D)):aA:=ds.map N2++ZA (n-ds.length) .no
def jF{B:Type}(j n:Nat)(g:GS B):GM B:=fun a b=>match a[j]? with
 | some none=>match g (fB n a) [b]with
  | some (.rt d (b'::_))=>some (d,b')
  | some (.nx _ (b'::_))=>some (.none,b')
  | _=>none
 | _=>none
def rX{B:Type}(n:Nat)(g:GS B):List D->Option D:=fun a=>match g (cE n a) []with
 | some (.rt d _)=>some d
 | some (.nx _ _)=>some .none
 | _=>none
theorem n3{n:Nat}{ds:List (Option D)}{i:Nat}{s:Sl}(h:(fB n ds)[i]?=some s):(∃ d,s=.dat d) ∨ s=.no:=by
 unfold fB at h;have m:=QD h;rcases QE.mp m with m | m
 ·obtain⟨a,_,rfl⟩:=QO.mp m
  cases a with
  | none=>exact .inr rfl
  | some d=>exact .inl ⟨d,rfl⟩
 ·exact .inr (List.eq_of_mem_replicate m)
theorem KC{K:PySem.W.Frag}{F:YP->Prop}{H:Hp}{p:YP}{N:List Str}{ds:List (Option D)}{vs:List V}(z:∀ a,F a->H a≠none)(r:Paired (lJ (K:=K) F H p) ds vs):aW K F H H (L2.start N vs) (fB N.length ds):=by
 have k:=kF r
 refine⟨by simp [L2.start,fB,k],fun i s h=>?_,fun i j a t n l m=>?_,z⟩
 ·unfold fB at h;by_cases c:i<ds.length
  ·rw [QV (by simpa using c),QH]at h
   cases e:ds[i]? with
   | none=>rw [e]at h;cases h
   | some g=>
    rw [e]at h;cases h;obtain⟨v,o,f⟩:=iI r e
    refine⟨some v,?_,?_⟩
    ·unfold L2.start;rw [QV (by simpa using(by lia:i<vs.length)),QH,o];rfl
    ·cases g with
     | none=>trivial
     | some d=>exact⟨v,rfl,f⟩
  ·rw [Yc (by simpa using c),YF]at h
   split at h
   ·rename_i b;cases h
    refine⟨none,?_,trivial⟩
    unfold L2.start;rw [Yc (by simpa using(by lia:vs.length<=i)),YF,if_pos (by simp at b ⊢;lia)]
   ·cases h
 ·rcases n3 m with⟨d,q⟩ | q <;> cases q
section
variable {P:JY}{w:J1}{K:PySem.W.Frag}{mg:Str->Option JS}{base:Heap}{x qual:Str}{st:Zj}{f:YP}{fd:J5}{N ps:List Str}{kk:Nat}{B:Type}{k:bS K B}{g:GS B}
theorem nH{j n m:Nat}{G:GM B}(hG:G=jF j m g)(hn:ps.length=n)(hm:N.length=m)(F:eG K x qual st f fd)(S:bQ N ps (aS st))
  (hb:∀(cdv:JS) (A:Around) (outer:List Env) (s:JT) (H:Hp) (E:XK),bU kk (A.deeper (envOfC qual (aS st) s.heap.objs.size f cdv))->
   iN (X:=(gH aL P w K mg base N qual (aS st) f cdv A outer s H E).nox) k [(j,0)] (cW st) g):aK P w K mg base aL (kk+1) f fd ps (c9 k n G):=by
 subst hG hn hm;refine F.ok S (fun T H Q E h=>?_) (fun cdv A outer s H T Q E hr h=>?_)
 ·obtain⟨F,p,b,y,ds,r,b',hl,_,_,J,_⟩:=h;rw [<- kF J,hl]
 ·obtain⟨F,p,b,y,ds,r,b',hl,z,at0,J,q,c⟩:=h
  refine⟨_,hb cdv A outer s H E hr,?_⟩
  unfold jF at q
  split at q
  ·rename_i ej;obtain⟨v,ev,U⟩:=iI J ej;have jl:j<T.length:=(Qe.mp ev).1;have U:v=.ref p:=U
   have SS:SO k [(j,0)] F H H (L2.start N T) (fB N.length ds) [b] [(p,y)]:=by
    refine⟨KC z J,⟨.cons at0 .nil,fun i i' o u n h1 h2=>?_⟩,fun a h=>?_,fun i a4 I=>?_,fun i i' m o ho=>?_,fun _ h=>h⟩
    ·have a1:i<1:=(Qe.mp h1).1;have a2:i'<1:=(Qe.mp h2).1;lia
    ·rcases h with⟨i,Y,I,_⟩ | ⟨i,Y,I,_⟩ <;> rcases n3 I with⟨d,q⟩ | q <;> cases q
    ·rcases n3 I with⟨d,q⟩ | q <;> cases q
    ·rw [Qy]at m;cases m;cases ho;unfold L2.start;rw [QV (by simpa using jl),QH,ev,U];rfl
   have fin:∀{t:YP->Prop}{H':Hp}{l:List Oa}{Ω':List B}{v:V},aY K [(p,y)] l F t H H'->Os k t H' (b'::Ω') l->aM K t H' r v->Q v H':=fun{t H' l Ω' v} K' W R'=>by
    obtain⟨M,h0⟩:=K'.ad 0 (p,y) rfl;obtain⟨b1,e1,Z⟩:=lD W.at_ h0;cases e1;refine c t H' v M ⟨K'.k.st,fun a u h n=>K'.k.out a u h fun⟨o,m,h'⟩=>n ?_,K'.k.new,K'.k.fz,K'.k.lv⟩ (fun a h=>(K'.ft a (iG h0 h)).imp_left fun⟨o,m,h'⟩=>?_) Z R'
    ·rw [Qy.mp m]at h';exact h'
    ·rw [Qy.mp m]at h';exact h'
   split at q
   ·rename_i d b1 O e;cases q
    exact⟨[(p,y)],F,H,F,_,_,_,_,aY.refl z,SS,e,fun t H' v l K' W R'=>fin K' W R'⟩
   ·rename_i a3 b1 O e;cases q
    exact⟨[(p,y)],F,H,F,_,_,_,_,aY.refl z,SS,e,fun t H' a0 l K' T' S'=>fin K' S'.o .non⟩
   ·cases q
  ·cases q
theorem Mv(hG:G=rX m g)(hn:ps.length=n)(hm:N.length=m)(F:eG K x qual st f fd)(S:bQ N ps (aS st))
  (hb:∀(cdv:JS) (A:Around) (outer:List Env) (s:JT) (H:Hp) (E:XK),bU kk (A.deeper (envOfC qual (aS st) s.heap.objs.size f cdv))->
   iN (X:=(gH aL P w K mg base N qual (aS st) f cdv A outer s H E).nox) k τ (cW st) g):aK P w K mg base aL (kk+1) f fd ps (aX K n G):=by
 subst hG hn hm;refine F.ok S (fun I H Q E h=>?_) (fun cdv A outer s H I Q E Y h=>?_)
 ·obtain⟨F,y,d,J,_,r,_⟩:=h;rw [<- r.length,J]
 ·obtain⟨F,y,d,J,z,r,q,c⟩:=h
  refine⟨_,hb cdv A outer s H E Y,?_⟩
  have no:∀(i:Nat) (s:Sl),(cE N.length y)[i]?=some s->(∃ d,s=.dat d) ∨ s=.no:=fun i s h=>by
   have m:=QD h;rcases QE.mp m with m | m
   ·obtain⟨d,_,rfl⟩:=QO.mp m;exact .inl ⟨d,rfl⟩
   ·exact .inr (List.eq_of_mem_replicate m)
  have M:SO k τ F H H (L2.start N I) (cE N.length y) [] []:=by
   refine⟨n4 z r,⟨.nil,fun i W o u n h1 h2=>?_⟩,fun a h=>?_,fun i U l=>?_,fun i W m o Z=>?_,fun _ h=>h⟩
   ·simp at h1
   ·rcases h with⟨i,t,l,_⟩ | ⟨i,t,l,_⟩ <;> rcases no i _ l with⟨d,q⟩ | q <;> cases q
   ·rcases no i _ l with⟨d,q⟩ | q <;> cases q
   ·simp at Z
  have fin:∀{j:YP->Prop}{H':Hp}{b:List Oa}{v:V},aY K [] b F j H H'->aM K j H' d v->Q v H':=fun{j H' b v} K' B=>
   c j H' v ⟨fun a u h=>K'.k.out a u h (fun⟨o,m,_⟩=>by cases m),K'.k.st.up,fun a f=>(K'.k.new a f).imp_right fun h=>⟨h,K'.k.fz a f⟩⟩ B
  unfold rX at q
  split at q
  ·rename_i d' p e;cases q
   exact⟨[],F,H,F,_,_,_,_,aY.refl z,M,e,fun j H' v b K' o' B=>fin K' B⟩
  ·rename_i T p e;cases q
   exact⟨[],F,H,F,_,_,_,_,aY.refl z,M,e,fun j H' O b K' T' S'=>fin K' .non⟩
  ·cases q
end
end OB
namespace OB
open PySem.Spec L2 DL
section
variable {X:Cx}{tg:Expr}
end
end OB
namespace OB
open PySem.Spec L2 DL
theorem oQ{K:PySem.W.Frag}{φ F:YP->Prop}{H:Hp}{p:YP}{b o:HO}(z:∀ a,F a->H a≠none)(d:H p=some b)(i:∀ xs,b≠.tup xs)(g:∀ ob xs,b≠.frz ob (.tup xs))(e:¬ F p)(m:φ p):cK K φ F F H (aJ H p o):=by
 have c:∀ a,F a->a≠p:=fun a f h=>e (h ▸ f)
 refine⟨⟨fun _ h=>h,fun a xs h=>?_,fun a xs f h=>?_,fun a φ f h=>by rw [aV (c a f)];exact h⟩,fun a u h n=>by rw [aV (fun w=>n (by rw [w];exact m))];exact h,fun _ h=>.inl h,fun a f=>by rw [aV (c a f)];exact z a f,fun a h=>?_⟩
 ·rcases h with(h | ⟨ob,h⟩) | h
  ·exact .inl (.inl (by rw [aV (by intro w;subst w;rw [d]at h;exact i xs (QA h))];exact h))
  ·exact .inl (.inr ⟨ob,by rw [aV (by intro w;subst w;rw [d]at h;exact g ob xs (QA h))];exact h⟩)
  ·exact .inr h
 ·rcases h with h | ⟨ob,h⟩
  ·exact .inl (by rw [aV (c a f)];exact h)
  ·exact .inr ⟨ob,by rw [aV (c a f)];exact h⟩
 ·by_cases w:a=p
  ·subst w;rw [cN]at h;cases h
  ·rwa [aV w]at h
theorem yE:(∀ ys,HO.lst xs≠.tup ys)/\∀ ob ys,HO.lst xs≠.frz ob (.tup ys):=⟨(by intro _ h;cases h),(by intro _ _ h;cases h)⟩
theorem p4:(∀ ys,HO.ins C dx fs≠.tup ys)/\∀ ob ys,HO.ins C dx fs≠.frz ob (.tup ys):=⟨(by intro _ h;cases h),(by intro _ _ h;cases h)⟩
theorem yD:(∀ ys,HO.ext φ≠.tup ys)/\∀ ob ys,HO.ext φ≠.frz ob (.tup ys):=⟨(by intro _ h;cases h),(by intro _ _ h;cases h)⟩
section
variable {B:Type}
def gO(j:Nat)(get:B->Option D):GX B D:=fun _ a=>(a[j]?).bind fun b=>(get b).bind fun d=>some (d,a)
def mB(G:List D->Option D)(gr:GX B (List D)):GX B D:=fun a b=>(gr a b).bind fun x=>(G x.1).bind fun d=>some (d,x.2)
end
def EN{K:PySem.W.Frag}{B:Type}(k:bS K B)(C:YP)(f:Str)(get:B->Option D):Prop:=∀{F:YP->Prop}{H:Hp}{p:YP}{b:B}{φ:YP->Prop}{d:D},k.At F H p b φ->get b=some d->∃ dx fs v,H p=some (.ins C dx fs)/\fs.lookup f=some v/\aM K F H d v
section
variable {X:Cx}{B:Type}{k:bS X.K B}{τ:List (Nat × Nat)}{a b c e:Expr}{es:List Expr}{ga gb:GX B D}{gr:GX B (List D)}{pos p:Pos}
theorem pQ{i j:Nat}{x f:Str}{C:YP}{get:B->Option D}(s:(i,j)∈τ)(M:fZ X.K C)(n:i3 X.K C f)(g:EN k C f get)(E:X.N[i]?=some x:=by rfl)(t:gG X.env.scope x:=by first | exact Ze rfl | exact Zc (Ze rfl) | exact Zc (Zc rfl))(z:(x == ("__debug__":Str))=false:=by decide)
  (a:(x == ("__classdict__":Str))=false:=by decide) (A:Zo (.Name x p) f X.env (Za (.Name x p) X.env)=Za (.Name x p) X.env:=by rfl):XE k τ (.Attribute (.Name x p) f pos) (gO j get):=bT (qA (pe_var E t z a) A) fun O H Q l=>by
 obtain⟨F,e,T,U,m,d,h,S,q,c⟩:=l;obtain⟨b,I,q⟩:=aE q;obtain⟨W,G,q⟩:=aE q;cases q;obtain⟨o,y,at0⟩:=iI S.o.at_ I;obtain⟨J,fs,v,u,w,r⟩:=g at0 G
 exact⟨_,S.hd i j s o y,o.1,C,J,fs,v,rfl,u,M,n,w,c F H v m (aY.refl S.S.fz) S r⟩
theorem IT(c:fC X (cD X.K h))(e:XE k τ a ga)(d:XE k τ b gb)(hs:qX b:=by exact fun _ _=>rfl):XE k τ (.Subscript a b pos) (cU h ga gb):=bT (sW c e d hs) fun _ _ _ q=>GK q
theorem CB(F:aK X.prog X.w X.K X.mg X.base aL kk f fd ps (aX X.K n G))(t:bU kk X.A)(z:Gl X x)(u:X.mg x=some (.ref f))(y:PySem.W.keepIn X.K (.ref f)=true)(B:Binds X.K fd ps [])
  (I:XA k τ (e::es) gr) (h:∀ ρ Ω x,gr ρ Ω=some x->x.1.length=n) (i:(x == ("__debug__":Str))=false:=by decide) (he:JU (e::es) X.env=(false,Za e X.env)::JU es X.env:=by rfl) (hpl:(Zb pos (JU es X.env)).any (·.1)=false:=by rfl):
  XE k τ (.Call (.Name x p) (e::es) [] pos) (mB G gr):=bT (sU (E:=E0) F t z u y B .nil mS I i he hpl) fun Y H Q o=>by
 obtain⟨F,a,ρ,Ω,s,d,m,S,q,c⟩:=o;obtain⟨b,j,q⟩:=aE q;obtain⟨Z,J,q⟩:=aE q;cases q
 refine⟨F,a,ρ,Ω,s,b.1,b.2,S,j,fun U O r g K1 S1 M=>?_⟩
 show aX X.K n G (r++[]) O Q E0
 rw [QG]
 exact⟨U,b.1,d,h ρ Ω b j,S1.S.fz,M,J,fun T N v l R2=>c T N v g (K1.trans (aY.ext S1.S.fz l)) (S1.ext l) R2⟩
end
end OB
namespace OB
open PySem.Spec L2 CL DL
section
variable {B:Type}
def pO(i:Nat)(t:GX B Bool)(ge:aA->Option D):List D->aA->List B->Option (List D × List B)
 | [],_,Ω=>some ([],Ω)
 | d::ds,ρ,Ω=>(t (ρ.set i (.dat d)) Ω).bind fun x=>if x.1=true then(ge (ρ.set i (.dat d))).bind fun y=>(pO i t ge ds (ρ.set i (.dat d)) x.2).bind fun r=>some (y::r.1,r.2)else pO i t ge ds (ρ.set i (.dat d)) x.2
end
section
variable {K:PySem.W.Frag}{B:Type}{k:bS K B}{τ τ':List (Nat × Nat)}{F F':YP->Prop}{H H' H₀ H₁:Hp}{σ:L2.St}{ρ:aA}{Ω Ω':List B}{os os':List Oa}
theorem SO.keeps(S:SO k τ F H H₀ σ ρ Ω os)(q:aY K os os' F F' H H')(o:Os k F' H' Ω' os')(g:os'.length=os.length):SO k τ F' H' H₀ σ ρ Ω' os':=
 ⟨aW.keep S.S S.sep S.nm q.k,o,fun a h f=>(q.ft a f).elim (S.sep a h) (BB S.S h).1,S.nm,fun i j m u b=>by
  have d:j<os.length:=by rw [<- g];exact(Qe.mp b).1
  have c:os[j]?=some os[j]:=Qi d;obtain⟨l,e⟩:=q.ad j _ c;rw [b]at e;cases e
  exact S.hd i j m os[j] c,fun a h=>S.lo a (q.k.lv a h)⟩
theorem BH(p:i4 ρ)(h:dQ σ ρ a):False:=by
 rcases h with⟨i,c,b,_⟩ | ⟨i,c,b,_⟩
 ·exact p i _ rfl b
 ·exact p i _ rfl b
theorem SO.inner(S:SO k τ F H H₀ σ ρ Ω os)(inner:List (Option Nat))(b:∀ ij,ij∈τ'->∃ i0,inner[ij.1]?=some (some i0)/\(i0,ij.2)∈τ)(c:∀ a,H a=none->H₁ a=none):SO k τ' F H H₁ (iP inner σ) (fV inner ρ) Ω os:=
 ⟨(S.S.inner inner).plain (mU inner ρ) (bA.refl K F H) S.S.fz,S.o,fun a h=>(BH (mU inner ρ) h).elim,fun i d q=>mU inner ρ i _ rfl q,fun i j m o e=>by
  obtain⟨i0,l,g⟩:=b _ m;have f:=S.hd i0 j g o e;unfold iP;rw [QH,l]
  simp [f],c⟩
end
section
variable {X:Cx}{B:Type}{k:bS X.K B}{τ τ':List (Nat × Nat)}{a b c:Expr}{ga gb gc:GX B D}{pos:Pos}
structure LO(X:Cx){B:Type}(k:bS X.K B)(τ':List (Nat × Nat))(n:Nat)(t:GX B Bool)(ge:aA->Option D)(xs out:List D)(Ω':List B)(os:List Oa)(F1:YP->Prop)(H1:Hp)(D':YP)(i m:Nat)(σ':L2.St)(H':Hp)(F2:YP->Prop)(ρ2:aA)(vs:List V)(don rst:List D)(Ω2:List B)(os2:List Oa):Prop where
 em:m=xs.length-i
 hi:i<=xs.length
 K2:aY X.K os os2 F1 F2 H1 H'
 S:SO k τ' F2 H' H1 σ' ρ2 Ω2 os2
 pl:i4 ρ2
 dD:H' D'=some (.lst vs)
 nf:¬ F2 D'
 nt:¬ eL os2 D'
 rd:Reps X.K F2 H' don vs
 ec:pO n t ge (xs.drop i) ρ2 Ω2=some (rst,Ω')
 eo:don++rst=out
variable {elt iter:Expr}{scope:ZY}{N':List Str}{inner:List (Option Nat)}{gi:aA->Option (List D)}{t:GX B Bool}{ge:aA->Option D}{n:Nat}{x:Str}{p:Pos}
end
end OB
namespace OB
open PySem.Spec L2 CL DL
section
variable {K:PySem.W.Frag}{B:Type}(k:bS K B)(τ:List (Nat × Nat))
inductive Dk(s:D->aA->Option aA)(v:V)(σ:L2.St)(H:Hp)(Q:L2.St->Hp->Prop):Prop
 | mk (F:YP->Prop) (H₀:Hp) (ρ:aA) (Ω:List B) (os:List Oa) (d:D) (ρ':aA) (S:SO k τ F H H₀ σ ρ Ω os) (R:aM K F H d v) (q:s d ρ=some ρ') (c:∀ σ',SO k τ F H H₀ σ' ρ' Ω os->Q σ' H):Dk s v σ H Q
inductive Dl(s:List D->aA->Option aA)(v:List V)(σ:L2.St)(H:Hp)(Q:L2.St->Hp->Prop):Prop
 | mk (F:YP->Prop) (H₀:Hp) (ρ:aA) (Ω:List B) (os:List Oa) (d:List D) (ρ':aA) (S:SO k τ F H H₀ σ ρ Ω os) (R:Reps K F H d v) (q:s d ρ=some ρ') (c:∀ σ',SO k τ F H H₀ σ' ρ' Ω os->Q σ' H):Dl s v σ H Q
inductive uZ(gi:GX B (List D))(σ:L2.St)(H:Hp)(R:It->Hp->Prop):Prop
 | mk (F:YP->Prop) (H₀:Hp) (ρ:aA) (Ω:List B) (os:List Oa) (ds:List D) (Ω':List B) (S:SO k τ F H H₀ σ ρ Ω os) (q:gi ρ Ω=some (ds,Ω')) (c:∀ F' H' J os',aY K os os' F F' H H'->SO k τ F' H' H₀ σ ρ Ω' os'->kL K F' H' ds J->R J H'):uZ gi σ H R
end
section
variable {X:Cx}{B:Type}(k:bS X.K B)(τ:List (Nat × Nat))
def XG(b:Expr)(s:D->aA->Option aA):Prop:=PG X b fun v a H Q=>Dk k τ s v a H Q
def u4(es:List Expr)(s:List D->aA->Option aA):Prop:=lL X es fun v a H Q=>Dl k τ s v a H Q
def XI(b a:Expr)(gi:GX B (List D)):Prop:=PI X b a (uZ k τ gi)
end
section
variable {B:Type}
def l4(ga:GX B D):GX B (List D):=fun a b=>(ga a b).bind fun x=>(jJ x.1).bind fun c=>some (c,x.2)
def pT(s:D->aA->Option aA)(g:GS B):List D->GS B
 | [],ρ,Ω=>some (.nx ρ Ω)
 | d::ds,ρ,Ω=>(s d ρ).bind fun a=>(g a Ω).bind fun o=>match o with
  | .nx ρ' Ω'=>pT s g ds ρ' Ω'
  | o=>some o
def yJ(gi:GX B (List D))(s:D->aA->Option aA)(g:GS B):GS B:=fun a b=>(gi a b).bind fun x=>pT s g x.1 a x.2
end
section
variable {X:Cx}{B:Type}{k:bS X.K B}{τ:List (Nat × Nat)}{e tg iter c:Expr}{es:List Expr}{body:List Zj}{pos:Pos}{ga:GX B D}{g:GS B}{t:GX B Bool}
theorem IV(l:X.N.Nodup)(g:∀ ij,ij∈τ->ij.1≠i)(h:X.N[i]?=some x:=by rfl)(f:Loc X.env.scope x:=by first | exact Ze rfl | exact Zc rfl)(j:X.fn x=true ∨ X.env.scope.names.lookup x=some .local:=by first | exact .inl rfl | exact .inr rfl | assumption):XG k τ (.Name x pos) (bX i):=
 wQ (mT l h f j) fun v m H Q e=>by
  obtain⟨F,a,n,o,p,d,b,S,R,q,c⟩:=e;cases q;exact c _ (S.put g R)
theorem zTE:u4 k τ [] j2:=wR IN fun v b H Q e=>by
 obtain⟨F,a,f,g,h,i,d,S,R,q,c⟩:=e
 cases R with
 | nil=>cases q;exact⟨rfl,c b S⟩
 | cons _ _=>cases q
theorem IW(n:XG k τ e s1)(m:u4 k τ es s2)
  (hs:(ZE (e::es) X.env).map (·.2)=assign e X.env::(ZE es X.env).map (·.2):=by rfl):u4 k τ (e::es) (gF s1 s2):=
 wR (IM n m hs) fun v s H Q j=>by
  obtain⟨F,a,i,f,g,t,d,S,R,q,c⟩:=j
  cases R with
  | nil=>cases q
  | cons r l=>
   obtain⟨b,o,q⟩:=aE q
   exact⟨_,_,rfl,F,a,i,f,g,_,b,S,r,o,fun h p=>⟨F,a,b,f,g,_,d,p,l,q,c⟩⟩
theorem zTD(u:X.calm=true)(h:u4 k τ es s)(t:(ZE es X.env).length=n:=by rfl)(f:(ZE es X.env).findIdx? (·.1)=none:=by rfl):XG k τ (.Tuple es m pos) (kW n s):=
 wQ (IL u h t f) fun v w H Q o=>by
  obtain⟨F,b,j,l,p,d,ρ',S,R,q,c⟩:=o
  cases d with
  | tuple i=>
   cases R with
   | @tup a vs _ hq r=>
    have e:(if i.length=n then s i j else none)=some ρ':=q;by_cases g:i.length=n
    ·rw [if_pos g]at e
     exact⟨_,_,rfl,hq,by rw [<- r.length];exact g,F,b,j,l,p,_,ρ',S,r,e,c⟩
    ·rw [if_neg g]at e;cases e
  | _=>cases q
theorem zTF(h:DI X tg iter gi):XI k τ tg iter (xP gi):=wS h fun m H R e=>by
 obtain⟨F,a,b,n,f,i,d,S,q,c⟩:=e;obtain⟨o,g,q⟩:=aE q;cases q
 exact⟨F,a,b,i,S.S,g,fun l j J E I=>c l j J f (aY.ext S.S.fz E) (S.ext E) I⟩
theorem CF(T:XE k τ e ga):XI k τ tg e (l4 ga):=by
 intro n s A H R I h;obtain⟨F,l,B,M,G,Y,J,S,q,c⟩:=h;obtain⟨x,U,q⟩:=aE q;obtain⟨W,j,q⟩:=aE q;cases q;refine aU (T n s A H (fun v i=>∃ m f,aY X.K G f F m H i/\SO k τ m i l A B x.2 f/\aM X.K m i x.1 v) I ⟨F,l,B,M,G,x.1,x.2,S,U,fun m i v f u t z=>⟨m,f,u,t,z⟩⟩) fun v g N=>?_;obtain⟨y,i,I1,E,m,f,u,t,z⟩:=N;generalize x.1=d at *
 cases z with
 | @lst a vs ds' hq rr=>
  cases j;cases E;obtain⟨r,O,p,Q⟩:=I1.list hq.sq;refine Uz p.isList ?_
  refine⟨g.heap.objs.size,[g.heap.objs.size],_,_,i,rfl,I1.kept (t':=g.toks) fun b o e=>Qf _ e,Kd a _,⟨_,Qu _ rfl,rfl,rfl⟩,fun b w=>?_,c m i _ f u t (He hq rr)⟩
  have e:b=g.heap.objs.size:=by simpa using w
  subst e;exact I1.fpOk (Qj _) (I1.hok.fresh (Qj _))
 | @tup a vs ds' hq rr=>
  cases j;cases E;obtain⟨r,O,p,Q⟩:=I1.tuple hq;refine wpAny_pyIter_tuple (show g.heap.IsTuple a r.toArray from p) ?_
  refine⟨g.heap.objs.size,[g.heap.objs.size],_,_,i,rfl,I1.kept (t':=g.toks) fun b o e=>Qf _ e,Ke a _,⟨_,Qu _ rfl,rfl,rfl⟩,fun b w=>?_,c m i _ f u t (Hg hq rr)⟩
  have e:b=g.heap.objs.size:=by simpa using w
  subst e;exact I1.fpOk (Qj _) (I1.hok.fresh (Qj _))
 | non=>cases j
 | dct _ _ _ _ _=>cases j
 | exn _ _ _=>cases j
 | bl _=>cases j
 | int _=>cases j
 | str _=>cases j
structure FG(X:Cx){B:Type}(k:bS X.K B)(τ:List (Nat × Nat))(s:D->aA->Option aA)(g:GS B)(xs:List D)(o:kM B)(os₀:List Oa)(F₀ F F1:YP->Prop)(H₀ H H1:Hp)(n:Nat)(σ2:L2.St)(H2:Hp)(F2:YP->Prop)(ρ2:aA)(Ω2:List B)(os2:List Oa):Prop where
 K2:aY X.K os₀ os2 F₀ F2 H₀ H2
 T0:bA X.K F F2 H H2
 T1:bA X.K F1 F2 H1 H2
 S2:SO k τ F2 H2 H₀ σ2 ρ2 Ω2 os2
 q2:pT s g (xs.drop n) ρ2 Ω2=some o
theorem zTI(hp:PassesOwn (JX X.prog X.w) X.A X.env X.xe)(hc:X.calm=true)(hi:XI k τ tg iter gi)(hg:XG k τ tg s)(hb:iN k τ body g)
  (hs:∀ x,Zq iter X.env x=pure x:=by intro _;rfl):XS k τ (.For tg iter body [] pos) (yJ gi s g):=
 ps_mono (BK hp hc hi hg hb hs) fun W σ H zz=>by
  obtain⟨b,i,a,F,U,Ω,os,o,K0,S,q,c⟩:=zz;obtain⟨⟨e,z⟩,e1,q⟩:=aE q
  refine⟨F,a,U,Ω,os,e,z,S,e1,fun T H1 J N K1 S1 I1=>?_⟩
  refine⟨fun n m r G=>m=e.length-n/\n<=e.length/\∃ I t j f,FG X k τ s g e o b i F T a H H1 n r G I t j f,
   ⟨e.length,rfl,QR _,T,U,z,N,K0.trans K1,K1.k.st,bA.refl _ _ _,S1,q⟩,?_⟩
  rintro n m r G ⟨rfl,a2,I,t,j,f,K2,T0,T1,S2,l⟩;obtain⟨Q,O⟩:=I1 I G T1 S2.S.fz n;by_cases p:n<e.length
  ·right
   have B:e[n]?=some e[n]:=by simp [p]
   obtain⟨go,K⟩:=Q _ B;rw [Q0 p]at l;obtain⟨v,e3,l⟩:=aE l;obtain⟨Y,e4,l⟩:=aE l
   refine⟨go,fun u H4=>∃ F4 ρ4 Ω4 os4,FG X k τ s g e o b i F T a H H1 (n+1) u H4 F4 ρ4 Ω4 os4,fun u H4 h=>⟨e.length-(n+1),by lia,rfl,p,h⟩,fun x H3 y=>?_⟩
   obtain⟨F3,E3,R3⟩:=K x H3 y;have TT0:=T0.trans E3.stay;have TT1:=T1.trans E3.stay
   refine⟨F3,a,t,j,f,e[n],v,S2.ext E3,R3,e3,fun a1 S5=>⟨b,i,a,F3,v,j,f,Y,K2.trans (aY.ext S2.S.fz E3),S5,e4,?_⟩⟩
   cases Y with
   | nx ρ6 Ω6=>exact fun F6 H6 a0 M K6 Z S6=>⟨F6,ρ6,Ω6,M,K6,TT0.trans Z,TT1.trans Z,S6,l⟩
   | rt d Ω6=>cases l;exact c
  ·left
   have E:e.length<=n:=Ya p
   refine⟨O E,?_⟩
   rw [YH E]at l;cases l;exact c I G r f K2 T0 S2
end
end OB
namespace KP
open PySem.Spec L2 DL DC
section
variable {P:JY}{w:J1}
variable {A:Around}{E:JS->JT->Prop}{s:JT}
end
end KP
namespace KP
open PySem.Spec L2 DL DC ST SL
section
variable {P:JY}{w:J1}{κ:Type}[DecidableEq κ]{knd:HeapKind P w κ}{A:Around}{E:JS->JT->Prop}{s:JT}{d b:YP}{k:κ}{xs:List (κ × YP × JS)}
end
section
variable {X:Cx}{pins:List (YP × Obj)}{σ:L2.St}{H:Hp}{s:JT}
end
end KP
namespace KP
open PySem.Spec L2 DL DC ST SL
section
variable {P:JY}{w:J1}
theorem Sk:PySem.W.KdlSrc P w "dict" d d raw.size (fun i v=>∃ h:i<raw.size,v=raw[i].key) (fun h=>lM h d raw ep) where
 type:=fun s h=>h.ty
 there:=fun h ⟨f,o,a,g⟩=>⟨Qs a,Qs a⟩
 keep:=fun h p ⟨f,o,a,g⟩ r=>⟨f,o,r d (.inl rfl) o a,g⟩
 notList:=by decide
 notTuple:=by decide
 hint:=fun _ _ _ _ m u=>PySem.W.kdl_hint_dict m.ty u
 iter:=fun A s F m=>by
  have x:d<s.heap.objs.size:=let⟨_,o,a,_⟩:=m;Qs a
  refine⟨_,fun i h=>h.IsKeyIter s.heap.objs.size d i raw.size ep/\lM h d raw ep,fun _ _ u=>Hh m u,⟨?_,?_,?_,?_,?_⟩,⟨_,Qu _ rfl,rfl,by simp [Z2]⟩,?_⟩
  ·intro b k;simp at k;simp [k]
  ·rintro i h p ⟨⟨o,e,c⟩,f,j,a,g⟩ r
   exact⟨⟨o,r _ (by simp) o e,c⟩,f,j,r d (by simp) j a,g⟩
  ·rintro i q Q E B ⟨l,rd⟩ n;refine G8 l rd B fun p t z=>n _ p q.toks ⟨B,rfl⟩ ⟨t,?_⟩ fun b o k e=>(z.2 b (fun h=>k (by simp [h]))).trans e;obtain⟨f,j,a,g⟩:=rd
   exact⟨f,j,(z.2 d (QB x)).trans a,g⟩
  ·rintro q Q E ⟨l,rd⟩ n;exact Gn F l rd (Qj _) fun p y=>n p q.toks fun b o k e=>y b o (fun h=>k (by simp [h])) e
  ·rintro i q Q E ⟨l,rd⟩ n;exact wpAny_pyIter_keyiter l n
  ·obtain⟨f,j,a,g⟩:=m
   exact⟨f,j,Qf _ a,g⟩
end
section
variable {X:Cx}
def X9:List V->Hp->VK->Prop:=fun b H Q=>∃(a:YP) (es:List cR) (ep:Nat),b=[.ref a]/\H a=some (bO a es ep)/\es.length<=1000/\∀ p,H p=none->Q (.ref p) (aJ H p (.lst (es.map fun e=>V.ref e.2.1)))
theorem O8(B:X.calm=true):dA X (.type "list") X9:=fun j s M H N O Q I r p=>by
 obtain⟨a,f,ep,G,h,g,k⟩:=p;subst G;obtain⟨u,rfl,t⟩:=jQ r;cases t;obtain⟨v,rd,sz,l⟩:=wX I h;refine PySem.W.kdl_call (Sk (ep:=ep)) (I.ok.hd B) rd (by rw [sz];exact Qr g (by rw [QW];lia)) fun F S b K keep E d=>?_;have A:H s.heap.objs.size=none:=I.hok.fresh (Qj _)
 have q:Vals (f.map fun e=>V.ref e.2.1) b.toList:=by
  have:b.toList=f.map fun e=>J2 e.2.1:=by
   refine List.ext_getElem? fun i=>?_;rw [QH];by_cases c:i<f.length
   ·have m:i<b.size:=by rw [d.1,sz];exact c
    have J:b.toList[i]?=some b[i]:=by simp [m]
    obtain⟨y,x⟩:=d.2 i b[i] (by simp [m])
    have n:f[i]?=some f[i]:=by simp [c]
    rw [J,n,x,l i y _ n];rfl
   ·rw [Jz (by rw [Qt,d.1,sz];lia),Jz (Ya c)];rfl
  rw [this];clear this l sz k h g
  induction f with
  | nil=>exact .nil
  | cons e f z=>exact .cons rfl z
 refine⟨.ref s.heap.objs.size,_,I.laid (o:=.lst (f.map fun e=>V.ref e.2.1)) keep (Qj _) ?_,rfl,k _ A⟩
 exact(show dS X.prog X.w _ F _ (.lst (f.map fun e=>V.ref e.2.1))from⟨by rw [Qd];exact Qr g (by rw [QW];lia),b.toList,K,q,by rw [Array.toArray_toList];exact E⟩)
end
end KP
namespace OB
open PySem.Spec L2 CL DL SD DC TB ST SL
def kT(F:YP->Prop)(os:List Oa):YP->Prop:=fun a=>F a ∨ eL os a
def pZ(F:YP->Prop)(os:List Oa):YP->Prop:=fun a=>F a/\¬ eL os a
abbrev GR(B:Type):=aA->List B->Option D
section
variable {K:PySem.W.Frag}{B:Type}{k:bS K B}{τ:List (Nat × Nat)}{F F':YP->Prop}{H H' H₀:Hp}{σ:L2.St}{ρ:aA}{Ω:List B}{os:List Oa}
theorem Ia(h:aM K F H d v)(m:∀ a,F a->F' a):aM K F' H d v:=h.stay ⟨m,fun _ _ z=>z,fun _ _ _ z=>z,fun _ _ _ z=>z⟩
theorem lend(S:SO k τ F H H₀ σ ρ Ω os)(E:aH (kT F os) F' H H'):aH F (pZ F' os) H H':=
 ⟨E.same,fun a f=>⟨E.up a (.inl f),fun z=>(S.o.live z).2 f⟩,fun a f=>(E.new a f.1).imp_left fun z=>z.elim id fun z=>absurd z f.2⟩
theorem WF(S:SO k τ F H H₀ σ ρ Ω os):∀ a,kT F os a->H a≠none:=fun a f=>f.elim (S.S.fz a) fun f=>(S.o.live f).1
theorem Wc(E:aH (kT F os) F' H H'):∀ a,F' a->kT (pZ F' os) os a:=fun a f=>by
 by_cases z:eL os a
 ·exact .inr z
 ·exact .inl ⟨f,z⟩
theorem WE(E:aH (kT F os) F' H H'):∀ a,kT (pZ F' os) os a->F' a:=fun a f=>f.elim (fun z=>z.1) fun z=>E.up a (.inr z)
end
section
variable {K:PySem.W.Frag}{B:Type}(k:bS K B)(τ:List (Nat × Nat))
inductive rN(g:GR B)(σ:L2.St)(H:Hp)(Q:VK):Prop
 | mk (F:YP->Prop) (H₀:Hp) (ρ:aA) (Ω:List B) (os:List Oa) (d:D) (S:SO k τ F H H₀ σ ρ Ω os) (q:g ρ Ω=some d) (c:∀ F' H' v,aH (kT F os) F' H H'->aM K F' H' d v->Q v H'):rN g σ H Q
end
def XR{X:Cx}{B:Type}(k:bS X.K B)(τ:List (Nat × Nat))(e:Expr)(g:GR B):Prop:=PE X e (rN k τ g)
def yN{K:PySem.W.Frag}{B:Type}(k:bS K B)(C:YP)(f:Str)(get:B->Option D):Prop:=∀{F:YP->Prop}{H:Hp}{p:YP}{b:B}{φ:YP->Prop}{d:D},k.At F H p b φ->get b=some d->∃ dx fs v,H p=some (.ins C dx fs)/\fs.lookup f=some v/\aM K (fun a=>F a ∨ φ a) H d v
section
variable {B:Type}
def rP(g:aA->Option D):GR B:=fun a _=>g a
def nN(j:Nat)(get:B->Option D):GR B:=fun _ a=>(a[j]?).bind get
def rO(h:D->D->Option D)(ga gb:GR B):GR B:=fun a b=>(ga a b).bind fun x=>(gb a b).bind fun y=>h x y
def Aq(g:GR B):GX B D:=fun b a=>(g b a).bind fun d=>if vB d=true then some (d,a)else none
def sM(g:GR B):GX B Bool:=fun c a=>(g c a).bind fun d=>(eJ d).bind fun b=>some (b,a)
end
section
variable {X:Cx}{B:Type}{k:bS X.K B}{τ:List (Nat × Nat)}{a b e:Expr}{es:List Expr}{ga gb:GR B}{pos p:Pos}
theorem CH(h:DE X e g):XR k τ e (rP g):=bT h fun o H Q j=>by
 obtain⟨F,b,i,p,l,d,S,q,c⟩:=j
 refine⟨F,b,i,d,S.S,q,fun n m v E R=>c (kT n l) m v ⟨E.same,fun a f=>f.elim (fun z=>.inl (E.up a z)) .inr,fun a f=>f.elim (fun z=>(E.new a z).imp_left .inl) fun z=>.inl (.inr z)⟩ (Ia R fun _ z=>.inl z)⟩
theorem CG{i j:Nat}{x f:Str}{C:YP}{get:B->Option D}(t:(i,j)∈τ)(M:fZ X.K C)(s:i3 X.K C f)(g:yN k C f get)(G:X.N[i]?=some x:=by rfl)(u:gG X.env.scope x:=by first | exact Ze rfl | exact Zc (Ze rfl) | exact Zc (Zc rfl))(A:(x == ("__debug__":Str))=false:=by decide)
  (e:(x == ("__classdict__":Str))=false:=by decide) (E:Zo (.Name x p) f X.env (Za (.Name x p) X.env)=Za (.Name x p) X.env:=by rfl):XR k τ (.Attribute (.Name x p) f pos) (nN j get):=bT (qA (pe_var G u A e) E) fun O H Q m=>by
 obtain⟨F,l,T,U,n,d,S,q,c⟩:=m;obtain⟨b,I,q⟩:=aE q;obtain⟨o,h,at0⟩:=iI S.o.at_ I;obtain⟨J,fs,v,w,y,r⟩:=g at0 q
 exact⟨_,S.hd i j t o h,o.1,C,J,fs,v,rfl,w,M,s,y,c (kT F n) H v (aH.refl _ H) (Ia r fun a z=>z.imp_right fun z=>iG h z)⟩
theorem GI(q:rN k τ (rO h ga gb) σ H Q):lY (cD X.K h) (rN k τ ga) (rN k τ gb) σ H Q:=by
 obtain⟨F,b,g,i,e,d,S,q,c⟩:=q;obtain⟨x,o,q⟩:=aE q;obtain⟨y,n,q⟩:=aE q
 refine⟨F,b,g,i,e,x,S,o,fun m s v E1 R1=>?_⟩
 have j:=S.ext (lend S E1)
 refine⟨pZ m e,b,g,i,e,y,j,n,fun l H2 w E2 R2=>?_⟩
 have E12:aH m l s H2:=⟨E2.same,fun a f=>E2.up a (Wc E1 a f),fun a f=>(E2.new a f).imp_left (WE E1 a)⟩
 exact⟨l,x,y,d,E2.fz (WF j),R1.stay E12.stay,R2,q,fun t r z u p=>c t r z (E1.trans (E12.trans u)) p⟩
theorem O3(c:fC X (cD X.K h))(e:XR k τ a ga)(d:XR k τ b gb)(hs:qX b:=by exact fun _ _=>rfl):XR k τ (.Subscript a b pos) (rO h ga gb):=bT (sW c e d hs) fun _ _ _ q=>GI q
theorem zTz(h:XR k τ e g):XE k τ e (Aq g):=bT h fun s H Q m=>by
 obtain⟨F,a,i,l,b,d,j,S,q,c⟩:=m;obtain⟨o,n,q⟩:=aE q;by_cases f:vB o=true
 ·rw [if_pos f]at q;cases q
  exact⟨F,a,i,l,b,d,S,n,fun r p v E R=>c (pZ r b) p v b (aY.ext S.S.fz (lend S E)) (S.ext (lend S E)) (Gv R f)⟩
 ·rw [if_neg f]at q;cases q
theorem Lg(m:bC X (Zf op) (cD X.K h))(p:XR k τ a ga)(o:XR k τ b gb)(n:ZH op b=false):XT k τ (.Compare a [op] [b] pos) (sM (rO h ga gb)):=mV (wW m p o n) fun x H Q l=>by
 obtain⟨F,e,g,j,f,r,i,S,q,c⟩:=l;obtain⟨d,t,q⟩:=aE q;obtain⟨y,s,q⟩:=aE q;cases q;exact GI ⟨F,e,g,j,f,d,S,t,fun w u v E R=>⟨r,lE R s,c (pZ w f) u f (aY.ext S.S.fz (lend S E)) (S.ext (lend S E))⟩⟩
end
def A5{K:PySem.W.Frag}{B:Type}(k:bS K B)(C:YP)(f:Str)(get:B->List D):Prop:=∀{F:YP->Prop}{H:Hp}{p:YP}{b:B}{φ:YP->Prop},k.At F H p b φ->∃ dx fs c vs,H p=some (.ins C dx fs)/\fs.lookup f=some (.ref c)/\φ c/\¬ F c/\H c=some (.lst vs)/\Reps K F H (get b) vs
def EM{K:PySem.W.Frag}{B:Type}(k:bS K B)(C:YP)(f:Str)(e:B->D->B):Prop:=∀{F:YP->Prop}{H:Hp}{p:YP}{b:B}{φ:YP->Prop}{d:D}{v:V}{dx:YP}{fs:List (Str × V)}{c:YP}{vs:List V},k.At F H p b φ->(∀ a,F a->H a≠none)->aM K F H d v->H p=some (.ins C dx fs)->fs.lookup f=some (.ref c)->H c=some (.lst vs)->k.At F (aJ H c (.lst (vs++[v]))) p (e b d) φ
def cT(l:List (List Int × YP)):List cR:=l.map fun p=>(.inl p.1,p.2,.bl true)
def iB(l:List (List Int × YP)):List (List Int × YP × JS):=l.map fun p=>(p.1,p.2,.bool true)
structure Td(K:PySem.W.Frag)(H:Hp)(a:YP)(l:List (List Int × YP))(ep:Nat):Prop where
 at_:H a=some (bO a (cT l) ep)
 ky:∀ p∈l,bJ K H p.2 (p.1.map V.int)
 nd:(l.map (·.1)).Nodup
 ln:l.length<=1000
def A3{K:PySem.W.Frag}{B:Type}(k:bS K B)(C:YP)(f:Str)(get:B->List (List Int)):Prop:=∀{F:YP->Prop}{H:Hp}{p:YP}{b:B}{φ:YP->Prop},k.At F H p b φ->∃ dx fs a l ep,H p=some (.ins C dx fs)/\fs.lookup f=some (.ref a)/\φ a/\¬ F a/\Td K H a l ep/\l.map (·.1)=get b
def En{K:PySem.W.Frag}{B:Type}(k:bS K B)(C:YP)(f:Str)(c:B->List (List Int)->B):Prop:=∀{F:YP->Prop}{H:Hp}{p:YP}{b:B}{φ:YP->Prop}{dx:YP}{fs:List (Str × V)}{a:YP}{l l':List (List Int × YP)}{ep ep':Nat},k.At F H p b φ->(∀ a,F a->H a≠none)->H p=some (.ins C dx fs)->fs.lookup f=some (.ref a)->Td K H a l ep->
 (∀ p∈l',bJ K H p.2 (p.1.map V.int))->(l'.map (·.1)).Nodup->l'.length<=1000->k.At F (aJ H a (bO a (cT l') ep')) p (c b (l'.map (·.1))) φ
theorem Td.stay{K:PySem.W.Frag}{F d:YP->Prop}{H b:Hp}{a:YP}{l:List (List Int × YP)}{ep:Nat}(h:Td K H a l ep)(T:bA K F d H b)(s:b a=some (bO a (cT l) ep)):Td K b a l ep:=⟨s,fun p c=>T.tp _ _ (h.ky p c),h.nd,h.ln⟩
section
variable {X:Cx}{pins:List (YP × Obj)}{σ:L2.St}{H:Hp}{s:JT}
theorem KZ(I:L2.Inv X pins σ H s)(h:Td X.K H a l ep):(a == Zp)=false/\s.heap.DictOfH (fD X.prog X.w) a (iB l):=by
 obtain⟨⟨i,o,c,y,v,u,n⟩,_⟩:=(show dS X.prog X.w H s.heap a (bO a (cT l) ep)from I.hok a _ h.at_)
 have mk:∀{l:List (List Int × YP)}{r:List ZM},Paired (fun(e:dP × YP × V) (r:ZM)=>r.hash=Az e.1/\r.key=.ref e.2.1/\RelV e.2.2 r.val) (cT l) r->r=(iB l).map (entryOfKey (fD X.prog X.w)):=by
  intro l
  induction l with
  | nil=>intro r q;cases q;rfl
  | cons p l j=>
   intro r q
   cases q with
   | @cons _ x _ xs z t=>
    rw [j t];obtain⟨f,d,b⟩:=z;obtain⟨B,A,g⟩:=x;have b:g=U3 true:=b;dsimp only at f d;subst f d b;rfl
 refine⟨i,o,c,ep,y,v,u,mk n,fun x k=>?_,?_⟩
 ·obtain⟨p,m,rfl⟩:=QO.mp k;exact iY I (h.ky p m)
 ·unfold iB;rw [Q3];exact h.nd
theorem Xn{P:JY}{w:J1}{h:Heap}{a:YP}{l:List (List Int × YP)}(c:(a == Zp)=false)(d:h.DictOfH (fD P w) a (iB l)):∃ ep,dS P w H h a (bO a (cT l) ep):=by
 obtain⟨o,b,ep,e,i,g,f,n,m⟩:=d;clear n m
 refine⟨ep,⟨c,o,b,e,i,g,?_⟩,⟨o,e⟩,fun r q ⟨c,o,b,t,s⟩ k=>⟨c,o,b,k _ t,s⟩⟩
 rw [f];clear e i g f
 induction l with
 | nil=>exact .nil
 | cons p l j=>exact .cons ⟨rfl,rfl,rfl⟩ j
end
section
variable {P:JY}{w:J1}{κ:Type}[DecidableEq κ]{knd:HeapKind P w κ}{A:Around}{E:JS->JT->Prop}{s:JT}{d o:YP}{xs ys:List (κ × YP × JS)}
theorem zSx(q:knd.room A)(b:knd.is s.heap k a)(t:s.heap.DictOfH knd d xs)(n:k∉xs.map (·.1))(hsz:xs.length<=sizeLine)
  (B:∀ h',h'.DictOfH knd d (xs++[(k,a,v)])->Zi d s.heap h'->Q () { s with heap:=h' }):JW (JX P w) A (dictSetHashed d (.ref a) (knd.hash k) v) Q E s:=by
 obtain⟨H,I,F,h,z,g,l,i,m⟩:=t;unfold dictSetHashed
 try with_reducible refine Q6 ?_
 refine Qa (wpAny_dictFind_heap q b h g l i m ?_ fun j p u=>absurd (JI (f:=(·.1)) (QD u)) n);intro r;refine Qa (UK (wpAny_updateDictKeys (hz:=by have e:=size_of_entries l;lia) h g (B _ ⟨_,_,F+1,Q1 _ h (Obj.isFreed_of_dict (Obj.data_mapDictKeys g _)),z.mapDictKeys _,Obj.data_mapDictKeys g _,?_,?_,?_⟩ (QZ ..))))
 ·simp [l,entryOfKey]
 ·intro x c;rcases QE.mp c with c | c
  ·exact knd.keeps (i x c) h g (QZ ..)
  ·rw [Qy.mp c];exact knd.keeps b h g (QZ ..)
 ·rw [QX,YJ]
  exact⟨m,by simp,fun x c y o e=>n (by have G:y=k:=Qy.mp o;rw [<- G,<- e];exact c)⟩
theorem Wb(hu:knd.room A)(u:d≠o)(T:(o == Zp)=false)(hd:s.heap.DictOfH knd d xs)(ho:s.heap.DictOfH knd o ys)(h0:xs≠[])(hn:((xs++ys).map (·.1)).Nodup)(hsz:xs.length+ys.length<=sizeLine)
  (hQ:∀ h',h'.DictOfH knd d (xs++ys)->Zi d s.heap h'->Q () { s with heap:=h' }):JW (JX P w) A (Builtin.Dict.mergeDict nm d o) Q E s:=by
 obtain⟨od,N,a7,z,a5,J,Y,a1,a3⟩:=id hd;obtain⟨oo,a,a6,j,a4,c,H,G,a2⟩:=id ho;have y:N.size=xs.length:=size_of_entries Y;have S:a.size=ys.length:=size_of_entries H;unfold Builtin.Dict.mergeDict;rw [if_neg (by simpa using u)];unfold UH;rw [if_neg (by rw [T];exact Qv)];refine Qa (Qb ?_);refine Qa (YU j c ?_)
 have m:JW (JX P w) A (do
   let v <- dictEpoch o
   let l <- dictEntries o
   forIn [:l.size] PUnit.unit fun i (_:PUnit)=>(do
     let l' <- dictEntries o
     match l'[i]? with
      | some e=>do
       Uh [e.key,e.val] (dictSetHashed d e.key e.hash e.val)
       let a0 <- dictEpoch o
       if(a0 != v)=true then do
         (unsupported (toString nm++toString ":source-changed-during-callback"):Sem PUnit)
         pure (ZF PUnit.unit)
        else pure (ZF PUnit.unit)
      | _=>do
       (unsupported "internal:dict-merge":Sem PUnit)
       pure (ZF PUnit.unit):Sem (ForInStep PUnit))
   pure ()) Q E s:=by
  refine Qa (JP j c ?_);refine Qa (YU j c ?_);refine Qa ?_;rw [Std.Legacy.Range.forIn_eq_forIn_range'];simp only [Std.Legacy.Range.size,Nat.sub_zero,Nat.add_sub_cancel,Nat.div_one]
  refine Y3 _
   (fun f _ O=>∃ h' i,O={ s with heap:=h' }/\f=List.range' i (a.size-i)/\i<=a.size/\h'.DictOfH knd d (xs++ys.take i)/\Zi d s.heap h')
   _ ?_ ?_ _ _ ⟨s.heap,0,rfl,by simp,QR _,by simpa using hd,JA _ _⟩
  ·rintro x f b O ⟨h',i,rfl,r,hi,k,g⟩
   have W:i<a.size:=by
    rcases JE i a.size with h | h
    ·exact h
    ·rw [Nat.sub_eq_zero_of_le h]at r;simp at r
   obtain⟨rfl,q⟩:x=i/\f=List.range' (i+1) (a.size-(i+1)):=by
    have e:a.size-i=(a.size-(i+1))+1:=by lia
    rw [e,List.range'_succ]at r
    injection r with Z h2
    exact⟨Z,h2⟩
   have p:h'.get? o=some oo:=(g.2 o (ZI u)).trans j
   have B:x<ys.length:=by lia
   have gy:ys[x]?=some ys[x]:=Qi B
   have ge:a[x]?=some (entryOfKey knd ys[x]):=by rw [entry_at H x,gy];rfl
   refine Qa (YU p c ?_);rw [ge];have F:knd.is h' ys[x].1 ys[x].2.1:=knd.keeps (G _ (Ys B)) z J g
   have tk:ys.take (x+1)=ys.take x++[ys[x]]:=by rw [List.take_succ,gy];rfl
   have U:ys[x].1∉(xs++ys.take x).map (·.1):=fun hm=>by
    have e2:((xs++ys.take (x+1)).map (·.1)).Nodup:=by
     refine hn.sublist (List.Sublist.map _ (List.Sublist.append (List.Sublist.refl _) (Ut _ _)))
    rw [tk,<- Qw,QX,YJ]at e2;exact e2.2.2 _ hm ys[x].1 (by simp) rfl
   show JW _ _ (Uh [J2 ys[x].2.1,ys[x].2.2] (dictSetHashed d (.ref ys[x].2.1) (knd.hash ys[x].1) ys[x].2.2) >>= _) _ _ _
   refine Qa (Q6 (zSx (s:={ s with heap:=h' }) hu F k U (by rw [Qm,Q2];lia) fun M K n=>?_));have t:M.get? o=some oo:=(n.2 o (ZI u)).trans p;refine Qa (JP t c ?_);rw [if_neg (by simp)];refine Qb ⟨M,x+1,rfl,q,W,?_,g.trans n⟩;rw [tk,<- Qw];exact K
  ·rintro b O ⟨h',i,rfl,r,hi,k,g⟩
   have X:i=a.size:=by
    rcases JE i a.size with h | h
    ·have e:a.size-i=(a.size-(i+1))+1:=by lia
     rw [e,List.range'_succ]at r;exact nomatch r
    ·exact Jb hi h
   rw [X,S,List.take_length]at k;exact Qb (hQ h' k g)
 dsimp only;split
 ·refine Qa (YU z J ?_);split
  ·rename_i I;have Z:N=#[]:=Array.isEmpty_iff.mp I;rw [Z]at y;exact absurd (List.length_eq_zero_iff.mp y.symm) h0
  ·exact m
 ·exact m
theorem zTo(i:∀ B:Around,B.units<=A.units+2->knd.room B)(e:d≠o)(c:(o == Zp)=false)(g:s.heap.DictOfH knd d xs)(a:s.heap.DictOfH knd o ys)(k:xs≠[])(j:((xs++ys).map (·.1)).Nodup)(hsz:xs.length+ys.length<=sizeLine)
  (h:∀ h',h'.DictOfH knd d (xs++ys)->Zi d s.heap h'->Q .none { s with heap:=h' }):JW (JX P w) A (call (.builtin "dict.update") [.ref d,.ref o]) Q E s:=by
 refine Yi PySem.F.slot_dict_update g.typeIs PySem.F.entry_dict_update ?_ (PySem.F.args_dict_update_2 _ _);unfold Builtin.«dict.update»;refine Qa ?_;unfold Builtin.Dict.selfAndRest;refine Qa (UF g.typeIs ?_)
 show JW _ _ (pure (d,[J2 o])) _ _ s
 refine Qb ?_
 show JW _ _ (ZV "dict.update" d (.ref o) [] .none) _ _ s
 unfold ZV;refine Qa (YO a.typeIs ?_);rw [if_neg (by decide)];refine Qa ?_;unfold Builtin.Dict.merge;refine Qa ?_;unfold Builtin.Dict.readDirectly;refine Qa (Jo a.typeIs isSubtype_dict_dict ?_);simp only [Yy,Qp,if_false];refine Qa (Jx a.typeIs PySem.F.slot_dict_iter.lookup (Qb ?_));simp only [beq_self_eq_true,if_true];refine Qa (Qb ?_);refine Wb (i _ (by first | (show A.units+1<=_;lia) | (show A.units<=_;lia) | (show A.units+2<=_;lia))) e c g a k j hsz fun h' f b=>?_
 show JW _ _ (Builtin.Dict.addKeywords d [] >>= _) _ _ _
 exact Qa (Qb (Qb ⟨.none,rfl,h h' f b⟩))
end
end OB
namespace KP
open PySem.Spec L2 DL DC ST SL
section
variable {X:Cx}
end
end KP
namespace OB
open PySem.Spec L2 CL DL SD DC TB ST SL EL KP
def NW(K:PySem.W.Frag):V->List V->Hp->VK->Prop:=fun x b H Q=>∃(a o:YP) (l m:List (List Int × YP)) (ep ep2:Nat),x=.ref a/\b=[.ref o]/\a≠o/\Td K H a l ep/\Td K H o m ep2/\l≠[]/\((l++m).map (·.1)).Nodup/\(l++m).length<=1000/\∀ ep',Q .non (aJ H a (bO a (cT (l++m)) ep'))
theorem Vo(hu:X.A.units+65<Zg):o6 X "dict.update" (NW X.K):=fun d s n H x xs v us Q I t y p=>by
 obtain⟨a,o,l,m,ep,W,U,h,F,j,J,S,M,N,q⟩:=p;subst U h;cases t;obtain⟨u,rfl,E⟩:=jQ y;cases E;obtain⟨G,dd⟩:=KZ I j;obtain⟨g,i⟩:=KZ I J
 have k:iB l++iB m=iB (l++m):=by unfold iB;rw [QX]
 have Z:(iB (l++m)).map (·.1)=(l++m).map (·.1):=by unfold iB;rw [Q3];rfl
 have Y:(iB l).length+(iB m).length=(l++m).length:=by unfold iB;rw [Qd,Qd,Qm]
 refine zTo (knd:=fD X.prog X.w) (fun B hB=>show B.units<Zg by lia) F g dd i (fun z=>S (List.map_eq_nil_iff.mp z)) (by rw [k,Z];exact M) (by rw [Y];exact Qr N (by rw [QW];lia)) fun T b r=>?_;rw [k]at b;obtain⟨f,oo⟩:=Xn (H:=H) G b;have I4:L2.Inv X d n (aJ H a (bO a (cT (l++m)) f)) { s with heap:=T }:=I.write (x:=a) (e:=a) (t':=s.toks) (by rw [j.at_];exact Uk) (.inl rfl) (fun c ob O z=>(r.2 c O).trans z) (let⟨o2,_,_,hq,_⟩:=b;⟨o2,hq⟩) oo
 exact⟨.non,_,I4,rfl,q f⟩
def mP:List (D × D)->Option (List (List Int))
 | []=>some []
 | (k,v)::r=>(cS k).bind fun a=>(eJ v).bind fun b=>if b=true then(mP r).bind fun l=>some (a::l)else none
theorem Hq{K:PySem.W.Frag}{F:YP->Prop}{H:Hp}:∀{kvs:List (D × D)}{es:List cR}{ks:List (List Int)},DReps K F H kvs es->mP kvs=some ks->∃ m:List (List Int × YP),es=cT m/\m.map (·.1)=ks/\∀ p∈m,bJ K H p.2 (p.1.map V.int):=by
 intro kvs
 induction kvs with
 | nil=>intro es ks r h;cases r;cases h;exact⟨[],rfl,rfl,fun _ h=>nomatch h⟩
 | cons t kvs g=>
  intro es ks r h
  cases r with
  | @cons k b d v _ es hk hr r=>
   obtain⟨k1,q,h⟩:=aE h;obtain⟨s,o,h⟩:=aE h
   cases s with
   | false=>cases h
   | true=>
    obtain⟨l,n,h⟩:=aE h;cases h;obtain⟨m,f,e,c⟩:=g r n;have j:k=.inl k1:=(v3 hk).mp q;subst j;have i:=lE hr o;subst i
    refine⟨(k1,b)::m,by rw [f];rfl,by rw [Qk,e],fun p a=>?_⟩
    rcases Ql.mp a with rfl | a
    ·exact hk
    ·exact c p a
section
variable {B:Type}
def Lj(j:Nat)(get:B->List D)(e:B->D->B)(ge:aA->Option D):GS B:=fun a c=>(ge a).bind fun d=>(c[j]?).bind fun b=>if(get b).length<1000 then some (.nx a (c.set j (e b d)))else none
def CJ(j:Nat)(get:B->List (List Int))(g:B->List (List Int)->B)(ge:aA->Option D):GS B:=fun e f=>(ge e).bind fun d=>match d with
 | .dict a=>(mP a).bind fun c=>(f[j]?).bind fun b=>if get b≠[]/\(get b++c).Nodup/\(get b++c).length<=1000 then some (.nx e (f.set j (g b (get b++c))))else none
 | _=>none
def Kw(j:Nat)(get:B->List D):GX B D:=fun _ a=>(a[j]?).bind fun b=>some (.list (get b),a)
def Kx(j:Nat)(get:B->List (List Int)):GX B D:=fun _ a=>(a[j]?).bind fun b=>(k6 [.list ((get b).map fun k=>jE (.inl k))]).bind fun d=>some (d,a)
end
section
variable {X:Cx}{B:Type}{k:bS X.K B}{τ:List (Nat × Nat)}{e:Expr}{ge:aA->Option D}{pos p ap:Pos}{i j:Nat}{x f:Str}{C:YP}(mm:(i,j)∈τ)(cl:fZ X.K C)(nf:i3 X.K C f)(hN:X.N[i]?=some x)(hv:gG X.env.scope x)(hd:(x == ("__debug__":Str))=false)(hcd:(x == ("__classdict__":Str))=false)(hb:Zo (.Name x p) f X.env (Za (.Name x p) X.env)=Za (.Name x p) X.env)
include mm cl nf hN hv hd hcd hb
theorem zTG{get:B->List D}{U:B->D->B}{E n:Pos}(gl:A5 k C f get)(g:EM k C f U)(he:DE X e ge)(hs:JU [e] X.env=(false,Za e X.env)::JU [] X.env)(N:Zo (.Attribute (.Name x p) f ap) "append" X.env (Za (.Attribute (.Name x p) f ap) X.env)=Za (.Attribute (.Name x p) f ap) X.env)
  (u:((Zb n (JU [e] X.env)).all (fun x => !x.1) && (ZU n (Zz [] X.env)).all (fun x=>x.1.isSome) && decide ([e].length+([]:List ZJ).length+(if([]:List ZJ).isEmpty then 0 else 1)<30))=true)
  (hl:(E.endLine == n.line)=true) (hp:(Zb n (JU [] X.env)).any (·.1)=false) (G:ZC (.Call (.Attribute (.Attribute (.Name x p) f ap) "append" E) [e] [] n) none pos.line X.env=pure false):
  XS k τ (.Expr (.Call (.Attribute (.Attribute (.Name x p) f ap) "append" E) [e] [] n) pos) (Lj j get U ge):=
 ps_mono (sY (p9 PySem.F.plainAttrs_list PySem.F.slot_list_append PySem.F.type_list_append Cg (qA (pe_var hN hv hd hcd) hb) (eF he fQ hs) N u hl hs hp) G) fun W σ H zz=>by
  obtain⟨A,a0,z,F,ρ,Ω,os,o,K0,S,q,c⟩:=zz;obtain⟨d,e1,q⟩:=aE q;obtain⟨b,Z,q⟩:=aE q;by_cases l:(get b).length<1000
  ·rw [if_pos l]at q;cases q;obtain⟨o,M,at0⟩:=iI S.o.at_ Z;obtain⟨dx,fs,c0,T,s,t,r,a1,w,I⟩:=gl at0
   refine⟨_,S.hd i j mm o M,o.1,C,dx,fs,_,rfl,s,cl,nf,t,.inl ⟨rfl,_,bY.of w⟩,F,z,ρ,d,S.S,e1,fun Q H1 v E1 R1=>?_⟩
   have S1:=S.ext E1;obtain⟨b1,Y,y⟩:=lD S1.o.at_ M;rw [Z]at Y;cases Y;have J:=E1.same _ _ s;have m:=E1.same _ _ w;have O:=g y S1.S.fz R1 J t m;have kp:cK X.K o.2 Q Q H1 (aJ H1 c0 (.lst (T++[v]))):=oQ S1.S.fz m yE.1 yE.2 ((k.own y).2 _ r).2 r;obtain⟨S2,K2⟩:=S1.turn M kp (fun a h=>.inl h) O
   exact⟨c0,T,v,rfl,rfl,m,qH (by rw [<- I.length];lia),c Q _ σ _ (K0.trans ((aY.ext S.S.fz E1).trans K2)) (E1.stay.trans K2.k.st) S2⟩
  ·rw [if_neg l]at q;cases q
theorem zTL{get:B->List (List Int)}{up:B->List (List Int)->B}{Z t:Pos}(hu:X.A.units+65<Zg)(gl:A3 k C f get)(g:En k C f up)(he:DE X e ge)(hs:JU [e] X.env=(false,Za e X.env)::JU [] X.env)(a5:Zo (.Attribute (.Name x p) f ap) "update" X.env (Za (.Attribute (.Name x p) f ap) X.env)=Za (.Attribute (.Name x p) f ap) X.env)
  (G:((Zb t (JU [e] X.env)).all (fun x => !x.1) && (ZU t (Zz [] X.env)).all (fun x=>x.1.isSome) && decide ([e].length+([]:List ZJ).length+(if([]:List ZJ).isEmpty then 0 else 1)<30))=true)
  (hl:(Z.endLine == t.line)=true) (r:(Zb t (JU [] X.env)).any (·.1)=false) (a0:ZC (.Call (.Attribute (.Attribute (.Name x p) f ap) "update" Z) [e] [] t) none pos.line X.env=pure false):
  XS k τ (.Expr (.Call (.Attribute (.Attribute (.Name x p) f ap) "update" Z) [e] [] t) pos) (CJ j get up ge):=
 ps_mono (sY (Xf PySem.F.slot_dict_update PySem.F.type_dict_update (Vo hu) (qA (pe_var hN hv hd hcd) hb) (eF he fQ hs) a5 G hl hs r) a0) fun W σ H zz=>by
  obtain⟨Y,a6,N,F,ρ,Ω,os,o,K0,S,q,c⟩:=zz;obtain⟨d,e1,q⟩:=aE q
  split at q
  ·rename_i a7;obtain⟨ks,e2,q⟩:=aE q;obtain⟨b,e3,q⟩:=aE q;by_cases hk:get b≠[]/\(get b++ks).Nodup/\(get b++ks).length<=1000
   ·rw [if_pos hk]at q;cases q;obtain⟨h0,s,a4⟩:=hk;obtain⟨o,hj,at0⟩:=iI S.o.at_ e3;obtain⟨dx,fs,a,l,ep,y,E,u,a3,O,el⟩:=gl at0
    refine⟨_,S.hd i j mm o hj,o.1,C,dx,fs,_,rfl,y,cl,nf,E,⟨a,_,ep,rfl,O.at_⟩,F,N,ρ,_,S.S,e1,fun F1 T v E1 R1=>?_⟩
    have S1:=S.ext E1;obtain⟨b1,e4,M⟩:=lD S1.o.at_ hj;rw [e3]at e4;cases e4;have a1:=E1.same _ _ y;have n:Td X.K T a l ep:=O.stay E1.stay (E1.same _ _ O.at_)
    cases R1 with
    | @dct a2 es _ ep2 fa2 ha2 nd2 ln2 r2=>
     obtain⟨m,rfl,q2,q3⟩:=Hq r2 e2
     have ne:a≠a2:=fun z=>by
      subst z;rcases E1.new _ fa2 with w | ⟨w,_⟩
      ·exact a3 w
      ·rw [O.at_]at w;cases w
     have n2:(m.map (·.1)).Nodup:=by
      rw [q2]
      exact(YJ.mp s).2.1
     have U:Td X.K T a2 m ep2:=⟨ha2,q3,n2,by simpa [cT]using ln2⟩
     have Q:(l++m).map (·.1)=get b++ks:=by rw [QX,el,q2]
     have I:(l++m).length<=1000:=by rw [<- Qd (f:=(·.1)),Q];exact a4
     have l0:l≠[]:=fun z=>h0 (by rw [<- el,z];rfl)
     refine⟨a,a2,l,m,ep,ep2,rfl,rfl,ne,n,U,l0,by rw [Q];exact s,I,fun ep'=>?_⟩
     have J:=g (ep':=ep') (l':=l++m) M S1.S.fz a1 E n (fun p r=>by
      rcases QE.mp r with r | r
      ·exact n.ky p r
      ·exact q3 p r) (by rw [Q];exact s) I
     rw [Q]at J;have kp:cK X.K o.2 F1 F1 T (aJ T a (bO a (cT (l++m)) ep')):=oQ S1.S.fz n.at_ yD.1 yD.2 ((k.own M).2 _ u).2 u;obtain⟨S2,K2⟩:=S1.turn hj kp (fun a h=>.inl h) J;exact c F1 _ σ _ (K0.trans ((aY.ext S.S.fz E1).trans K2)) (E1.stay.trans K2.k.st) S2
    | exn _ _ _=>cases e2
   ·rw [if_neg hk]at q;cases q
  ·cases q
theorem zTA{get:B->List D}{A t:Pos}(K:A5 k C f get)(n:Gl X "list")(g:X.mg "list"=none)(s:JU [.Attribute (.Name x p) f ap] X.env=(false,Za (.Attribute (.Name x p) f ap) X.env)::JU [] X.env)(J:(Zb t (JU [] X.env)).any (·.1)=false):
  XE k τ (.Call (.Name "list" A) [.Attribute (.Name x p) f ap] [] t) (Kw j get):=
 bT (sV O9 n g boot_list (eF (qA (pe_var hN hv hd hcd) hb) fQ s) (by decide) (by decide) s J) fun T H Q w=>by
  obtain⟨F,u,U,W,z,d,v,S,q,c⟩:=w;obtain⟨b,M,q⟩:=aE q;cases q;obtain⟨o,I,at0⟩:=iI S.o.at_ M;obtain⟨N,fs,O,y,e,h,E,G,r,a⟩:=K at0
  refine⟨_,S.hd i j mm o I,o.1,C,N,fs,_,rfl,e,cl,nf,h,O,y,rfl,.inl (bY.of r),fun l m=>?_⟩
  exact c _ _ _ z (aY.ext S.S.fz (aH.frozen m)) (S.ext (aH.frozen m)) (aM.newLst m a)
theorem zTB{get:B->List (List Int)}{sp r n:Pos}(gl:A3 k C f get)(hc:X.calm=true)(t:X.A.units+66<Zg)(G:Gl X "sorted")(w:X.mg "sorted"=none)(I:Gl X "list")(z:X.mg "list"=none)
  (M:JU [.Call (.Name "list" r) [.Attribute (.Name x p) f ap] [] n] X.env=(false,Za (.Call (.Name "list" r) [.Attribute (.Name x p) f ap] [] n) X.env)::JU [] X.env) (J:JU [.Attribute (.Name x p) f ap] X.env=(false,Za (.Attribute (.Name x p) f ap) X.env)::JU [] X.env)
  (h3:(Zb pos (JU [] X.env)).any (·.1)=false) (h4:(Zb n (JU [] X.env)).any (·.1)=false):
  XE k τ (.Call (.Name "sorted" sp) [.Call (.Name "list" r) [.Attribute (.Name x p) f ap] [] n] [] pos) (Kx j get):=
 bT (BD (EJ t) G w Vf (eF (sV (O8 hc) I z boot_list (eF (qA (pe_var hN hv hd hcd) hb) fQ J) (by decide) (by decide) J h4) fQ M) (by decide) (by decide) M h3) fun σ H Q W=>by
  obtain⟨F,O,ρ,Ω,Z,d,U,S,q,c⟩:=W;obtain⟨b,e1,q⟩:=aE q;obtain⟨d',e2,q⟩:=aE q;cases q;obtain⟨o,hj,at0⟩:=iI S.o.at_ e1;obtain⟨dx,fs,a,l,ep,u,E,a0,a1,m,N⟩:=gl at0
  refine⟨_,S.hd i j mm o hj,o.1,C,dx,fs,_,rfl,u,cl,nf,E,a,_,ep,rfl,m.at_,by unfold cT;rw [Qd];exact m.ln,fun g h=>?_⟩
  have E1:aH F (fun y=>F y ∨ y=g) H (aJ H g (.lst ((cT l).map fun e=>V.ref e.2.1))):=aH.frozen h
  have Y:Reps X.K (fun y=>F y ∨ y=g) (aJ H g (.lst ((cT l).map fun e=>V.ref e.2.1))) ((get b).map fun k=>jE (.inl k)) ((cT l).map fun e=>V.ref e.2.1):=by
   rw [<- N];have s:=fun p h=>(E1.stay (K:=X.K)).tp _ _ (m.ky p h);generalize aJ H g (.lst ((cT l).map fun e=>V.ref e.2.1))=HH at s ⊢;clear N m E1 h
   induction l with
   | nil=>exact .nil
   | cons q l ih=>exact .cons (HZ (k:=.inl q.1) (s q Qh)) (ih fun p h=>s p (Qg _ h))
  refine⟨fun y=>F y ∨ y=g,_,d,E1.fz S.S.fz,.cons (.lst (.inl ⟨.inr rfl,.inl cN⟩) Y) .nil,e2,fun F2 H2 v T R2=>?_⟩
  exact c F2 H2 v Z (aY.ext S.S.fz (E1.trans T)) (S.ext (E1.trans T)) R2
end
end OB
namespace OB
open PySem.Spec L2 CL DL SD DC TB ST SL EL KP
section
variable {B:Type}
def kH(gi:GX B (List D))(i:Nat)(t:GX B Bool)(ge:aA->Option D)(inner:List (Option Nat)):GX B D:=fun a b=>(gi a b).bind fun x=>(pO i t ge x.1 (fV inner a) x.2).bind fun r=>if r.1.length<=1000/\r.2.length=x.2.length then some (.list r.1,r.2)else none
end
section
variable {X:Cx}{B:Type}{k:bS X.K B}{τ τ':List (Nat × Nat)}{c elt iter:Expr}{scope:ZY}{N':List Str}{inner:List (Option Nat)}{gi:GX B (List D)}{t:GX B Bool}{ge:aA->Option D}{n:Nat}{x:Str}{p pos:Pos}
theorem Ky(a3:∀ ij,ij∈τ'->(∃ q,q∈τ/\inner[ij.1]?=some (some q.1)/\q.2=ij.2)/\ij.1≠n)(q:jB k τ (kH gi n t ge inner) σ H Q):oX (uZ k τ gi) (gY n) (lO k τ' t) (tD X.K ge) inner σ H Q:=by
 obtain⟨F,a7,ρ,Ω,os,d,N,S,q,cc⟩:=q;obtain⟨⟨l,Ωa⟩,e1,q⟩:=aE q;obtain⟨⟨r,Ω1⟩,e2,q⟩:=aE q;have q:(if r.length<=1000/\Ω1.length=Ωa.length then some (ZD r,Ω1)else none)=some (d,N):=q;by_cases hl:r.length<=1000/\Ω1.length=Ωa.length
 ·rw [if_pos hl]at q;cases q
  refine⟨F,a7,ρ,Ω,os,l,Ωa,S,e1,fun G g J s K1 S1 I1 D' W=>?_⟩
  have key:oX (fun σ H R=>∀ J',kL X.K G g l J'->H=g->R J' g) (gY n) (lO k τ' t) (tD X.K ge) inner σ g Q:=by
   intro J' I' _ D' W
   refine⟨fun i m I H'=>∃ Z w c B O M os2,LO X k τ' n t ge l r N s G g D' i m I H' Z w c B O M os2,?_,?_⟩
   ·have E2:aH G G g (aJ g D' (.lst [])):=aH.fresh W
    exact⟨l.length,G,fV inner ρ,[],[],r,Ωa,s,rfl,QR _,aY.ext S1.S.fz E2,(S1.ext E2).inner inner (fun ij h=>let⟨q,h1,h2,h3⟩:=(a3 ij h).1;⟨q.1,h2,by rw [<- h3];exact h1⟩) (fun a h=>E2.same.free h),mU inner ρ,cN,fun f=>S1.S.fz _ f W,fun f=>(S1.o.live f).1 W,.nil,e2,rfl⟩
   ·rintro i m I H' ⟨Z,w,c,B,O,M,os2,rfl,hi,K2,S2,pl,dD,nf,nt,rd,e,eo⟩;obtain⟨b1,b0⟩:=I' Z H' K2.k.st S2.S.fz i;by_cases v:i<l.length
    ·right
     have a4:l[i]?=some l[i]:=by simp [v]
     obtain⟨go,a8⟩:=b1 _ a4;rw [Q0 v]at e;obtain⟨⟨b,A⟩,e4,e⟩:=aE e
     refine⟨go,fun x H3 y=>?_⟩
     obtain⟨F3,E3,R3⟩:=a8 x H3 y;have p:i4 (w.set n (.dat l[i])):=BI pl;have S3:=(S2.ext E3).put (i:=n) (fun ij h=>(a3 ij h).2) R3
     refine⟨F3,g,_,M,os2,b,A,S3,e4,fun F6 H6 os6 K6 S6=>?_⟩
     have d3:H3 D'=some (.lst c):=E3.same _ _ dD
     have a9:¬ F3 D':=fun f=>by
      rcases E3.new _ f with f | ⟨f,_⟩
      ·exact nf f
      ·rw [dD]at f;cases f
     have d6:H6 D'=some (.lst c):=K6.k.out _ _ d3 nt
     have a1:¬ F6 D':=fun f=>by
      rcases K6.k.new _ f with f | f
      ·exact a9 f
      ·rw [d3]at f;cases f
     have T:¬ eL os6 D':=fun f=>by
      rcases K6.ft _ f with f | f
      ·exact nt f
      ·rw [d3]at f;cases f
     have KK:aY X.K s os6 G F6 g H6:=K2.trans ((aY.ext S2.S.fz E3).trans K6);have a0:=(rd.stay E3.stay).stay K6.k.st
     cases b with
     | false=>
      simp only [Qp,if_false]at e ⊢
      exact⟨l.length-(i+1),by lia,F6,_,c,B,O,A,os6,rfl,v,KK,S6,p,d6,a1,T,a0,e,eo⟩
     | true=>
      simp only [if_true]at e ⊢;obtain⟨yd,e5,e⟩:=aE e;obtain⟨r',e6,e⟩:=aE e;cases e
      refine⟨F6,g,_,yd,S6.S,e5,fun Y E yv E7 R7=>?_⟩
      have d7:E D'=some (.lst c):=E7.same _ _ d6
      have U:¬ Y D':=fun f=>by
       rcases E7.new _ f with f | ⟨f,_⟩
       ·exact a1 f
       ·rw [d6]at f;cases f
      have S7:=S6.ext E7;have T8:bA X.K Y Y E (aJ E D' (.lst (c++[yv]))):=Bt d7 U;have K7:=KK.trans (aY.ext S6.S.fz E7)
      have a6:∀ a,Y a->aJ E D' (.lst (c++[yv])) a≠none:=fun a f=>by rw [aV (fun z=>U (by rw [<- z];exact f))];exact S7.S.fz a f
      have a2:∀ a,aJ E D' (.lst (c++[yv])) a=none->E a=none:=fun a h=>by
       by_cases z:a=D'
       ·subst z;rw [cN]at h;cases h
       ·rwa [aV z]at h
      have K8:aY X.K s os6 G Y g (aJ E D' (.lst (c++[yv]))):=⟨⟨K7.k.st.trans T8,fun a u h nn=>by rw [aV (fun z=>by rw [z,W]at h;cases h)];exact K7.k.out a u h nn,K7.k.new,a6,fun a h=>K7.k.lv a (a2 a h)⟩,K7.ft,K7.ad⟩
      have S8:SO k τ' Y (aJ E D' (.lst (c++[yv]))) g (I.set n (some x)) (w.set n (.dat l[i])) A os6:=
       ⟨S7.S.plain p T8 a6,S7.o.keep T8 (fun a u f h=>by rw [aV (fun z=>T (by rw [<- z];exact f))];exact h) (fun a f=>(S7.o.live f).2),fun a h=>(BH p h).elim,fun j b2 z=>p j _ rfl z,S7.hd,fun a h=>S7.lo a (a2 a h)⟩
      have ll:c.length<1000:=by
       have h1:=rd.length;have h2:=congrArg ZO eo;rw [Qm,Qo]at h2;lia
      exact⟨c,d7,qH (Yr ll),l.length-(i+1),by lia,Y,_,c++[yv],B++[yd],r'.1,A,os6,rfl,v,K8,S8,p,cN,U,T,((a0.stay E7.stay).append (.cons R7 .nil)).stay T8,e6,by rw [Qw];exact eo⟩
    ·left
     have a5:l.length<=i:=Ya v
     refine⟨b0 a5,?_⟩
     rw [YH a5]at e;cases e;rw [QG]at eo;subst eo;have K3:=K2;have T9:bA X.K Z (fun a=>Z a ∨ a=D') H' H':=⟨fun _ f=>.inl f,fun _ _ f=>f,fun _ _ _ f=>f,fun _ _ _ f=>f⟩;have K4:aY X.K s os2 G (fun a=>Z a ∨ a=D') g H':=⟨⟨K3.k.st.trans T9,K3.k.out,fun a f=>f.elim (K3.k.new a) fun z=>.inr (z ▸ W),fun a f=>f.elim (K3.k.fz a) fun z=>by rw [z,dD];simp,K3.k.lv⟩,K3.ft,K3.ad⟩;have O4:Os k (fun a=>Z a ∨ a=D') H' N os2:=S2.o.keep T9 (fun _ _ _ h=>h) fun a f z=>z.elim (S2.o.live f).2 fun z=>nt (z ▸ f);refine cc _ H' _ os2 (K1.trans K4) (S1.keeps K4 O4 ?_) (.lst (.inl ⟨.inr rfl,.inl dD⟩) (rd.stay T9));rw [<- kF S2.o.at_,<- kF S1.o.at_];exact hl.2
  exact key J I1 rfl D' W
 ·rw [if_neg hl]at q;cases q
theorem IR(f:X.calm=true)(h:kX X N' scope inner)(a:∀ ij,ij∈τ'->(∃ q,q∈τ/\inner[ij.1]?=some (some q.1)/\q.2=ij.2)/\ij.1≠n)(d:XI k τ (.Name x p) iter gi)(e:∀ cl C fp s' H,PG (c8 X N' scope cl C fp s' H) (.Name x p) (gY n))(b:∀ cl C fp s' H,XT (X:=c8 X N' scope cl C fp s' H) k τ' c t)(he:∀ cl C fp s' H,DE (c8 X N' scope cl C fp s' H) elt ge)
  (hs:∀ x,Zq iter X.env x=pure x:=by intro _;rfl):XE k τ (.ListComp elt [⟨.Name x p,iter,[c],0⟩] scope pos) (kH gi n t ge inner):=
 bT (BE (g:=gY n) (ti:=lO k τ' t) (te:=tD X.K ge) f h d e (fun cl C fp s' H=>BL (b cl C fp s' H)) (fun cl C fp s' H=>he cl C fp s' H) hs) fun i H Q q=>Ky a q
theorem zTH(J:X.N.Nodup)(h:∀ ij,ij∈τ->ij.1≠i)(I:X.calm=true)(Y:kX X N' scope inner)(f:∀ ij,ij∈τ'->(∃ q,q∈τ/\inner[ij.1]?=some (some q.1)/\q.2=ij.2)/\ij.1≠n)(B:XI k τ (.Name x p) iter gi)(E:∀ cl C fp s' H,PG (c8 X N' scope cl C fp s' H) (.Name x p) (gY n))(A:∀ cl C fp s' H,XT (X:=c8 X N' scope cl C fp s' H) k τ' c t)(he:∀ cl C fp s' H,DE (c8 X N' scope cl C fp s' H) elt ge)
  (j:ZC (.ListComp elt [⟨.Name x p,iter,[c],0⟩] scope pos) (some (.Name y py)) spos.line X.env=pure true:=by rfl) (w:X.N[i]?=some y:=by rfl) (z:L2.Loc X.env.scope y:=by first | exact Ze rfl | exact Zc rfl) (G:X.fn y=true ∨ X.env.scope.names.lookup y=some .local:=by first | exact .inl rfl | exact .inr rfl | assumption)
  (hs:∀ x,Zq iter X.env x=pure x:=by intro _;rfl):XS k τ (.Assign [.Name y py] (.ListComp elt [⟨.Name x p,iter,[c],0⟩] scope pos) spos) (b9 i (kH gi n t ge inner)):=
 ps_mono (WJ (g:=gY n) (ti:=lO k τ' t) (te:=tD X.K ge) J I Y B E (fun cl C fp s' H=>BL (A cl C fp s' H)) (fun cl C fp s' H=>he cl C fp s' H) j w z G hs) fun W Z H s=>by
  obtain⟨b,l,a,F,m,r,u,o,K0,S,q,O⟩:=s;obtain⟨d,M,q⟩:=aE q;cases q;exact Ky f ⟨F,a,m,r,u,d.1,d.2,S,M,fun U T v e K' S' Q=>O U T _ e (K0.trans K') K'.k.st (S'.put h Q)⟩
end
abbrev W3:=D × List D × List (List Int)
def lZ(a:YP)(b:V)(c:YP):List (Str × V):=[("known",.ref a),("floor",b),("path",.ref c)]
structure WA(K:PySem.W.Frag)(C:YP)(F:YP->Prop)(H:Hp)(p a c dx:YP)(vf:V)(vs:List V)(l:List (List Int × YP))(ep:Nat)(b:W3):Prop where
 hp:H p=some (.ins C dx (lZ a vf c))
 rf:aM K F H b.1 vf
 hc:H c=some (.lst vs)
 rc:Reps K F H b.2.1 vs
 td:Td K H a l ep
 el:l.map (·.1)=b.2.2
 np:¬ F p
 na:¬ F a
 nc:¬ F c
def LN(K:PySem.W.Frag)(C:YP)(F:YP->Prop)(H:Hp)(p:YP)(b:W3)(φ:YP->Prop):Prop:=∃ a c dx vf vs l ep,WA K C F H p a c dx vf vs l ep b/\∀ x,φ x ↔ x=p ∨ x=a ∨ x=c
def wK(K:PySem.W.Frag)(C:YP):bS K W3 where
 cl:=fun _=>C
 fn:=fun _=>["known","floor","path"]
 At:=LN K C
 own:=fun⟨a,c,dx,vf,vs,l,ep,h,hφ⟩=>⟨(hφ _).mpr (.inl rfl),fun x b=>by
  rcases(hφ x).mp b with rfl | rfl | rfl
  ·exact⟨by rw [h.hp];simp,h.np⟩
  ·exact⟨by rw [h.td.at_];simp,h.na⟩
  ·exact⟨by rw [h.hc];simp,h.nc⟩⟩
 ins:=fun⟨a,c,dx,vf,vs,l,ep,h,hφ⟩=>⟨dx,_,h.hp,rfl⟩
 keep:=fun⟨a,c,dx,vf,vs,l,ep,h,hφ⟩ T s n=>⟨a,c,dx,vf,vs,l,ep,⟨s _ _ ((hφ _).mpr (.inl rfl)) h.hp,h.rf.stay T,s _ _ ((hφ _).mpr (.inr (.inr rfl))) h.hc,h.rc.stay T,h.td.stay T (s _ _ ((hφ _).mpr (.inr (.inl rfl))) h.td.at_),h.el,n _ ((hφ _).mpr (.inl rfl)),n _ ((hφ _).mpr (.inr (.inl rfl))),n _ ((hφ _).mpr (.inr (.inr rfl)))⟩,hφ⟩
section
variable {K:PySem.W.Frag}{C:YP}
theorem Ao(a:YP)(b:V)(c:YP):(lZ a b c).lookup ("known":Str)=some (.ref a):=rfl
theorem OW(a:YP)(vf:V)(c:YP):(lZ a vf c).lookup ("floor":Str)=some vf:=by
 unfold lZ;rw [QQ,show(("floor":Str) == ("known":Str))=false from by decide,QQ,show(("floor":Str) == ("floor":Str))=true from by decide]
theorem Ap(a:YP)(b:V)(c:YP):(lZ a b c).lookup ("path":Str)=some (.ref c):=by
 unfold lZ;rw [QQ,show(("path":Str) == ("known":Str))=false from by decide,QQ,show(("path":Str) == ("floor":Str))=false from by decide,QQ,show(("path":Str) == ("path":Str))=true from by decide]
def iK:W3->Option D:=fun b=>some b.1
def Cw:W3->Option D:=fun b=>some (.list b.2.1)
def l7:W3->Option D:=fun b=>some (.dict (b.2.2.map fun k=>(jE (.inl k),.bool true)))
def D1(b:W3)(d:D):W3:=(b.1,b.2.1++[d],b.2.2)
def D2(b:W3)(a:List (List Int)):W3:=(b.1,b.2.1,a)
theorem pM:EN (wK K C) C "floor" iK:=fun b q=>by
 obtain⟨a,c,f,d,g,l,i,h,e⟩:=b;cases q
 exact⟨f,_,d,h.hp,OW _ _ _,h.rf⟩
theorem O0:yN (wK K C) C "path" Cw:=fun{F H p b φ d} zz q=>by
 obtain⟨a,c,g,j,i,l,k,h,e⟩:=zz;cases q
 exact⟨g,_,_,h.hp,Ap _ _ _,.lst (.inl ⟨.inr ((e _).mpr (.inr (.inr rfl))),.inl h.hc⟩) (h.rc.stay ⟨fun _ f=>.inl f,fun _ _ z=>z,fun _ _ _ z=>z,fun _ _ _ z=>z⟩)⟩
theorem K9:∀{l:List (List Int × YP)},(∀ p∈l,bJ K H p.2 (p.1.map V.int))->DReps K F H ((l.map (·.1)).map fun k=>(jE (.inl k),.bool true)) (cT l)
 | [],_=>.nil
 | q::l,h=>.cons (k:=.inl q.1) (h q Qh) (.bl true) (K9 fun p a=>h p (Qg _ a))
theorem D3:yN (wK K C) C "known" l7:=fun{F H p b φ d} zz q=>by
 obtain⟨a,c,f,i,g,l,j,h,e⟩:=zz;cases q
 refine⟨f,_,_,h.hp,Ao _ _ _,.dct (.inr ((e _).mpr (.inr (.inl rfl)))) h.td.at_ ?_ (by unfold cT;rw [Qd];exact h.td.ln) (by rw [<- h.el];exact K9 h.td.ky)⟩
 unfold cT;rw [Q3]
 have:=Gy h.td.nd
 rw [Q3]at this;exact this
theorem Kt:A5 (wK K C) C "path" (fun b=>b.2.1):=fun⟨a,c,dx,vf,vs,l,ep,h,hφ⟩=>⟨dx,_,c,vs,h.hp,Ap _ _ _,(hφ _).mpr (.inr (.inr rfl)),h.nc,h.hc,h.rc⟩
theorem Kn:A3 (wK K C) C "known" (fun b=>b.2.2):=fun⟨a,c,dx,vf,vs,l,ep,h,hφ⟩=>⟨dx,_,a,l,ep,h.hp,Ao _ _ _,(hφ _).mpr (.inr (.inl rfl)),h.na,h.td,h.el⟩
theorem OV:EM (wK K C) C "path" D1:=fun{F H p b φ d v dx fs c vs} zz z R hp hlk hc=>by
 obtain⟨a,n,m,g,f,l,k,h,e⟩:=zz;rw [h.hp]at hp;cases hp;rw [Ap]at hlk;cases hlk;rw [h.hc]at hc;cases hc;have T:bA K F F H (aJ H c (.lst (vs++[v]))):=(oQ (φ:=fun _=>True) z h.hc yE.1 yE.2 h.nc trivial).st;have j:p≠c:=p3 h.hp h.hc (by intro w;cases w);have i:a≠c:=p3 h.td.at_ h.hc (by intro w;cases w)
 exact⟨a,c,dx,g,vs++[v],l,k,⟨by rw [aV j];exact h.hp,h.rf.stay T,cN,(h.rc.append (.cons R .nil)).stay T,h.td.stay T (by rw [aV i];exact h.td.at_),h.el,h.np,h.na,h.nc⟩,e⟩
theorem O1:En (wK K C) C "known" D2:=fun{F H p b φ dx fs a l l' ep ep'} zz z hp hlk td ky nd ln=>by
 obtain⟨o,e,m,f,c,n,k,h,d⟩:=zz;rw [h.hp]at hp;cases hp;rw [Ao]at hlk;cases hlk;have T:bA K F F H (aJ H a (bO a (cT l') ep')):=(oQ (φ:=fun _=>True) z h.td.at_ yD.1 yD.2 h.na trivial).st;have i:p≠a:=p3 h.hp h.td.at_ (by intro w;cases w);have g:e≠a:=p3 h.hc h.td.at_ (by intro w;cases w)
 exact⟨a,e,dx,f,c,l',ep',⟨by rw [aV i];exact h.hp,h.rf.stay T,by rw [aV g];exact h.hc,h.rc.stay T,⟨cN,fun q j=>T.tp _ _ (ky q j),nd,ln⟩,rfl,h.np,h.na,h.nc⟩,d⟩
end
end OB
namespace OB
open PySem.Spec L2 CL DL SD DC TB ST SL EL KP EX
abbrev GE(B:Type):=List (Option D)->B->Option (Str × B)
def DQ{K:PySem.W.Frag}{B:Type}(k:bS K B)(n:Nat)(G:GE B):Sp:=fun c H Q E=>∃(F:YP->Prop) (p:YP) (b:B) (φ:YP->Prop) (ds:List (Option D)) (x:Str) (b':B),ds.length=n/\(∀ a,F a->H a≠none)/\k.At F H p b φ/\Paired (lJ (K:=K) F H p) ds c/\G ds b=some (x,b') /\
 ∀ F' H' C φ',cK K φ F F' H H'->(∀ a,φ' a->φ a ∨ H a=none)->k.At F' H' p b' φ'->PySem.W.nsIn K J4 x=some (some (.ref C))->E (.ref C) none H'
section
variable {K:PySem.W.Frag}{B:Type}{k:bS K B}{F:YP->Prop}{H:Hp}{p:YP}{b:B}{φ:YP->Prop}{ds:List (Option D)}{vs:List V}{j:Nat}{N:List Str}
theorem KF(z:∀ a,F a->H a≠none)(at0:k.At F H p b φ)(r:Paired (lJ (K:=K) F H p) ds vs)(A:ds[j]?=some none):SO k [(j,0)] F H H (L2.start N vs) (fB N.length ds) [b] [(p,φ)]:=by
 obtain⟨v,l,e⟩:=iI r A;have t:j<vs.length:=(Qe.mp l).1;have e:v=.ref p:=e
 refine⟨KC z r,⟨.cons at0 .nil,fun i g o u n y x=>?_⟩,fun a h=>?_,fun i s c=>?_,fun i g m o w=>?_,fun _ h=>h⟩
 ·have E:i<1:=(Qe.mp y).1;have B:g<1:=(Qe.mp x).1;lia
 ·rcases h with⟨i,f,c,_⟩ | ⟨i,f,c,_⟩ <;> rcases n3 c with⟨d,q⟩ | q <;> cases q
 ·rcases n3 c with⟨d,q⟩ | q <;> cases q
 ·rw [Qy]at m;cases m;cases w;unfold L2.start;rw [QV (by simpa using t),QH,l,e];rfl
theorem B5{f:YP->Prop}{e:Hp}{c:List Oa}{j:B}{b:List B}(K':aY K [(p,φ)] c F f H e)(l:Os k f e b c)(q:b[0]?=some j):∃ φ',cK K φ F f H e/\(∀ a,φ' a->φ a ∨ H a=none)/\k.At f e p j φ':=by
 obtain⟨φ',i⟩:=K'.ad 0 (p,φ) rfl;obtain⟨b1,d,g⟩:=lD l.at_ i;have d:b[0]?=some b1:=d;rw [q]at d;cases d
 refine⟨φ',⟨K'.k.st,fun a u h n=>K'.k.out a u h fun⟨o,m,h'⟩=>n ?_,K'.k.new,K'.k.fz,K'.k.lv⟩,fun a h=>(K'.ft a (iG i h)).imp_left fun⟨o,m,h'⟩=>?_,g⟩
 ·rw [Qy.mp m]at h';exact h'
 ·rw [Qy.mp m]at h';exact h'
end
section
variable {X:Cx}{kk:Nat}{f C:YP}{fd:J5}{ps:List Str}{sp:Sp}{m:Str}{pos apos:Pos}{e o:Expr}{es:List Expr}{ta:TE}{t:TA}
theorem Ws{pl:Sem Bool}(he:PE X o ta)(c:fZ X.K C)(i:iM X.K C m f)(F:aK X.prog X.w X.K X.mg X.base (gP X.prog X.w) kk f fd ps sp)(y:bU kk X.A)(z:L2.Binds X.K fd ps [])(g:X.ex=[])(B:PA X (e::es) t)
  (d:JU (e::es) X.env=(false,Za e X.env)::JU es X.env:=by rfl) (hpl:(Zb pos (JU es X.env)).any (·.1)=false:=by rfl)
  (v:Za (.Call (.Attribute o m apos) (e::es) [] pos) X.env=(do
   let ov <- Za o X.env
   standAt apos.atName
   let(f,first) <- Uh [ov] (U2 ov m pl)
   callWith pos f first (Zb pos (JU (e::es) X.env)) (ZU pos (Zz [] X.env))):=by rfl):
  PE X (.Call (.Attribute o m apos) (e::es) [] pos) (fun σ H Q=>ta σ H fun x H1=>∃ a dx fs,x=.ref a/\H1 a=some (.ins C dx fs)/\fs.lookup m=none/\t σ H1 fun vs H2=>sp (x::vs) H2 Q (uP X σ)):=by
 intro b s σ H Q I h;refine PySem.W.methodCall_KW (pl:=pl) (aU (he b s σ H _ I h) fun u k ⟨x,H1,j,n,a,dx,fs,ex,E,l,q⟩=>?_) v;subst ex
 obtain rfl:u=J2 a:=n
 refine A0 j E c i l ?_;refine PySem.W.callWith_K (first:=[.ref a]) (h₀:=X.base) I.ok.mod.kin i.kp (aU (B pos b k σ H1 _ j q) fun us G ⟨vs,H2,I2,r,p⟩=>⟨I2.kIn,?_⟩) d hpl;exact Ii (us:=.ref a::us) (vs:=.ref a::vs) F y z g I2 (.cons rfl r) p
end
theorem pss_never{X:Cx}{a:List Zj}:eX X a (fun _ _ _=>False):=fun _ _ _ _ _ _ h=>h.elim
theorem WL{X:Cx}{d:List Zj}{k:ExceptHandler}{hs:List ExceptHandler}{i:Pos}{t:List (YP × Obj)->(JS->JT->Prop)->TS}(j:∀ pn E,eX { X with pn:=pn,xe:=E } d (t pn E)):PS X (.Try d (k::hs) [] [] i) (fun W σ H=>∀ pn E,t pn E W σ H):=by
 intro b s σ H W I h;refine wpAny_Try_except ?_
 have back:∀{e a c s'},Inv { X with pn:=X.pn++b,xe:=e } [] a c s'->Inv X b a c s':=fun{e a c s'} J=>uC I.ok J fun p g=>by rw [QG];exact g
 have l:∀ e,Inv { X with pn:=X.pn++b,xe:=e } [] σ H s:=fun e=>xY (A':=X.A) (c':=X.calm) I rfl I.ok.hd fun p g=>by rw [QG]at g;exact g
 have fin:∀{e:JS->JT->Prop}{E2:JS->JT->Prop} f s',SP { X with pn:=X.pn++b,xe:=e } [] W f s'->(match f with | .next=>JW (JX X.prog X.w) X.A (execs [] X.env) (SP X b W) E2 s' | f=>SP X b W f s'):=fun{e E2} f s' z=>by
  cases f with
  | next=>obtain⟨a,c,J,w⟩:=z;exact Jw ⟨a,c,back J,w⟩
  | brk=>obtain⟨a,c,J,w⟩:=z;exact⟨a,c,back J,w⟩
  | cont=>obtain⟨a,c,J,w⟩:=z;exact⟨a,c,back J,w⟩
  | ret u=>obtain⟨v,a,c,J,r,w⟩:=z;exact⟨v,a,c,back J,r,w⟩
 exact aU (j (X.pn++b) _ [] s σ H W (l _) (h _ _)) fin
theorem zTK{X:Cx}{B:Type}{k:bS X.K B}{τ:List (Nat × Nat)}{a:List Zj}{m:ExceptHandler}{hs:List ExceptHandler}{f:Pos}{g:GS B}(l:∀ pn E,iN (X:={ X with pn:=pn,xe:=E }) k τ a g):XS k τ (.Try a (m::hs) [] [] f) g:=
 ps_mono (WL (t:=fun pn E=>uY (X:={ X with pn:=pn,xe:=E }) k τ g) l) fun W p H ⟨b,e,d,F,h,i,j,o,n,S,q,c⟩ pn E=>⟨b,e,d,F,h,i,j,o,n,S,q,by cases o <;> exact c⟩
theorem WK{X:Cx}{e:Expr}{t y i l:Pos}{c:List Zj}{g:Zj}{gh:aA->Option aQ}{j x:Str}{L:YP}{te:List (YP × Obj)->(JS->JT->Prop)->TE}(M:∀ pn E,PE { X with pn:=pn,xe:=E } e (te pn E))
  (F:∀ e pn E,g8 { X with A:=X.A.mark (some e),calm:=false,pn:=pn,xe:=E } (g::c) gh) (o:X.ex=[]) (m:X.stack=X.env::X.outer) (n:X.env.frame=some X.env.locals)
  (G:Gl X j) (B:X.mg j=some (.ref L)) (Q:PySem.W.subIn X.K (.ref L) (.type "BaseException")=some true) (N:tU X.K L x) (q:(j == ("__debug__":Str))=false:=by decide):
  PS X (.Try [.Return (some e) t] [.ExceptHandler (some (.Name j y)) none (g::c) i] [] [] l) (fun W σ H=>∀ pn E',(∀ F₀ H₀ ρ σ' pins' s' a C tr d,aW X.K F₀ H₀ H₀ σ' ρ->Inv { X with pn:=pn,xe:=E' } pins' σ' H₀ s'->PySem.W.nsIn X.K J4 x=some (some (.ref C))->ThrownC { X with pn:=pn,xe:=E' } pins' H₀ s' a (.ref C) tr->gh (ρ.map frz)=some (.rt d)->(∀ F' H' v,aH F₀ F' H₀ H'->aM X.K F' H' d v->W.rt v H')->E' (.ref a) s')->te pn E' σ H W.rt):=by
 intro b s σ H W I h;refine wpAny_Try_except ?_
 have back:∀{E' σ' H' s'},Inv { X with pn:=X.pn++b,xe:=E' } [] σ' H' s'->Inv X b σ' H' s':=fun{E' σ' H' s'} J=>uC I.ok J fun p i=>by rw [QG];exact i
 have Z:∀ E',Inv { X with pn:=X.pn++b,xe:=E' } [] σ H s:=fun E'=>xY (A':=X.A) (c':=X.calm) I rfl I.ok.hd fun p i=>by rw [QG]at i;exact i
 have fin:∀{E':JS->JT->Prop}{E2:JS->JT->Prop} f s',SP { X with pn:=X.pn++b,xe:=E' } [] W f s'->(match f with | .next=>JW (JX X.prog X.w) X.A (execs [] X.env) (SP X b W) E2 s' | f=>SP X b W f s'):=fun{E' E2} f s' z=>by
  cases f with
  | next=>obtain⟨σ',H',J,w⟩:=z;exact Jw ⟨σ',H',back J,w⟩
  | brk=>obtain⟨σ',H',J,w⟩:=z;exact⟨σ',H',back J,w⟩
  | cont=>obtain⟨σ',H',J,w⟩:=z;exact⟨σ',H',back J,w⟩
  | ret u=>obtain⟨v,σ',H',J,r,w⟩:=z;exact⟨v,σ',H',back J,r,w⟩
 refine aU (qB (wU (M (X.pn++b) _)) [] s σ H W (Z _) (h (X.pn++b) _ ?_)) fin;intro F₀ H₀ ρ σ' pins' s' a C tr d U Y O T S k;exact RO I.ok F o m n G B q Q N (aH.refl F₀ H₀) U Y O T S k
end OB
namespace OB
open PySem.Spec L2 CL DL SD DC TB ST SL EL KP
section
variable {B:Type}
def tO(i:Nat)(ge:GX B D):List D->aA->List B->Option (List D × List B)
 | [],_,Ω=>some ([],Ω)
 | d::ds,ρ,Ω=>(ge (ρ.set i (.dat d)) Ω).bind fun y=>(tO i ge ds (ρ.set i (.dat d)) y.2).bind fun r=>some (y.1::r.1,r.2)
def qM(gi:GX B (List D))(i:Nat)(ge:GX B D)(inner:List (Option Nat)):GX B D:=fun a b=>(gi a b).bind fun x=>(tO i ge x.1 (fV inner a) x.2).bind fun r=>if r.1.length<=1000/\r.2.length=x.2.length then some (.list r.1,r.2)else none
end
section
variable {X:Cx}{B:Type}{k:bS X.K B}{τ τ':List (Nat × Nat)}{elt iter:Expr}{scope:ZY}{N':List Str}{inner:List (Option Nat)}{gi:GX B (List D)}{ge:GX B D}{n:Nat}{x:Str}{p pos:Pos}
structure Lr(X:Cx){B:Type}(k:bS X.K B)(τ':List (Nat × Nat))(n:Nat)(ge:GX B D)(xs out:List D)(Ω':List B)(os:List Oa)(F1:YP->Prop)(H1:Hp)(D':YP)(i m:Nat)(σ':L2.St)(H':Hp)(F2:YP->Prop)(ρ2:aA)(vs:List V)(don rst:List D)(Ω2:List B)(os2:List Oa):Prop where
 em:m=xs.length-i
 hi:i<=xs.length
 K2:aY X.K os os2 F1 F2 H1 H'
 S:SO k τ' F2 H' H1 σ' ρ2 Ω2 os2
 pl:i4 ρ2
 dD:H' D'=some (.lst vs)
 nf:¬ F2 D'
 nt:¬ eL os2 D'
 rd:Reps X.K F2 H' don vs
 ec:tO n ge (xs.drop i) ρ2 Ω2=some (rst,Ω')
 eo:don++rst=out
theorem zTy(Z:∀ ij,ij∈τ'->(∃ q,q∈τ/\inner[ij.1]?=some (some q.1)/\q.2=ij.2)/\ij.1≠n){σ:L2.St}{H:Hp}{Q:VK}(q:jB k τ (qM gi n ge inner) σ H Q):oX (uZ k τ gi) (gY n) (fun _ H Q=>Q true H) (jB k τ' ge) inner σ H Q:=by
 obtain⟨F,a3,ρ,Ω,os,d,G,S,q,cc⟩:=q;obtain⟨⟨e,Ωa⟩,e1,q⟩:=aE q;obtain⟨⟨g,Ω1⟩,e2,q⟩:=aE q;have q:(if g.length<=1000/\Ω1.length=Ωa.length then some (ZD g,Ω1)else none)=some (d,G):=q;by_cases hl:g.length<=1000/\Ω1.length=Ωa.length
 ·rw [if_pos hl]at q;cases q
  refine⟨F,a3,ρ,Ω,os,e,Ωa,S,e1,fun w c J l K1 S1 I1 D' M=>?_⟩
  have key:oX (fun σ H R=>∀ J',kL X.K w c e J'->H=c->R J' c) (gY n) (fun _ H Q=>Q true H) (jB k τ' ge) inner σ c Q:=by
   intro J' I' _ D' M
   refine⟨fun i m A H'=>∃ O p b N U E os2,Lr X k τ' n ge e g G l w c D' i m A H' O p b N U E os2,?_,?_⟩
   ·have E2:aH w w c (aJ c D' (.lst [])):=aH.fresh M
    exact⟨e.length,w,fV inner ρ,[],[],g,Ωa,l,rfl,QR _,aY.ext S1.S.fz E2,(S1.ext E2).inner inner (fun ij h=>let⟨q,h1,h2,h3⟩:=(Z ij h).1;⟨q.1,h2,by rw [<- h3];exact h1⟩) (fun a h=>E2.same.free h),mU inner ρ,cN,fun f=>S1.S.fz _ f M,fun f=>(S1.o.live f).1 M,.nil,e2,rfl⟩
   ·rintro i m A H' ⟨O,p,b,N,U,E,os2,rfl,hi,K2,S2,pl,dD,nf,nt,rd,t,eo⟩;obtain⟨a8,a7⟩:=I' O H' K2.k.st S2.S.fz i;by_cases s:i<e.length
    ·right
     have a0:e[i]?=some e[i]:=by simp [s]
     obtain⟨go,a4⟩:=a8 _ a0;rw [Q0 s]at t;obtain⟨⟨yd,B⟩,e5,t⟩:=aE t;obtain⟨r',e6,t⟩:=aE t;cases t
     refine⟨go,fun x H3 y=>?_⟩
     obtain⟨F3,E3,R3⟩:=a4 x H3 y;have r:i4 (p.set n (.dat e[i])):=BI pl;have S3:=(S2.ext E3).put (i:=n) (fun ij h=>(Z ij h).2) R3;have d3:H3 D'=some (.lst b):=E3.same _ _ dD
     have a6:¬ F3 D':=fun f=>by
      rcases E3.new _ f with f | ⟨f,_⟩
      ·exact nf f
      ·rw [dD]at f;cases f
     simp only [if_true]
     refine⟨F3,c,_,E,os2,yd,B,S3,e5,fun v H7 T os6 K6 S7 R7=>?_⟩
     ·have d7:H7 D'=some (.lst b):=K6.k.out _ _ d3 nt
      have I:¬ v D':=fun f=>by
       rcases K6.k.new _ f with f | f
       ·exact a6 f
       ·rw [d3]at f;cases f
      have W:¬ eL os6 D':=fun f=>by
       rcases K6.ft _ f with f | f
       ·exact nt f
       ·rw [d3]at f;cases f
      have K7:aY X.K l os6 w v c H7:=K2.trans ((aY.ext S2.S.fz E3).trans K6);have a5:=(rd.stay E3.stay).stay K6.k.st;have T8:bA X.K v v H7 (aJ H7 D' (.lst (b++[T]))):=Bt d7 I
      have a2:∀ a,v a->aJ H7 D' (.lst (b++[T])) a≠none:=fun a f=>by rw [aV (fun z=>I (by rw [<- z];exact f))];exact S7.S.fz a f
      have Y:∀ a,aJ H7 D' (.lst (b++[T])) a=none->H7 a=none:=fun a h=>by
       by_cases z:a=D'
       ·subst z;rw [cN]at h;cases h
       ·rwa [aV z]at h
      have K8:aY X.K l os6 w v c (aJ H7 D' (.lst (b++[T]))):=⟨⟨K7.k.st.trans T8,fun a u h nn=>by rw [aV (fun z=>by rw [z,M]at h;cases h)];exact K7.k.out a u h nn,K7.k.new,a2,fun a h=>K7.k.lv a (Y a h)⟩,K7.ft,K7.ad⟩
      have S8:SO k τ' v (aJ H7 D' (.lst (b++[T]))) c (A.set n (some x)) (p.set n (.dat e[i])) B os6:=
       ⟨S7.S.plain r T8 a2,S7.o.keep T8 (fun a u f h=>by rw [aV (fun z=>W (by rw [<- z];exact f))];exact h) (fun a f=>(S7.o.live f).2),fun a h=>(BH r h).elim,fun j a9 z=>r j _ rfl z,S7.hd,fun a h=>S7.lo a (Y a h)⟩
      have ll:b.length<1000:=by
       have h1:=rd.length;have h2:=congrArg ZO eo;rw [Qm,Qo]at h2;lia
      exact⟨b,d7,qH (Yr ll),e.length-(i+1),by lia,v,_,b++[T],N++[yd],r'.1,B,os6,rfl,s,K8,S8,r,cN,I,W,(a5.append (.cons R7 .nil)).stay T8,e6,by rw [Qw];exact eo⟩
    ·left
     have a1:e.length<=i:=Ya s
     refine⟨a7 a1,?_⟩
     rw [YH a1]at t;cases t;rw [QG]at eo;subst eo;have K3:=K2;have T9:bA X.K O (fun a=>O a ∨ a=D') H' H':=⟨fun _ f=>.inl f,fun _ _ f=>f,fun _ _ _ f=>f,fun _ _ _ f=>f⟩;have K4:aY X.K l os2 w (fun a=>O a ∨ a=D') c H':=⟨⟨K3.k.st.trans T9,K3.k.out,fun a f=>f.elim (K3.k.new a) fun z=>.inr (z ▸ M),fun a f=>f.elim (K3.k.fz a) fun z=>by rw [z,dD];simp,K3.k.lv⟩,K3.ft,K3.ad⟩;have O4:Os k (fun a=>O a ∨ a=D') H' G os2:=S2.o.keep T9 (fun _ _ _ h=>h) fun a f z=>z.elim (S2.o.live f).2 fun z=>nt (z ▸ f);refine cc _ H' _ os2 (K1.trans K4) (S1.keeps K4 O4 ?_) (.lst (.inl ⟨.inr rfl,.inl dD⟩) (rd.stay T9));rw [<- kF S2.o.at_,<- kF S1.o.at_];exact hl.2
  exact key J I1 rfl D' M
 ·rw [if_neg hl]at q;cases q
theorem Kz(d:X.calm=true)(e:kX X N' scope inner)(a:∀ ij,ij∈τ'->(∃ q,q∈τ/\inner[ij.1]?=some (some q.1)/\q.2=ij.2)/\ij.1≠n)(b:XI k τ (.Name x p) iter gi)(c:∀ cl C fp s' H,PG (c8 X N' scope cl C fp s' H) (.Name x p) (gY n))(he:∀ cl C fp s' H,XE (X:=c8 X N' scope cl C fp s' H) k τ' elt ge)
  (hs:∀ x,Zq iter X.env x=pure x:=by intro _;rfl):XE k τ (.ListComp elt [⟨.Name x p,iter,[],0⟩] scope pos) (qM gi n ge inner):=
 bT (BE (g:=gY n) (ti:=fun _ H Q=>Q true H) (te:=jB k τ' ge) d e b c (fun cl C fp s' H=>WP) (fun cl C fp s' H=>he cl C fp s' H) hs) fun f H Q q=>zTy a q
end
end OB
namespace OB
open PySem.Spec L2 CL DL SD DC TB TX ST SL EL KP
section
variable {B:Type}
def vQ(t:GX B Bool)(ga gb:GX B D):GX B D:=fun a b=>(t a b).bind fun x=>if x.1=true then ga a x.2 else gb a x.2
def nQ(gr:GX B (List D)):GX B (List D):=fun a b=>(gr a b).bind fun x=>(j0 x.1).bind fun c=>some (c,x.2)
end
section
variable {X:Cx}{B:Type}{k:bS X.K B}{τ:List (Nat × Nat)}{a b c e o tg:Expr}{t:GX B Bool}{ga gb go ge:GX B D}{gr:GX B (List D)}{p pos apos cpos:Pos}
theorem O2(y:XT k τ c t)(A:XE k τ a ga)(z:XE k τ b gb):XE k τ (.IfExp c a b pos) (vQ t ga gb):=
 bT (IH y A z) fun E H Q v=>by
  obtain⟨F,e,i,u,x,r,g,S,q,k⟩:=v;obtain⟨d,B,q⟩:=aE q
  refine⟨F,e,i,u,x,d.1,d.2,S,B,fun s G h K1 p=>?_⟩
  cases o:d.1 with
  | true=>rw [o]at q;simp only [if_true]at q ⊢;exact⟨s,e,i,d.2,h,r,g,p,q,fun n m w f l j R2=>k n m w f (K1.trans l) j R2⟩
  | false=>rw [o]at q;simp only [Qp,if_false]at q ⊢;exact⟨s,e,i,d.2,h,r,g,p,q,fun n m w f l j R2=>k n m w f (K1.trans l) j R2⟩
theorem IU(A:XE k τ o go)(he:XE k τ e ge)
  (i:Zo o "join" X.env (Za o X.env)=Za o X.env:=by rfl)
  (j:((Zb cpos (JU [e] X.env)).all (fun x => !x.1) && (ZU cpos (Zz [] X.env)).all (fun x=>x.1.isSome)
   && decide ([e].length+([]:List ZJ).length+(if([]:List ZJ).isEmpty then 0 else 1)<30))=true:=by rfl)
  (h:(apos.endLine == cpos.line)=true:=by rfl) (hs:JU [e] X.env=(false,Za e X.env)::JU [] X.env:=by rfl) (b:(Zb cpos (JU [] X.env)).any (·.1)=false:=by rfl):
  XE k τ (.Call (.Attribute o "join" apos) [e] [] cpos) (cU vU go ge):=
 bT (p9 F.plainAttrs_str F.slot_str_join F.type_str_join Vm A (eF he fQ hs) i j h hs b) fun U H Q t=>by
  obtain⟨F,g,n,s,z,d,p,S,q,k⟩:=t;obtain⟨x,G,q⟩:=aE q;obtain⟨y,E,q⟩:=aE q;obtain⟨r,f,q⟩:=aE q;cases q
  refine⟨F,g,n,s,z,x.1,x.2,S,G,fun T Z v m K1 J K=>?_⟩
  generalize hx:x.1=Y at *;generalize hy:y.1=W at *;unfold vU at f
  split at f
  ·obtain⟨w,B,f⟩:=aE f
   split at f
   next c=>
    cases f;rw [QF,decide_eq_true_eq,decide_eq_true_eq]at c;cases K
    refine⟨rfl,T,g,n,x.2,m,y.1,y.2,J,E,fun O N u l M I R2=>?_⟩
    rw [hy]at R2
    cases R2 with
    | @lst a vs _ h1 r1=>
     exact⟨_,a,w,rfl,rfl,by rw [<- zSj r1 B];exact h1.sq,joinOk_of_weight c.1 c.2,k O N _ l (K1.trans M) I (.str _)⟩
   next=>cases f
  ·cases f
theorem zTC(A:XE k τ o go)(he:XE k τ e ge)
  (g:Zo o "split" X.env (Za o X.env)=Za o X.env:=by rfl)
  (i:((Zb cpos (JU [e] X.env)).all (fun x => !x.1) && (ZU cpos (Zz [] X.env)).all (fun x=>x.1.isSome)
   && decide ([e].length+([]:List ZJ).length+(if([]:List ZJ).isEmpty then 0 else 1)<30))=true:=by rfl)
  (f:(apos.endLine == cpos.line)=true:=by rfl) (hs:JU [e] X.env=(false,Za e X.env)::JU [] X.env:=by rfl) (a:(Zb cpos (JU [] X.env)).any (·.1)=false:=by rfl):
  XE k τ (.Call (.Attribute o "split" apos) [e] [] cpos) (cU vW go ge):=
 bT (p9 F.plainAttrs_str F.slot_str_split F.type_str_split Vn A (eF he fQ hs) g i f hs a) fun M H Q w=>by
  obtain⟨F,b,n,t,z,d,s,S,q,k⟩:=w;obtain⟨x,E,q⟩:=aE q;obtain⟨y,B,q⟩:=aE q;obtain⟨r,h,q⟩:=aE q;cases q
  refine⟨F,b,n,t,z,x.1,x.2,S,E,fun K U v l K1 G I=>?_⟩
  generalize hx:x.1=O at *;generalize hy:y.1=N at *;unfold vW at h
  split at h
  ·split at h
   next c=>
    cases h;rw [QF,decide_eq_true_eq,decide_eq_true_eq]at c;cases I
    refine⟨rfl,K,b,n,x.2,l,y.1,y.2,G,B,fun W T u j J S2 R2=>?_⟩
    rw [hy]at R2;cases R2
    refine⟨_,_,rfl,rfl,?_,by rw [QW];lia,fun p m=>?_⟩
    ·rw [beq_eq_false_iff_ne];lia
    ·exact k _ _ _ j ((K1.trans J).trans (aY.ext S2.S.fz (aH.frozen m))) (S2.ext (aH.frozen m)) (aM.newLst m (KN _))
   next=>cases h
  ·cases h
theorem IX(t:Gl X "range")(s:X.mg "range"=none)(u:XA k τ [a] gr)(hs:JU [a] X.env=[(false,Za a X.env)]:=by rfl):XI k τ tg (.Call (.Name "range" p) [a] [] pos) (nQ gr):=
 wS (IO t s u hs) fun B H R m=>by
  obtain⟨F,c,h,l,o,I,i,S,q,k⟩:=m;obtain⟨e,w,q⟩:=aE q;obtain⟨E,b,q⟩:=aE q;cases q;unfold j0 at b
  split at b
  ·rename_i j v;by_cases f:-4611686018427387904<=j/\j<4611686018427387904
   ·rw [if_pos f]at b;cases b
    refine⟨F,c,h,l,o,e.1,e.2,S,w,fun A z G d y x g=>?_⟩
    rw [v]at g
    cases g with
    | cons r n=>
     cases r;cases n
     exact⟨j,rfl,by lia,by lia,k A z _ d y x (Hf 0 _)⟩
   ·rw [if_neg f]at b;cases b
  ·cases b
end
end OB
namespace TX
open PySem.Spec L2 DL SL
open Builtin Builtin.Str
def sC(z:Str):Str:=⟨((strSliceIndices none none (-1) z.length).filterMap fun i=>z.cps[i]?).toArray⟩
section
variable {X:Cx}{e st o:Expr}{p2 pos apos cpos:Pos}{go ge:aA->Option D}
theorem Ww{te:TE}{ts:L2.St->Hp->(Option Int->Hp->Prop)->Prop}(he:PE X e te)(hs:PO X (some st) ts):PE X (.Subscript e (.Slice none none (some st) p2) pos)
  (fun σ H Q=>te σ H fun x H1=>ts σ H1 fun o H2=>o=some (-1)/\∃ z,x=.str z/\z.length<=sizeLine/\Q (.str (sC z)) H2):=by
 intro a s σ H Q I h;refine Subscript_ (aU (he a s σ H _ I h) fun v m f=>?_);obtain⟨x,H1,E,n,p⟩:=f;refine wpAny_Slice ?_;rw [evalPart_none];refine Qb (Qb ?_);refine aU (hs a m σ H1 _ E p) fun j c f=>?_;obtain⟨o,i,I3,g,B,z,y,r,q⟩:=f;subst B;subst y;obtain⟨t,rfl⟩:=n
 cases g with
 | int _ d=>
 have I4:Inv X a σ i { c with heap:=c.heap.push { cls:=.type "slice",data:=.fields #[.none,.none,.int (-1) d] } }:=I3.kept (t':=c.toks) fun b G q=>Qf _ q
 show JW (JX X.prog X.w) X.A (Ua e (.Slice none none (some st) p2) (.str z t) (.ref c.heap.objs.size)) (EP X a σ Q) X.xe { c with heap:=c.heap.push { cls:=.type "slice",data:=.fields #[.none,.none,.int (-1) d] } }
 refine tail_any (ops:=[.str z t,.ref c.heap.objs.size]) (JR _ _ _) PySem.F.slot_str_getitem.lookup ?_ (by with_unfolding_all rfl);refine YV (l:=none) (u:=none) (st:=some (-1,d)) ⟨_,Qu _ rfl,rfl,rfl⟩ rfl ?_;have le:=Txt.sliceBy_le z none none (-1,d) (show(-1:Int)≠0 by decide);refine JQ ⟨Qr le r,fun t' k=>⟨.str _,i,I4.tok k,⟨t',?_⟩,q⟩⟩;rfl
def vV:D->Option Int->Option D
 | .str z,some (-1)=>if decide (z.length<=1000000)then some (.str (sC z))else none
 | _,_=>none
def AG(ga:aA->Option D)(b:aA->Option (Option Int)):aA->Option D:=fun a=>(ga a).bind fun d=>(b a).bind fun o=>vV d o
theorem Rw{a:Expr}{ga:aA->Option D}{f:aA->Option (Option Int)}(h:DE X a ga)(hs:DO X (some st) f):DE X (.Subscript a (.Slice none none (some st) p2) pos) (AG ga f):=
 bT (Ww h hs) fun s H Q g=>by
  obtain⟨F,b,e,d,S,q,k⟩:=g;obtain⟨x,j,q⟩:=aE q;obtain⟨o,i,q⟩:=aE q
  refine⟨F,b,e,x,S,j,fun p t v E1 l=>⟨p,b,e,o,S.ext E1,i,fun n m r=>?_⟩⟩
  unfold vV at q
  split at q
  ·split at q
   next c=>
    cases q;cases l;rw [decide_eq_true_eq]at c
    exact⟨rfl,_,rfl,by rw [QW];lia,k n m _ (E1.trans r) (.str _)⟩
   next=>cases q
  ·cases q
theorem We:o6 X "str.index" (fun x vs H Q=>∃ z y i rest,x=.str z/\vs=[.str y]/\occurrences z y 0 z.length 1=i::rest/\Q (.int (i:Nat)) H):=by
 intro a s f H x vs v g Q I c d h;obtain⟨z,y,i,rest,rfl,rfl,e,q⟩:=h;obtain⟨t,rfl⟩:=c;obtain⟨u,rfl,b,rfl⟩:=d.one;refine call_gives F.slot_str_index (JR _ _ _) F.entry_str_index (F.args_str_index_2 _ _) (gives_str_index z y t b i rest e) ?_;simp only [Made.post]
 exact⟨.int _,H,I.tok _,⟨_,rfl⟩,q⟩
def mH:D->D->Option D
 | .str z,.str y=>match occurrences z y 0 z.length 1 with
  | i::_=>some (.int (i:Nat))
  | []=>none
 | _,_=>none
theorem Rt(l:DE X o go)(he:DE X e ge)
  (f:Zo o "index" X.env (Za o X.env)=Za o X.env:=by rfl)
  (g:((Zb cpos (JU [e] X.env)).all (fun x => !x.1) && (ZU cpos (Zz [] X.env)).all (fun x=>x.1.isSome)
   && decide ([e].length+([]:List ZJ).length+(if([]:List ZJ).isEmpty then 0 else 1)<30))=true:=by rfl)
  (c:(apos.endLine == cpos.line)=true:=by rfl) (hs:JU [e] X.env=(false,Za e X.env)::JU [] X.env:=by rfl) (a:(Zb cpos (JU [] X.env)).any (·.1)=false:=by rfl):
  DE X (.Call (.Attribute o "index" apos) [e] [] cpos) (aF mH go ge):=
 bT (p9 F.plainAttrs_str F.slot_str_index F.type_str_index We l (eF he fQ hs) f g c hs a) fun z H Q j=>by
  obtain⟨F,b,h,d,S,q,k⟩:=j;obtain⟨x,n,q⟩:=aE q;obtain⟨y,m,q⟩:=aE q
  refine⟨F,b,h,x,S,n,fun t A v E1 p=>?_⟩
  unfold mH at q
  split at q
  ·split at q
   next i rest eo=>
    cases q;cases p
    refine⟨rfl,t,b,h,_,S.ext E1,m,fun s r u w R2=>?_⟩
    cases R2
    exact⟨_,_,i,rest,rfl,rfl,eo,k s r _ (E1.trans w) (.int _)⟩
   next=>cases q
  ·cases q
end
end TX
namespace My
open PySem.StrLaws Builtin Builtin.Str
def jN(y:List Nat):List (List Nat)->List Nat
 | []=>[]
 | [p]=>p
 | p::q::r=>p++y++jN y (q::r)
def tl(x:Str):List Nat:=x.cps.toList
theorem Ld{x y:Str}(h:tl x=tl y):x=y:=Str.ext' (Array.toList_inj.mp h)
theorem oY(x:Str):(tl x).length=x.length:=by simp [tl,Str.length]
theorem Lc(x y:Str):tl (x++y)=tl x++tl y:=by simp [tl,Str.cps_append]
theorem Bx(y:Str):∀ xs:List Str,tl (Txt.join y xs)=jN (tl y) (xs.map tl):=by
 intro xs
 show tl (glued y xs)=_
 rw [glued_eq_join]
 induction xs with
 | nil=>rfl
 | cons x xs a=>
  cases xs with
  | nil=>rfl
  | cons z r=>
   show tl (x++y++Str.join y (z::r))=_
   rw [Lc,Lc,a];rfl
def c7(Y:List Nat):List (List Nat)->Prop
 | []=>True
 | [p]=>∀ k,k+Y.length<=p.length->(p.drop k).take Y.length≠Y
 | p::q::r=>(∀ k,k<p.length->∀ R,((p++Y++R).drop k).take Y.length≠Y)/\c7 Y (q::r)
theorem v9(x y:Str)(k:Nat):At x y x.length k ↔ k+(tl y).length<=(tl x).length/\((tl x).drop k).take (tl y).length=tl y:=by
 unfold At;rw [subAt_eq,oY,oY,beq_iff_eq];rfl
theorem KQ{x p:Str}{a c:Nat}(h:((tl x).drop a).take (c-a)=tl p):strSub x a c=p:=Ld ((strSub_toList x a c).trans h)
theorem IF{x y:Str}:∀(cuts:List Nat) (a f:Nat) (p:Str) (ps:List Str),ChainG x y x.length a cuts f->(∀ k,f<=k->¬ At x y x.length k)->(tl x).drop a=jN (tl y) ((p::ps).map tl)->a<=(tl x).length->c7 (tl y) ((p::ps).map tl)->
  partsFrom x y.length a cuts=p::ps
 | [],a,f,p,[],h,hn,e,ha,g=>by
  have b:(tl x).drop a=tl p:=e
  show [strSub x a x.length]=[p]
  rw [KQ (p:=p)];rw [<- b,Jt (by rw [Ye,oY];lia)]
 | [],a,f,p,q::r,h,hn,e,ha,g=>by
  have b:(tl x).drop a=tl p++tl y++jN (tl y) ((q::r).map tl):=e;have v:f=a:=h;have le:=congrArg ZO b;rw [Ye,Qm,Qm]at le;refine absurd ((v9 x y (a+(tl p).length)).mpr ⟨by lia,?_⟩) (hn _ (by lia));rw [<- UD,b,Qw,List.drop_left,List.take_left]
 | c::r',a,f,p,[],h,hn,e,ha,g=>by
  have b:(tl x).drop a=tl p:=e;have le:=congrArg ZO b;rw [Ye]at le;obtain⟨s,j,_⟩:=h;obtain⟨o,i⟩:=(v9 x y c).mp j;refine absurd ?_ (g (c-a) (by lia));rw [<- b,UD,show a+(c-a)=c by lia];exact i
 | c::r',a,f,p,q::r,h,hn,e,ha,g=>by
  have b:(tl x).drop a=tl p++tl y++jN (tl y) ((q::r).map tl):=e;have le:=congrArg ZO b;rw [Ye,Qm,Qm]at le;obtain⟨s,j,n,m⟩:=h;obtain⟨o,i⟩:=(v9 x y c).mp j;have d:At x y x.length (a+(tl p).length):=(v9 x y _).mpr ⟨by lia,by rw [<- UD,b,Qw,List.drop_left,List.take_left]⟩;have u:c<=a+(tl p).length:=Ya fun z=>n _ (by lia) z d
  have t:a+(tl p).length<=c:=Ya fun z=>by
   refine g.1 (c-a) (by lia) (jN (tl y) ((q::r).map tl)) ?_;rw [<- b,UD,show a+(c-a)=c by lia];exact i
  have l:c=a+(tl p).length:=Jb u t
  show strSub x a c::partsFrom x y.length (c+y.length) r'=_
  rw [KQ (p:=p) (by rw [b,l,Nat.add_sub_cancel_left,Qw,List.take_left])];refine congrArg _ (IF r' (c+y.length) f q r m hn ?_ (by rw [<- oY];lia) g.2);rw [l,<- oY,Nat.add_assoc,<- UD,b,<- Qm,List.drop_left]
theorem MT(x:Str):1<=Z7 x:=by
 unfold Z7;split
 ·exact Qj _
 ·split <;> decide
theorem XV(x y:Str)(b:1<=y.length)(i:Z7 y=1):Txt.split x y=partsFrom x y.length 0 (occurrences x y 0 x.length (x.length+1)):=by
 obtain⟨f,a,h⟩:=occ_tight x y b
 have one:occurrences x y 0 x.length (x.length+1)=[]->[x]=partsFrom x y.length 0 (occurrences x y 0 x.length (x.length+1)):=fun e=>by
  rw [e]
  show _=[strSub x 0 x.length]
  rw [sub_whole]
 unfold Txt.split;split
 ·rename_i g;rw [JO,decide_eq_true_eq,decide_eq_true_eq]at g
  have:=MT x
  refine one ?_
  cases q:occurrences x y 0 x.length (x.length+1)with
  | nil=>rfl
  | cons c r=>
   rw [q]at a
   have:=a.2.1.1
   lia
 ·split
  ·rename_i d;exact one (List.isEmpty_iff.mp d)
  ·rw [partsBetween_eq]
theorem XX{y p:Str}{ps:List Str}(a:1<=y.length)(c:Z7 y=1)(g:c7 (tl y) ((p::ps).map tl)):Txt.split (Txt.join y (p::ps)) y=p::ps:=by
 obtain⟨f,d,b⟩:=occ_tight (Txt.join y (p::ps)) y a;rw [XV _ _ a c];exact IF _ 0 f p ps d b (by rw [U9,Bx]) (QR _) g
theorem Fa{c:Nat}:∀{ps:List (List Nat)},(∀ p∈ps,c∉p)->c7 [c] ps
 | [],_=>trivial
 | [p],h=>fun k b e=>by
  have a:((p.drop k).take 1)[0]?=some c:=by rw [show((p.drop k).take 1)=[c]from e];rfl
  rw [Z9 (by decide),Y7]at a;exact h p Qh (QD a)
 | p::q::r,h=>⟨fun k b R e=>by
  have a:(((p++[c]++R).drop k).take 1)[0]?=some c:=by rw [show(((p++[c]++R).drop k).take 1)=[c]from e];rfl
  rw [Z9 (by decide),Y7,Nat.add_zero,Qw,QV b]at a
  exact h p Qh (QD a),Fa fun p d=>h p (Qg _ d)⟩
theorem Hk(y:List Nat){B:Nat}:∀{a:List (List Nat)},(∀ p∈a,p.length<=B)->(jN y a).length<=a.length * (B+y.length)
 | [],_=>QR _
 | [p],h=>by
  have:=h p Qh
  show p.length<=1 * (B+y.length)
  lia
 | p::q::r,h=>by
  have d:=h p Qh;have c:=Hk y (a:=q::r) fun x b=>h x (Qg _ b)
  show(p++y++jN y (q::r)).length<=((q::r).length+1) * (B+y.length)
  rw [Qm,Qm,Nat.succ_mul];lia
end My
namespace My
open PySem.Spec PySem.SeqAt L2 CL DL OB SD ZL SL EL DC EX TX TB TX
def top(i:Nat):Zj:=PySem.Challenge.pw_lampfloor_k71_whole_walker.main.body.getD i (.Pass ⟨0,0,0,0⟩)
structure Fo(K:PySem.W.Frag)(mg:Str->Option JS)(n:Str)(st:Zj)(ps:List Str)(a:YP)(d:J5):Prop where
 F:eG K n n st a d
 m:mg n=some (.ref a)
 b:L2.Binds K d ps []
theorem cI{N P:List Str}{sc:ZY}(h:(sc.kind,sc.isCoroutine,sc.isGenerator,N.take P.length)=(.function,false,false,P))(q:N.Nodup/\(∀ x∈P,sc.names.lookup x=some .local ∨ sc.names.lookup x=some .cell)/\∀ y∈sc.names,y.2≠.free):bQ N P sc:=by
 injection h with h1 h
 injection h with h2 h
 injection h with h3 h4
 exact⟨h1,h2,h3,q.1,h4,q.2.1,q.2.2⟩
theorem aI{X:Cx}{e:Expr}{es:List Expr}{ga:aA->Option D}{gr:aA->Option (List D)}(b:DE X e ga)(a:DA X es gr)(h:BG e=true):DA X (e::es) (aC ga gr):=Rr b a h
theorem gT{X:Cx}{es:List Expr}{gr:aA->Option (List D)}{x1 pos}(h:DA X es gr):DE X (.Tuple es x1 pos) (cH gr):=Ry h
theorem cB{X:Cx}{e:Expr}{es:List Expr}{gr:aA->Option (List D)}{p a:Pos}{k m n:Nat}{f:YP}{i:J5}{h:List Str}{st:Zj}{x:Str}{G:List D->Option D}(F:Fo X.K X.mg x st h f i)(q:aK X.prog X.w X.K X.mg X.base aL k f i h (aX X.K n G))(j:bU m X.A)(l:Gl X x)
  (o:DA X (e::es) gr) (c:∀ ρ ds,gr ρ=some ds->ds.length=n) (d:k<=m:=by decide) (g:(x == ("__debug__":Str))=false:=by decide) (he:JU (e::es) X.env=(false,Za e X.env)::JU es X.env:=by rfl) (hpl:(Zb a (JU es X.env)).any (·.1)=false:=by rfl):DE X (.Call (.Name x p) (e::es) [] a) (aR G gr):=Rs q (j.mono d) l F.m F.F.kp F.b o c g he hpl
theorem MZ:∀(ρ:aA) (ds:List D),aG ρ=some ds->ds.length=0:=fun _ _ h=>Rf h
section
variable {a b c d e f:aA->Option D}
theorem fG:∀(ρ:aA) (ds:List D),aC a aG ρ=some ds->ds.length=1:=xS MZ
theorem ln2:∀(ρ:aA) (ds:List D),aC a (aC b aG) ρ=some ds->ds.length=2:=xS fG
theorem jY:∀(ρ:aA) (ds:List D),aC a (aC b (aC c aG)) ρ=some ds->ds.length=3:=xS ln2
theorem ln4:∀(ρ:aA) (ds:List D),aC a (aC b (aC c (aC d aG))) ρ=some ds->ds.length=4:=xS jY
end
abbrev zX:Zj:=top 6
abbrev vL:Zj:=top 12
abbrev sF:Zj:=top 14
abbrev Ac:Zj:=top 16
abbrev zS:Zj:=top 17
abbrev Ad:Zj:=top 26
abbrev zW:Zj:=top 30
abbrev vG:Zj:=top 33
abbrev zQ:Zj:=top 7
abbrev zU:Zj:=top 13
abbrev zY:Zj:=top 19
abbrev zV:Zj:=top 31
abbrev vJ:Zj:=top 34
abbrev Ab:Zj:=top 8
abbrev vH:Zj:=top 32
abbrev zP:Zj:=top 9
abbrev zZ:Zj:=top 10
abbrev zR:Zj:=top 11
abbrev Aa:Zj:=top 27
abbrev vK:Zj:=top 20
abbrev vM:Zj:=top 21
abbrev sE:Zj:=top 36
abbrev vI:Zj:=top 22
abbrev vF:Zj:=top 23
abbrev sG:Zj:=top 37
def jP:List (Str × D):=[("n",.tuple [.int 0,.int (-1)]),("e",.tuple [.int 1,.int 0]),("s",.tuple [.int 0,.int 1]),("w",.tuple [.int (-1),.int 0])]
def C3:List Str:=["thing"]
theorem Od:bQ C3 ["thing"] (aS zX):=cI rfl (by decide +kernel)
def FK:aA->Option aQ:=
  (cJ (oK (rW "int" (eV 0)) (AF (rW "bool" (eV 0)))))
def qV:List D->Option D:=cP 1 FK
def yW:List Str:=["floor","cells","x"]
theorem BX:bQ yW ["floor"] (aS vL):=cI rfl (by decide +kernel)
def EZ:List Str:=["y","x"]
theorem Vx:EZ.Nodup:=by decide +kernel
def AX:aA->Option aQ:=
  (bK (pI 1 aG)
  (bK (iS (iT (aC (aF aO (eV 0) (eC (.int 0))) aG)) (bX 2) (pH 1 (fR (fU (iT (aC (aF aO (eV 0) (eC (.int 1))) aG)) (bX 0) eT (cH (aC (eV 1) (aC (eV 0) aG))) [none,some 2]))))
  (cJ (eV 1))))
def n7:List D->Option D:=cP 3 AX
def uU:List Str:=["things"]
theorem HB:bQ uU ["things"] (aS sF):=cI rfl (by decide +kernel)
def A6:List Str:=["thing"]
theorem G2:A6.Nodup:=by decide +kernel
def FM:aA->Option aQ:=
  (cJ (aR Bh (aC (fR (fU (eM (eV 0)) (bX 0) eT (cH (aC (eV 0) (aC (eC (.bool true)) aG))) [none])) aG)))
def iD:List D->Option D:=cP 1 FM
def C8:List Str:=["one","other","far_x","far_y","way_x","way_y","gone_x","gone_y","cells","border_x","border_y"]
theorem iX:bQ C8 ["one","other"] (aS Ac):=cI rfl (by decide +kernel)
def AZ:aA->Option aQ:=
  (bK (dI 2 (aR rR (aC (aF u6 (aF aO (eV 1) (eC (.int 0))) (aF aO (eV 0) (eC (.int 0)))) aG)))
  (bK (dI 3 (aR rR (aC (aF u6 (aF aO (eV 1) (eC (.int 1))) (aF aO (eV 0) (eC (.int 1)))) aG)))
  (bK (dI 4 (kP (eB (aF rS (aF aO (eV 1) (eC (.int 0))) (aF aO (eV 0) (eC (.int 0))))) (eC (.int 1)) (jV jD (eC (.int 1)))))
  (bK (dI 5 (kP (eB (aF rS (aF aO (eV 1) (eC (.int 1))) (aF aO (eV 0) (eC (.int 1))))) (eC (.int 1)) (jV jD (eC (.int 1)))))
  (bK (dI 6 (eC (.int 0)))
  (bK (dI 7 (eC (.int 0)))
  (bK (pI 8 (aC (eV 0) aG))
  (bK (l8 (hW (eB (aF pA (eV 6) (eV 2))) (eB (aF pA (eV 7) (eV 3)))) (bK (dI 9 (aF cY (aF bM (aF cY (eC (.int 2)) (eV 6)) (eC (.int 1))) (eV 3)))
  (bK (dI 10 (aF cY (aF bM (aF cY (eC (.int 2)) (eV 7)) (eC (.int 1))) (eV 2)))
  (bK (dY (eB (aF o9 (eV 9) (eV 10))) (dI 6 (aF bM (eV 6) (eC (.int 1)))) fX)
  (bK (dY (eB (aF o9 (eV 10) (eV 9))) (dI 7 (aF bM (eV 7) (eC (.int 1)))) fX)
  (nO 8 (cH (aC (aF bM (aF aO (eV 0) (eC (.int 0))) (aF cY (eV 4) (eV 6))) (aC (aF bM (aF aO (eV 0) (eC (.int 1))) (aF cY (eV 5) (eV 7))) aG)))))))) 900)
  (cJ (eV 8))))))))))
def sQ:List D->Option D:=cP 11 AZ
def CY:List Str:=["cells","couples","here","there"]
theorem xD:bQ CY ["cells"] (aS zS):=cI rfl (by decide +kernel)
def AY:aA->Option aQ:=
  (bK (pI 1 aG)
  (bK (iS (rZ (aC (eV 0) (aC (pC (eV 0) (oE (eC (.int 1))) pG) aG))) (kW 2 (gF (bX 2) (gF (bX 3) j2))) (dY (jT (eB (aF cA (aF aO (eV 2) (eC (.int 0))) (aF aO (eV 3) (eC (.int 0))))) (eB (aF cA (aF aO (eV 2) (eC (.int 1))) (aF aO (eV 3) (eC (.int 1)))))) (nO 1 (aR qZ (aC (aR k6 (aC (gJ (aC (cH (aC (aF aO (eV 2) (eC (.int 0))) (aC (aF aO (eV 3) (eC (.int 1))) aG))) (aC (cH (aC (aF aO (eV 3) (eC (.int 0))) (aC (aF aO (eV 2) (eC (.int 1))) aG))) aG))) aG)) aG))) fX))
  (cJ (eV 1))))
def qT:List D->Option D:=cP 4 AY
def C9:List Str:=["cell","word"]
theorem Og:bQ C9 ["cell","word"] (aS Ad):=cI rfl (by decide +kernel)
def FF:aA->Option aQ:=
  (cJ (cH (aC (aF bM (aF aO (eV 0) (eC (.int 0))) (aF aO (pE jP (eV 1)) (eC (.int 0)))) (aC (aF bM (aF aO (eV 0) (eC (.int 1))) (aF aO (pE jP (eV 1)) (eC (.int 1)))) aG))))
def sP:List D->Option D:=cP 2 FF
def C1:List Str:=["_law_script","_law_k"]
theorem Ob:bQ C1 ["_law_script","_law_k"] (aS zW):=cI rfl (by decide +kernel)
def FA:aA->Option aQ:=
  (bK (dY (eB (aF iO (eV 0) (gJ aG))) (cJ (aF cY (eC (.int 7)) (eV 1))) fX)
  (cJ (aF bM (aF aO (eV 0) (aF hJ (eV 1) (aR eK (aC (eV 0) aG)))) (aF cY (eC (.int 6553)) (aF k4 (eV 1) (aR eK (aC (eV 0) aG)))))))
def sN:List D->Option D:=cP 2 FA
def yR:List Str:=["_law_floor_here"]
theorem N7:bQ yR ["_law_floor_here"] (aS vG):=cI rfl (by decide +kernel)
def ET:List Str:=["_law_at","_law_floor_here"]
theorem Vs:ET.Nodup:=by decide +kernel
def FC:aA->Option aQ:=
  (cJ (fR (fU (iT (aC (aF cY (aF aO (eV 0) (eC (.int 0))) (aF aO (eV 0) (eC (.int 1)))) aG)) (bX 0) eT (cH (aC (aF k4 (eV 0) (aF aO (eV 1) (eC (.int 1)))) (aC (aF hJ (eV 0) (aF aO (eV 1) (eC (.int 1)))) aG))) [none,some 0])))
def n6:List D->Option D:=cP 1 FC
def CV:List Str:=["thing"]
theorem N5:bQ CV ["thing"] (aS zQ):=cI rfl (by decide +kernel)
def FL:aA->Option aQ:=
  (bK (dY (hW (kQ (eB (rW "tuple" (eV 0)))) (eB (aF cA (aR eK (aC (eV 0) aG)) (eC (.int 2))))) (cJ (eC (.bool false))) fX)
  (cJ (oK (aR qV (aC (aF aO (eV 0) (eC (.int 0))) aG)) (aR qV (aC (aF aO (eV 0) (eC (.int 1))) aG)))))
def sR:List D->Option D:=cP 1 FL
def CZ:List Str:=["floor"]
theorem N8:bQ CZ ["floor"] (aS zU):=cI rfl (by decide +kernel)
def Fb:aA->Option aQ:=
  (cJ (k7 (AD (jU (aC (aR n7 (aC (eV 0) aG)) aG)) (jU (aC (aF aO (eV 0) (eC (.int 2))) aG)))))
def j8:List D->Option D:=cP 1 Fb
def C4:List Str:=["solids","one","other","cells","cell","first","second"]
theorem tE:bQ C4 ["solids","one","other"] (aS zY):=cI rfl (by decide +kernel)
def A2:aA->Option aQ:=
  (bK (dI 3 (aR sQ (aC (eV 1) (aC (eV 2) aG))))
  (bK (iS (eM (pC (eV 3) pG (oE (jV jD (eC (.int 1)))))) (bX 4) (dY (eB (aF (fF false) (eV 4) (eV 0))) (cJ (eC (.bool false))) fX))
  (bK (iS (eM (aR qT (aC (eV 3) aG))) (kW 2 (gF (bX 5) (gF (bX 6) j2))) (dY (jT (eB (aF (fF false) (eV 5) (eV 0))) (eB (aF (fF false) (eV 6) (eV 0)))) (cJ (eC (.bool false))) fX))
  (cJ (eC (.bool true))))))
def n8:List D->Option D:=cP 7 A2
def C0:List Str:=["_law_script","_law_k","_law_many","_law_cell_here"]
theorem BW:bQ C0 ["_law_script","_law_k","_law_many"] (aS zV):=cI rfl (by decide +kernel)
def FD:aA->Option aQ:=
  (bK (dI 3 (aF hJ (aF bM (aF cY (aF hJ (aR sN (aC (eV 0) (aC (eV 1) aG))) (eC (.int 2147483563))) (eC (.int 69069))) (aF cY (eC (.int 104723)) (aF bM (eV 1) (eC (.int 1))))) (eC (.int 2147483563))))
  (bK (dI 3 (aF hJ (aF bM (aF cY (eV 3) (eV 3)) (aF k4 (eV 3) (eC (.int 3)))) (eC (.int 2147483399))))
  (cJ (aF hJ (aF k4 (aF hJ (aF bM (aF cY (eV 3) (eV 3)) (aF k4 (eV 3) (eC (.int 7)))) (eC (.int 2147483647))) (eC (.int 11))) (eV 2)))))
def e8:List D->Option D:=cP 4 FD
def yU:List Str:=["_law_floor_here"]
theorem N9:bQ yU ["_law_floor_here"] (aS vJ):=cI rfl (by decide +kernel)
def EW:List Str:=["_law_cell_here","_law_floor_here"]
theorem Vv:EW.Nodup:=by decide +kernel
def FE:aA->Option aQ:=
  (cJ (fR (fU (eM (aR n6 (aC (eV 0) aG))) (bX 0) (eB (aF (dG true) (eV 0) (aF aO (eV 1) (eC (.int 2))))) (eV 0) [none,some 0])))
def sO:List D->Option D:=cP 1 FE
def C7:List Str:=["floor","thing"]
theorem Of:bQ C7 ["floor","thing"] (aS Ab):=cI rfl (by decide +kernel)
def FI:aA->Option aQ:=
  (bK (dY (kQ (eB (aR sR (aC (eV 1) aG)))) (cJ (eC (.bool false))) fX)
  (cJ (oK (t7 o9 pA (eC (.int 0)) (aF aO (eV 1) (eC (.int 0))) (aF aO (eV 0) (eC (.int 0)))) (t7 o9 pA (eC (.int 0)) (aF aO (eV 1) (eC (.int 1))) (aF aO (eV 0) (eC (.int 1)))))))
def mF:List D->Option D:=cP 2 FI
def yS:List Str:=["_law_script","_law_at","_law_most","_law_wide","_law_high","_law_rate","_law_shuts","_law_x"]
theorem qG:bQ yS ["_law_script","_law_at","_law_most"] (aS vH):=cI rfl (by decide +kernel)
def EU:List Str:=["_law_y","_law_x","_law_script","_law_rate","_law_at"]
theorem Vt:EU.Nodup:=by decide +kernel
def AW:aA->Option aQ:=
  (bK (dI 3 (aF bM (eC (.int 1)) (aR e8 (aC (eV 0) (aC (eV 1) (aC (eV 2) aG))))))
  (bK (dI 4 (aF bM (eC (.int 1)) (aR e8 (aC (eV 0) (aC (aF bM (eV 1) (eC (.int 1))) (aC (eV 2) aG))))))
  (bK (dI 5 (aF aO (gJ (aC (eC (.int 2)) (aC (eC (.int 3)) (aC (eC (.int 3)) (aC (eC (.int 5)) (aC (eC (.int 9)) aG)))))) (aR e8 (aC (eV 0) (aC (aF bM (eV 1) (eC (.int 2))) (aC (eC (.int 5)) aG))))))
  (bK (pI 6 aG)
  (bK (iS (iT (aC (eV 3) aG)) (bX 7) (pH 6 (fR (fU (iT (aC (eV 4) aG)) (bX 0) (eB (aF iO (aR e8 (aC (eV 2) (aC (aF bM (aF bM (aF bM (eV 4) (eC (.int 3))) (aF cY (eC (.int 8)) (eV 1))) (eV 0)) (aC (eV 3) aG)))) (eC (.int 0)))) (cH (aC (eV 1) (aC (eV 0) aG))) [none,some 7,some 0,some 5,some 1]))))
  (cJ (cH (aC (eV 3) (aC (eV 4) (aC (aR qZ (aC (eV 6) aG)) aG))))))))))
def qS:List D->Option D:=cP 8 AW
def CU:List Str:=["floor","cell"]
theorem N4:bQ CU ["floor","cell"] (aS zP):=cI rfl (by decide +kernel)
def Fd:aA->Option aQ:=
  (dY (kQ (eB (aR mF (aC (eV 0) (aC (eV 1) aG))))) (fun _=>none) fX)
def tP:List D->Option D:=cP 2 Fd
def C5:List Str:=["floor","cell"]
theorem Oe:bQ C5 ["floor","cell"] (aS zZ):=cI rfl (by decide +kernel)
def FJ:aA->Option aQ:=
  (bK (n0 (aR tP (aC (eV 0) (aC (eV 1) aG))))
  (cJ (aF (dG false) (eV 1) (aF aO (eV 0) (eC (.int 2))))))
def i1:List D->Option D:=cP 2 FJ
def CW:List Str:=["floor","cell"]
theorem N6:bQ CW ["floor","cell"] (aS zR):=cI rfl (by decide +kernel)
def Fc:aA->Option aQ:=
  (dY (eB (aR i1 (aC (eV 0) (aC (eV 1) aG)))) (fun _=>none) fX)
def n9:List D->Option D:=cP 2 Fc
def C6:List Str:=["floor","cell","word","there"]
theorem HA:bQ C6 ["floor","cell","word"] (aS Aa):=cI rfl (by decide +kernel)
def xW:aA->Option aQ:=
  (bK (dY (eB (AE jP (eV 2))) (BV "NoStep" (sA [(zI (eV 2)),zG])) fX)
  (bK (dI 3 (aR sP (aC (eV 1) (aC (eV 2) aG))))
  (bK (dY (hW (kQ (eB (aR mF (aC (eV 0) (aC (eV 3) aG))))) (eB (aR i1 (aC (eV 0) (aC (eV 3) aG))))) (BV "NoStep" (sA [zG,(zI (eV 3))])) fX)
  (cJ (eV 3)))))
def j7:List D->Option R:=nG 4 xW
def v6:List D->Option D:=pL j7
def yV:List Str:=["floor","cell","solids"]
theorem Im:bQ yV ["floor","cell"] (aS vK):=cI rfl (by decide +kernel)
def EY:List Str:=["other","solids","cell"]
theorem Vw:EY.Nodup:=by decide +kernel
def Av:aA->Option aQ:=
  (bK (n0 (aR n9 (aC (eV 0) (aC (eV 1) aG))))
  (bK (dI 2 (aR iD (aC (aF aO (eV 0) (eC (.int 2))) aG)))
  (cJ (fR (fU (eM (aR n7 (aC (eV 0) aG))) (bX 0) (eB (aR n8 (aC (eV 1) (aC (eV 2) (aC (eV 0) aG))))) (eV 0) [none,some 2,some 1])))))
def gW:List D->Option D:=cP 3 Av
def yX:List Str:=["floor","cell","solids"]
theorem Io:bQ yX ["floor","cell"] (aS vM):=cI rfl (by decide +kernel)
def E5:List Str:=["other","solids","cell"]
theorem Vy:E5.Nodup:=by decide +kernel
def A1:aA->Option aQ:=
  (bK (n0 (aR n9 (aC (eV 0) (aC (eV 1) aG))))
  (bK (dI 2 (aR iD (aC (aF aO (eV 0) (eC (.int 2))) aG)))
  (cJ (fR (fU (eM (aR j8 (aC (eV 0) aG))) (bX 0) (eB (aR n8 (aC (eV 1) (aC (eV 2) (aC (eV 0) aG))))) (eV 0) [none,some 2,some 1])))))
def qU:List D->Option D:=cP 3 A1
def yT:List Str:=["floor","cells","times","cell","other"]
theorem xE:bQ yT ["floor","cells"] (aS vI):=cI rfl (by decide +kernel)
def EV:List Str:=["cell"]
theorem Vu:EV.Nodup:=by decide +kernel
def Aw:aA->Option aQ:=
  (bK (xA 2 (aC (fR (fU (eM (aR j8 (aC (eV 0) aG))) (bX 0) eT (cH (aC (eV 0) (aC (eC (.int 0)) aG))) [none])) aG))
  (bK (iS (eM (eV 1)) (bX 3) (iS (eM (aR qU (aC (eV 0) (aC (eV 3) aG)))) (bX 4) (sD 2 (eV 4) (aF bM (t8 2 (eV 4)) (eC (.int 1))))))
  (cJ (eV 2))))
def tS:List D->Option D:=cP 5 Aw
def yQ:List Str:=["floor","cells","times"]
theorem Il:bQ yQ ["floor","cells"] (aS vF):=cI rfl (by decide +kernel)
def ES:List Str:=["cell","times"]
theorem Vr:ES.Nodup:=by decide +kernel
def Au:aA->Option aQ:=
  (bK (dI 2 (aR tS (aC (eV 0) (aC (eV 1) aG))))
  (cJ (fR (fU (u7 (eV 2)) (bX 0) (eB (aF rS (aF y9 (eV 1) (eV 0)) (eC (.int 0)))) (eV 0) [none,some 2]))))
def tQ:List D->Option D:=cP 3 Au
structure Txt(K:PySem.W.Frag)(mg:Str->Option JS)(a:Nat->YP)(d:Nat->J5)(w:J1)(ta:Nat->YP)(e_NoStep:YP):Prop where
 F_qf:Fo K mg "is_whole" zX ["thing"] (a 0) (d 0)
 F_qd:Fo K mg "all_cells" vL ["floor"] (a 1) (d 1)
 F_qm:Fo K mg "marked" sF ["things"] (a 2) (d 2)
 F_ql:Fo K mg "crossed" Ac ["one","other"] (a 3) (d 3)
 F_q3:Fo K mg "couples_beside" zS ["cells"] (a 4) (d 4)
 F_qn:Fo K mg "beside" Ad ["cell","word"] (a 5) (d 5)
 F_qc:Fo K mg "_law_cell" zW ["_law_script","_law_k"] (a 6) (d 6)
 F_q5:Fo K mg "_law_cells" vG ["_law_floor_here"] (a 7) (d 7)
 F_q1:Fo K mg "is_whole_couple" zQ ["thing"] (a 8) (d 8)
 F_q6:Fo K mg "open_cells" zU ["floor"] (a 9) (d 9)
 F_qg:Fo K mg "lets_see" zY ["solids","one","other"] (a 10) (d 10)
 F_q9:Fo K mg "_law_drawn" zV ["_law_script","_law_k","_law_many"] (a 11) (d 11)
 F_qa:Fo K mg "_law_open" vJ ["_law_floor_here"] (a 12) (d 12)
 F_qk:Fo K mg "is_cell" Ab ["floor","thing"] (a 13) (d 13)
 F_q7:Fo K mg "_law_floor" vH ["_law_script","_law_at","_law_most"] (a 14) (d 14)
 F_q0:Fo K mg "refuse_off_floor" zP ["floor","cell"] (a 15) (d 15)
 F_qi:Fo K mg "is_solid" zZ ["floor","cell"] (a 16) (d 16)
 F_q2:Fo K mg "refuse_not_open" zR ["floor","cell"] (a 17) (d 17)
 F_qj:Fo K mg "stepped" Aa ["floor","cell","word"] (a 18) (d 18)
 F_qb:Fo K mg "seen_from" vK ["floor","cell"] (a 19) (d 19)
 F_qh:Fo K mg "field_of" vM ["floor","cell"] (a 20) (d 20)
 F_qe:Fo K mg "_law_gone" sE ["_law_walker","_law_word"] (a 21) (d 21)
 F_q8:Fo K mg "times_seen" vI ["floor","cells"] (a 22) (d 22)
 F_q4:Fo K mg "seen_by_any" vF ["floor","cells"] (a 23) (d 23)
 F_qo:Fo K mg "law" sG ["_law_script"] (a 24) (d 24)
 z_isinstance:mg "isinstance"=none
 z_int:mg "int"=none
 z_bool:mg "bool"=none
 z_range:mg "range"=none
 z_dict:mg "dict"=none
 z_abs:mg "abs"=none
 z_zip:mg "zip"=none
 z_sorted:mg "sorted"=none
 z_tuple:mg "tuple"=none
 z_len:mg "len"=none
 z_set:mg "set"=none
 z_max:mg "max"=none
 z_min:mg "min"=none
 z_list:mg "list"=none
 tm_STEPS:mg "STEPS"=some (.ref (ta 0))
 tt_STEPS:lP K w (ta 0) jP
 tl_STEPS:(ta 0 == Zp)=false
 xn_NoStep:PySem.W.nsIn K J4 "NoStep"=some (some (.ref e_NoStep))
 xe_NoStep:PySem.W.excIn K e_NoStep [.type "ValueError",.type "Exception",.type "BaseException",.type "object"] "ValueError.__new__"=true
 xm_NoStep:mg "NoStep"=some (.ref e_NoStep)
 xt_NoStep_NoStep:PySem.W.subIn K (.ref e_NoStep) (.ref e_NoStep)=some true
 xb_NoStep:PySem.W.subIn K (.ref e_NoStep) (.type "BaseException")=some true
section
variable {P:JY}{w:J1}{K:PySem.W.Frag}{mg:Str->Option JS}{base:Heap}{a:Nat->YP}{d:Nat->J5}{ta:Nat->YP}{e_NoStep:YP}(T:Txt K mg a d w ta e_NoStep)
include T
theorem Nt:aK P w K mg base aL 1 (a 0) (d 0) ["thing"] (aX K 1 qV):=by
 refine dU (g:=FK) (G:=qV) (N:=C3) (k:=0) rfl rfl rfl T.F_qf.F Od fun c A b s H E e=>?_
 exact(bN (c4 (Bk (Bm (T:="int") (.inr (.inr (.inl rfl))) rfl T.z_isinstance rfl T.z_int boot_int (by decide) (aD 0)) (Bn (Ru (Bm (T:="bool") (.inr (.inr (.inr (.inl rfl)))) rfl T.z_isinstance rfl T.z_bool boot_bool (by decide) (aD 0)))))))
theorem Nr:aK P w K mg base aL 1 (a 1) (d 1) ["floor"] (aX K 1 n7):=by
 refine dU (g:=AX) (G:=n7) (N:=yW) (k:=0) rfl rfl rfl T.F_qd.F BX fun c A b s H E e=>?_
 exact(bW (xM (i:=1) BX.nd aP)
  (bW (oJ Yn rfl (q8 rfl T.z_range (aI (bI bD (aD 0) aN) aP rfl)) (e9 (i:=2) BX.nd) (bN (Gf (i:=1) (kA rfl (gM (N':=EZ) (inner:=[none,some 2]) (aS vL) yW rfl rfl (by decide +kernel)) (kC 0) (q8 rfl T.z_range (aI (bI bD (aD 0) aN) aP rfl)) (fun _ _ _ _ _=>(e9 (i:=0) Vx)) (fun _ _ _ _ _=>tZ) (fun _ _ _ _ _=>(gT (aI (aD 1) (aI (aD 0) aP rfl) rfl)))))))
  (bN (c4 (aD 1)))))
theorem Nz:aK P w K mg base aL 1 (a 2) (d 2) ["things"] (aX K 1 iD):=by
 refine dU (g:=FM) (G:=iD) (N:=uU) (k:=0) rfl rfl rfl T.F_qm.F HB fun e A b s H E c=>?_
 exact(bN (c4 (vZ (RP rfl (jK c)) rfl T.z_dict DC.boot_dict (aI (kA rfl (gM (N':=A6) (inner:=[none]) (aS sF) uU rfl rfl (by decide +kernel)) (kC 0) (i6 (aD 0)) (fun _ _ _ _ _=>(e9 (i:=0) G2)) (fun _ _ _ _ _=>tZ) (fun _ _ _ _ _=>(gT (aI (aD 0) (aI gC aP rfl) rfl)))) aP rfl))))
theorem Ny:aK P w K mg base aL 1 (a 3) (d 3) ["one","other"] (aX K 2 sQ):=by
 refine dU (g:=AZ) (G:=sQ) (N:=C8) (k:=0) rfl rfl rfl T.F_ql.F iX fun c A b s H E e=>?_
 exact(bW (eS (i:=2) iX.nd (gX EH rfl T.z_abs boot_abs (aI (bF Iu (bI bD (aD 1) aN) (bI bD (aD 0) aN)) aP rfl)))
  (bW (eS (i:=3) iX.nd (gX EH rfl T.z_abs boot_abs (aI (bF Iu (bI bD (aD 1) aN) (bI bD (aD 0) aN)) aP rfl)))
  (bW (eS (i:=4) iX.nd (Bl (dB Cr (bI bD (aD 1) aN) (bI bD (aD 0) aN) (dL _)) aN (tX tJ aN)))
  (bW (eS (i:=5) iX.nd (Bl (dB Cr (bI bD (aD 1) aN) (bI bD (aD 0) aN) (dL _)) aN (tX tJ aN)))
  (bW (eS (i:=6) iX.nd aN)
  (bW (eS (i:=7) iX.nd aN)
  (bW (xM (i:=8) iX.nd (aI (aD 0) aP rfl))
  (bW (Rb 900 Yn (pB (xQ (dB wO (aD 6) (aD 2) (dL _)) (xR (dB wO (aD 7) (aD 3) (dL _))))) (bW (eS (i:=9) iX.nd (bF g7 (bF dC (bF g7 aN (aD 6)) aN) (aD 3)))
  (bW (eS (i:=10) iX.nd (bF g7 (bF dC (bF g7 aN (aD 7)) aN) (aD 2)))
  (bW (i7 (dB wN (aD 9) (aD 10) (dL _)) (bN (eS (i:=6) iX.nd (bF dC (aD 6) aN))) i8)
  (bW (i7 (dB wN (aD 10) (aD 9) (dL _)) (bN (eS (i:=7) iX.nd (bF dC (aD 7) aN))) i8)
  (bN (Gd (i:=8) (gT (aI (bF dC (bI bD (aD 0) aN) (bF g7 (aD 4) (aD 6))) (aI (bF dC (bI bD (aD 0) aN) (bF g7 (aD 5) (aD 7))) aP rfl) rfl)))))))))
  (bN (c4 (aD 8)))))))))))
theorem Nh:aK P w K mg base aL 1 (a 4) (d 4) ["cells"] (aX K 1 qT):=by
 refine dU (g:=AY) (G:=qT) (N:=CY) (k:=0) rfl rfl rfl T.F_q3.F xD fun e A b s H E c=>?_
 exact(bW (xM (i:=1) xD.nd aP)
  (bW (oJ Yn rfl (RB rfl T.z_zip (aI (aD 0) (aI (FR (aD 0) (tY aN) Gb) aP rfl) rfl)) (FU rfl (v4 (e9 (i:=2) xD.nd) (v4 (e9 (i:=3) xD.nd) FV))) (bN (i7 (pB (Gj (dB (iH (eP c)) (bI bD (aD 2) aN) (bI bD (aD 3) aN) (dL _)) (Gk (dB (iH (eP c)) (bI bD (aD 2) aN) (bI bD (aD 3) aN) (dL _))))) (bN (Gd (i:=1) (vZ EK rfl T.z_tuple boot_tuple (aI (gX (EJ (jK c)) rfl T.z_sorted Vf (aI (@oH _ _ _ _ (aI (gT (aI (bI bD (aD 2) aN) (aI (bI bD (aD 3) aN) aP rfl) rfl)) (aI (gT (aI (bI bD (aD 3) aN) (aI (bI bD (aD 2) aN) aP rfl) rfl)) aP rfl) rfl)) aP rfl)) aP rfl)))) i8)))
  (bN (c4 (aD 1)))))
theorem NA:aK P w K mg base aL 1 (a 5) (d 5) ["cell","word"] (aX K 2 sP):=by
 refine dU (g:=FF) (G:=sP) (N:=C9) (k:=0) rfl rfl rfl T.F_qn.F Og fun c A b s H E e=>?_
 exact(bN (c4 (gT (aI (bF dC (bI bD (aD 0) aN) (bI bD (FS rfl T.tm_STEPS T.tt_STEPS (aD 1)) aN)) (aI (bF dC (bI bD (aD 0) aN) (bI bD (FS rfl T.tm_STEPS T.tt_STEPS (aD 1)) aN)) aP rfl) rfl))))
theorem Nq:aK P w K mg base aL 1 (a 6) (d 6) ["_law_script","_law_k"] (aX K 2 sN):=by
 refine dU (g:=FA) (G:=sN) (N:=C1) (k:=0) rfl rfl rfl T.F_qc.F Ob fun e A b s H E c=>?_
 exact(bW (i7 (dB (Cq (eP c)) (aD 0) (@oH _ _ _ _ aP) (dL _)) (bN (c4 (bF g7 aN (aD 1)))) i8)
  (bN (c4 (bF dC (bI bD (aD 0) (bF nR (aD 1) (gX oF rfl T.z_len PySem.boot_len (aI (aD 0) aP rfl)))) (bF g7 aN (bF sS (aD 1) (gX oF rfl T.z_len PySem.boot_len (aI (aD 0) aP rfl))))))))
theorem Nj:aK P w K mg base aL 1 (a 7) (d 7) ["_law_floor_here"] (aX K 1 n6):=by
 refine dU (g:=FC) (G:=n6) (N:=yR) (k:=0) rfl rfl rfl T.F_q5.F N7 fun c A b s H E e=>?_
 exact(bN (c4 (kA rfl (gM (N':=ET) (inner:=[none,some 0]) (aS vG) yR rfl rfl (by decide +kernel)) (kC 0) (q8 rfl T.z_range (aI (bF g7 (bI bD (aD 0) aN) (bI bD (aD 0) aN)) aP rfl)) (fun _ _ _ _ _=>(e9 (i:=0) Vs)) (fun _ _ _ _ _=>tZ) (fun _ _ _ _ _=>(gT (aI (bF sS (aD 0) (bI bD (aD 1) aN)) (aI (bF nR (aD 0) (bI bD (aD 1) aN)) aP rfl) rfl))))))
theorem Nf(b:aK P w K mg base aL 1 (a 0) (d 0) ["thing"] (aX K 1 qV)):aK P w K mg base aL 2 (a 8) (d 8) ["thing"] (aX K 1 sR):=by
 refine dU (g:=FL) (G:=sR) (N:=CV) (k:=1) rfl rfl rfl T.F_q1.F N5 fun f A c s H E e=>?_
 exact(bW (i7 (pB (xQ (xO (mL (Bm (T:="tuple") (.inr (.inl rfl)) rfl T.z_isinstance rfl T.z_tuple boot_tuple (by decide) (aD 0)))) (xR (dB (iH (eP e)) (gX oF rfl T.z_len PySem.boot_len (aI (aD 0) aP rfl)) aN (dL _))))) (bN (c4 gC)) i8)
  (bN (c4 (Bk (cB T.F_qf b e rfl (aI (bI bD (aD 0) aN) aP rfl) fG) (Bn (cB T.F_qf b e rfl (aI (bI bD (aD 0) aN) aP rfl) fG))))))
theorem Nk(c:aK P w K mg base aL 1 (a 1) (d 1) ["floor"] (aX K 1 n7)):aK P w K mg base aL 2 (a 9) (d 9) ["floor"] (aX K 1 j8):=by
 refine dU (g:=Fb) (G:=j8) (N:=CZ) (k:=1) rfl rfl rfl T.F_q6.F N8 fun f A e s H E b=>?_
 exact(bN (c4 (Bo rfl (jK b) rfl T.z_sorted Vf (Rc rfl (jK b) (xN rfl (eP b) rfl T.z_set boot_set (aI (cB T.F_qd c b rfl (aI (aD 0) aP rfl) fG) aP rfl)) (xN rfl (eP b) rfl T.z_set boot_set (aI (bI bD (aD 0) aN) aP rfl))))))
theorem Nu(c:aK P w K mg base aL 1 (a 3) (d 3) ["one","other"] (aX K 2 sQ))(e:aK P w K mg base aL 1 (a 4) (d 4) ["cells"] (aX K 1 qT)):aK P w K mg base aL 2 (a 10) (d 10) ["solids","one","other"] (aX K 3 n8):=by
 refine dU (g:=A2) (G:=n8) (N:=C4) (k:=1) rfl rfl rfl T.F_qg.F tE fun h A f s H E b=>?_
 exact(bW (eS (i:=3) tE.nd (cB T.F_ql c b rfl (aI (aD 1) (aI (aD 2) aP rfl) rfl) ln2))
  (bW (oJ Yn rfl (i6 (FR (aD 3) Gb (tY (tX tJ aN)))) (e9 (i:=4) tE.nd) (bN (i7 (dB (Cs (gL b)) (aD 4) (aD 0) (by with_unfolding_all rfl)) (bN (c4 gC)) i8)))
  (bW (oJ Yn rfl (i6 (cB T.F_q3 e b rfl (aI (aD 3) aP rfl) fG)) (FU rfl (v4 (e9 (i:=5) tE.nd) (v4 (e9 (i:=6) tE.nd) FV))) (bN (i7 (pB (Gj (dB (Cs (gL b)) (aD 5) (aD 0) (by with_unfolding_all rfl)) (Gk (dB (Cs (gL b)) (aD 6) (aD 0) (by with_unfolding_all rfl))))) (bN (c4 gC)) i8)))
  (bN (c4 gC)))))
theorem Nn(b:aK P w K mg base aL 1 (a 6) (d 6) ["_law_script","_law_k"] (aX K 2 sN)):aK P w K mg base aL 2 (a 11) (d 11) ["_law_script","_law_k","_law_many"] (aX K 3 e8):=by
 refine dU (g:=FD) (G:=e8) (N:=C0) (k:=1) rfl rfl rfl T.F_q9.F BW fun f A c s H E e=>?_
 exact(bW (eS (i:=3) BW.nd (bF nR (bF dC (bF g7 (bF nR (cB T.F_qc b e rfl (aI (aD 0) (aI (aD 1) aP rfl) rfl) ln2) aN) aN) (bF g7 aN (bF dC (aD 1) aN))) aN))
  (bW (eS (i:=3) BW.nd (bF nR (bF dC (bF g7 (aD 3) (aD 3)) (bF sS (aD 3) aN)) aN))
  (bN (c4 (bF nR (bF sS (bF nR (bF dC (bF g7 (aD 3) (aD 3)) (bF sS (aD 3) aN)) aN) aN) (aD 2))))))
theorem No(b:aK P w K mg base aL 1 (a 7) (d 7) ["_law_floor_here"] (aX K 1 n6)):aK P w K mg base aL 2 (a 12) (d 12) ["_law_floor_here"] (aX K 1 sO):=by
 refine dU (g:=FE) (G:=sO) (N:=yU) (k:=1) rfl rfl rfl T.F_qa.F N9 fun f A c s H E e=>?_
 exact(bN (c4 (kA rfl (gM (N':=EW) (inner:=[none,some 0]) (aS vJ) yU rfl rfl (by decide +kernel)) (kC 0) (i6 (cB T.F_q5 b e rfl (aI (aD 0) aP rfl) fG)) (fun _ _ _ _ _=>(e9 (i:=0) Vv)) (fun _ _ _ _ _=>(t6 (dB (p6 (gL e)) (aD 0) (bI bD (aD 1) aN) (by with_unfolding_all rfl)))) (fun _ _ _ _ _=>(aD 0)))))
theorem Nx(b:aK P w K mg base aL 2 (a 8) (d 8) ["thing"] (aX K 1 sR)):aK P w K mg base aL 3 (a 13) (d 13) ["floor","thing"] (aX K 2 mF):=by
 refine dU (g:=FI) (G:=mF) (N:=C7) (k:=2) rfl rfl rfl T.F_qk.F Of fun f A c s H E e=>?_
 exact(bW (i7 (xO (mL (cB T.F_q1 b e rfl (aI (aD 1) aP rfl) fG))) (bN (c4 gC)) i8)
  (bN (c4 (Bk (FO wN wO aN (bI bD (aD 1) aN) (bI bD (aD 0) aN)) (Bn (FO wN wO aN (bI bD (aD 1) aN) (bI bD (aD 0) aN)))))))
theorem Nl(b:aK P w K mg base aL 2 (a 11) (d 11) ["_law_script","_law_k","_law_many"] (aX K 3 e8)):aK P w K mg base aL 3 (a 14) (d 14) ["_law_script","_law_at","_law_most"] (aX K 3 qS):=by
 refine dU (g:=AW) (G:=qS) (N:=yS) (k:=2) rfl rfl rfl T.F_q7.F qG fun f A e s H E c=>?_
 exact(bW (eS (i:=3) qG.nd (bF dC aN (cB T.F_q9 b c rfl (aI (aD 0) (aI (aD 1) (aI (aD 2) aP rfl) rfl) rfl) jY)))
  (bW (eS (i:=4) qG.nd (bF dC aN (cB T.F_q9 b c rfl (aI (aD 0) (aI (bF dC (aD 1) aN) (aI (aD 2) aP rfl) rfl) rfl) jY)))
  (bW (eS (i:=5) qG.nd (bI bD (@oH _ _ _ _ (aI aN (aI aN (aI aN (aI aN (aI aN aP rfl) rfl) rfl) rfl) rfl)) (cB T.F_q9 b c rfl (aI (aD 0) (aI (bF dC (aD 1) aN) (aI aN aP rfl) rfl) rfl) jY)))
  (bW (xM (i:=6) qG.nd aP)
  (bW (oJ Yn rfl (q8 rfl T.z_range (aI (aD 3) aP rfl)) (e9 (i:=7) qG.nd) (bN (Gf (i:=6) (kA rfl (gM (N':=EU) (inner:=[none,some 7,some 0,some 5,some 1]) (aS vH) yS rfl rfl (by decide +kernel)) (kC 0) (q8 rfl T.z_range (aI (aD 4) aP rfl)) (fun _ _ _ _ _=>(e9 (i:=0) Vt)) (fun _ _ _ _ _=>(t6 (dB (Cq (eP c)) (cB T.F_q9 b c rfl (aI (aD 2) (aI (bF dC (bF dC (bF dC (aD 4) aN) (bF g7 aN (aD 1))) (aD 0)) (aI (aD 3) aP rfl) rfl) rfl) jY) aN (dL _)))) (fun _ _ _ _ _=>(gT (aI (aD 1) (aI (aD 0) aP rfl) rfl)))))))
  (bN (c4 (gT (aI (aD 3) (aI (aD 4) (aI (vZ EK rfl T.z_tuple boot_tuple (aI (aD 6) aP rfl)) aP rfl) rfl) rfl)))))))))
theorem Nd(b:aK P w K mg base aL 3 (a 13) (d 13) ["floor","thing"] (aX K 2 mF)):aK P w K mg base aL 4 (a 15) (d 15) ["floor","cell"] (aX K 2 tP):=by
 refine dU (g:=Fd) (G:=tP) (N:=CU) (k:=3) rfl rfl rfl T.F_q0.F N4 fun f A c s H E e=>?_
 exact(bN (i7 (xO (mL (cB T.F_qk b e rfl (aI (aD 0) (aI (aD 1) aP rfl) rfl) ln2))) (bN Gg) i8))
theorem Nw(b:aK P w K mg base aL 4 (a 15) (d 15) ["floor","cell"] (aX K 2 tP)):aK P w K mg base aL 5 (a 16) (d 16) ["floor","cell"] (aX K 2 i1):=by
 refine dU (g:=FJ) (G:=i1) (N:=C5) (k:=4) rfl rfl rfl T.F_qi.F Oe fun f A c s H E e=>?_
 exact(bW (AC (cB T.F_q0 b e rfl (aI (aD 0) (aI (aD 1) aP rfl) rfl) ln2))
  (bN (c4 (FP (yG (gL e)) (aD 1) (bI bD (aD 0) aN) (by with_unfolding_all rfl)))))
theorem Ng(b:aK P w K mg base aL 5 (a 16) (d 16) ["floor","cell"] (aX K 2 i1)):aK P w K mg base aL 6 (a 17) (d 17) ["floor","cell"] (aX K 2 n9):=by
 refine dU (g:=Fc) (G:=n9) (N:=CW) (k:=5) rfl rfl rfl T.F_q2.F N6 fun f A c s H E e=>?_
 exact(bN (i7 (mL (cB T.F_qi b e rfl (aI (aD 0) (aI (aD 1) aP rfl) rfl) ln2)) (bN Gg) i8))
theorem TW(c:aK P w K mg base aL 1 (a 5) (d 5) ["cell","word"] (aX K 2 sP))(f:aK P w K mg base aL 5 (a 16) (d 16) ["floor","cell"] (aX K 2 i1))(e:aK P w K mg base aL 3 (a 13) (d 13) ["floor","thing"] (aX K 2 mF)):aK P w K mg base (gP P w) 6 (a 18) (d 18) ["floor","cell","word"] (sJ K 3 j7):=by
 refine Mw (g:=xW) (G:=j7) (N:=C6) (k:=5) rfl rfl rfl T.F_qj.F HA fun j A h s H E b=>?_
 exact(bW (i7 (Re rfl T.tm_STEPS T.tt_STEPS T.tl_STEPS (aD 2) (by with_unfolding_all rfl)) (bN (Gh PySem.F.excBase_ValueError b.hd rfl T.xn_NoStep T.xe_NoStep rfl T.xm_NoStep (II (.cons (HL b.gd (jK b) (aD 2)) (.cons (HM (by decide)) .nil)) (by decide)))) i8)
  (bW (eS (i:=3) HA.nd (cB T.F_qn c b rfl (aI (aD 1) (aI (aD 2) aP rfl) rfl) ln2))
  (bW (i7 (pB (xQ (xO (mL (cB T.F_qk e b rfl (aI (aD 0) (aI (aD 3) aP rfl) rfl) ln2))) (xR (mL (cB T.F_qi f b rfl (aI (aD 0) (aI (aD 3) aP rfl) rfl) ln2))))) (bN (Gh PySem.F.excBase_ValueError b.hd rfl T.xn_NoStep T.xe_NoStep rfl T.xm_NoStep (II (.cons (HM (by decide)) (.cons (HL b.gd (jK b) (aD 3)) .nil)) (by decide)))) i8)
  (bN (c4 (aD 3))))))
theorem Np(f:aK P w K mg base aL 6 (a 17) (d 17) ["floor","cell"] (aX K 2 n9))(b:aK P w K mg base aL 1 (a 2) (d 2) ["things"] (aX K 1 iD))(e:aK P w K mg base aL 1 (a 1) (d 1) ["floor"] (aX K 1 n7))(c:aK P w K mg base aL 2 (a 10) (d 10) ["solids","one","other"] (aX K 3 n8)):aK P w K mg base aL 7 (a 19) (d 19) ["floor","cell"] (aX K 2 gW):=by
 refine dU (g:=Av) (G:=gW) (N:=yV) (k:=6) rfl rfl rfl T.F_qb.F Im fun l A j s H E h=>?_
 exact(bW (AC (cB T.F_q2 f h rfl (aI (aD 0) (aI (aD 1) aP rfl) rfl) ln2))
  (bW (eS (i:=2) Im.nd (cB T.F_qm b h rfl (aI (bI bD (aD 0) aN) aP rfl) fG))
  (bN (c4 (kA rfl (gM (N':=EY) (inner:=[none,some 2,some 1]) (aS vK) yV rfl rfl (by decide +kernel)) (kC 0) (i6 (cB T.F_qd e h rfl (aI (aD 0) aP rfl) fG)) (fun _ _ _ _ _=>(e9 (i:=0) Vw)) (fun _ _ _ _ _=>(t6 (mL (cB T.F_qg c h rfl (aI (aD 1) (aI (aD 2) (aI (aD 0) aP rfl) rfl) rfl) jY)))) (fun _ _ _ _ _=>(aD 0)))))))
theorem Nv(f:aK P w K mg base aL 6 (a 17) (d 17) ["floor","cell"] (aX K 2 n9))(b:aK P w K mg base aL 1 (a 2) (d 2) ["things"] (aX K 1 iD))(e:aK P w K mg base aL 2 (a 9) (d 9) ["floor"] (aX K 1 j8))(c:aK P w K mg base aL 2 (a 10) (d 10) ["solids","one","other"] (aX K 3 n8)):aK P w K mg base aL 7 (a 20) (d 20) ["floor","cell"] (aX K 2 qU):=by
 refine dU (g:=A1) (G:=qU) (N:=yX) (k:=6) rfl rfl rfl T.F_qh.F Io fun l A j s H E h=>?_
 exact(bW (AC (cB T.F_q2 f h rfl (aI (aD 0) (aI (aD 1) aP rfl) rfl) ln2))
  (bW (eS (i:=2) Io.nd (cB T.F_qm b h rfl (aI (bI bD (aD 0) aN) aP rfl) fG))
  (bN (c4 (kA rfl (gM (N':=E5) (inner:=[none,some 2,some 1]) (aS vM) yX rfl rfl (by decide +kernel)) (kC 0) (i6 (cB T.F_q6 e h rfl (aI (aD 0) aP rfl) fG)) (fun _ _ _ _ _=>(e9 (i:=0) Vy)) (fun _ _ _ _ _=>(t6 (mL (cB T.F_qg c h rfl (aI (aD 1) (aI (aD 2) (aI (aD 0) aP rfl) rfl) rfl) jY)))) (fun _ _ _ _ _=>(aD 0)))))))
theorem Nm(c:aK P w K mg base aL 7 (a 20) (d 20) ["floor","cell"] (aX K 2 qU))(e:aK P w K mg base aL 2 (a 9) (d 9) ["floor"] (aX K 1 j8)):aK P w K mg base aL 8 (a 22) (d 22) ["floor","cells"] (aX K 2 tS):=by
 refine dU (g:=Aw) (G:=tS) (N:=yT) (k:=7) rfl rfl rfl T.F_q8.F xE fun h A f s H E b=>?_
 exact(bW (RL (i:=2) xE.nd rfl (jK b) rfl T.z_dict DC.boot_dict (aI (kA rfl (gM (N':=EV) (inner:=[none]) (aS vI) yT rfl rfl (by decide +kernel)) (kC 0) (i6 (cB T.F_q6 e b rfl (aI (aD 0) aP rfl) fG)) (fun _ _ _ _ _=>(e9 (i:=0) Vu)) (fun _ _ _ _ _=>tZ) (fun _ _ _ _ _=>(gT (aI (aD 0) (aI aN aP rfl) rfl)))) aP rfl))
  (bW (oJ Yn rfl (i6 (aD 1)) (e9 (i:=3) xE.nd) (bN (oJ Yn rfl (i6 (cB T.F_qh c b rfl (aI (aD 0) (aI (aD 3) aP rfl) rfl) ln2)) (e9 (i:=4) xE.nd) (bN (RK (i:=2) (gL b) (aD 4) (bF dC (Rv (i:=2) (gL b) (aD 4)) aN))))))
  (bN (c4 (aD 2)))))
theorem Ni(b:aK P w K mg base aL 8 (a 22) (d 22) ["floor","cells"] (aX K 2 tS)):aK P w K mg base aL 9 (a 23) (d 23) ["floor","cells"] (aX K 2 tQ):=by
 refine dU (g:=Au) (G:=tQ) (N:=yQ) (k:=8) rfl rfl rfl T.F_q4.F Il fun f A c s H E e=>?_
 exact(bW (eS (i:=2) Il.nd (cB T.F_q8 b e rfl (aI (aD 0) (aI (aD 1) aP rfl) rfl) ln2))
  (bN (c4 (kA rfl (gM (N':=ES) (inner:=[none,some 2]) (aS vF) yQ rfl rfl (by decide +kernel)) (kC 0) (Rz (aD 2)) (fun _ _ _ _ _=>(e9 (i:=0) Vr)) (fun _ _ _ _ _=>(t6 (dB Cr (bI (MR (gL e)) (aD 1) (aD 0)) aN (dL _)))) (fun _ _ _ _ _=>(aD 0))))))
end
end My
namespace My
open PySem.Spec PySem.SeqAt L2 CL DL OB SD ZL SL EL DC KP ST TX TB EX
def oI:List D->Option (List (List Int))
 | []=>some []
 | d::r=>(cS d).bind fun k=>(oI r).bind fun a=>some (k::a)
def KB(K:PySem.W.Frag):Sp:=fun b H Q _=>∃(F:YP->Prop) (ds:List D) (ks:List (List Int)),(∀ a,F a->H a≠none)/\Reps K F H [.list ds] b/\oI ds=some ks/\ks.Nodup/\ks.length<=1000 /\
 ∀ F' H' p l ep,aH F F' H H'->H' p=none->l.map (·.1)=ks->(∀ q∈l,bJ K H' q.2 (q.1.map V.int))->Q (.ref p) (aJ H' p (bO p (cT l) ep))
theorem Sd(ds:List D):∀(s0:Sl),mG (bX 0) eT (cH (aC (eV 0) (aC (eC (.bool true)) aG))) ds [s0]=some (ds.map fun d=>.tuple [d,.bool true]):=by
 induction ds with
 | nil=>intro s0;rfl
 | cons d ds a=>
  intro s0;unfold mG
  show Option.bind _ _=_
  rw [show bX 0 d [s0]=some [.dat d]from rfl,Qc,show eT [Sl.dat d]=some true from rfl,Qc,if_pos rfl,show cH (aC (eV 0) (aC (eC (.bool true)) aG)) [Sl.dat d]=some (.tuple [d,.bool true])from rfl,Qc,a];rfl
theorem IB:∀{ds:List D}{ks:List (List Int)},oI ds=some ks->jO (ds.map fun d=>.tuple [d,.bool true])=some (ks.map fun k=>(k,.bool true))/\ds.length=ks.length
 | [],_,h=>by cases h;exact⟨rfl,rfl⟩
 | d::r,_,h=>by
  obtain⟨k,e,h⟩:=aE h;obtain⟨ks,c,h⟩:=aE h;cases h;obtain⟨b,a⟩:=IB c
  refine⟨?_,by rw [Qo,Qo,a]⟩
  rw [Qk];unfold jO
  have:p8 (.tuple [d,.bool true])=some (k,.bool true):=by
   show(cS d).bind _=_
   rw [e];rfl
  rw [this,Qc,b];rfl
theorem NL(l:List (List Int))(k:List Int)(h:k∉l):fJ (l.map fun k=>(hX k,J6 true)) k (.bool true)=(l++[k]).map fun k=>(hX k,J6 true):=by
 have b:fS (l.map fun k=>(hX k,J6 true)) k=false:=by
  unfold fS;rw [List.any_map,List.any_eq_false];intro x a q;have q:(cS (hX x) == some k)=true:=q;rw [Bp,beq_iff_eq]at q;exact h (QA q ▸ a)
 unfold fJ;rw [b,if_neg Qv,QX];rfl
theorem FY:∀(l acc:List (List Int)),(acc++l).Nodup->(l.map fun k=>(k,J6 true)).foldl (fun kvs p=>fJ kvs p.1 p.2) (acc.map fun k=>(hX k,J6 true))=(acc++l).map fun k=>(hX k,J6 true)
 | [],acc,_=>by rw [QG];rfl
 | c::l,acc,h=>by
  have a:c∉acc:=by
   rw [YJ]at h;exact fun q=>h.2.2 c q c Qh rfl
  rw [Qk,Ym]
  show(l.map _).foldl _ (fJ _ c (.bool true))=_
  rw [NL acc c a,FY l (acc++[c]) (by rw [Qw];exact h),Qw];rfl
theorem Hn:∀ ks:List (List Int),mP (ks.map fun k=>(hX k,J6 true))=some ks
 | []=>rfl
 | k::ks=>by
  rw [Qk];unfold mP;rw [Bp,Qc,show eJ (.bool true)=some true from rfl,Qc,if_pos rfl,Hn ks];rfl
section
variable {P:JY}{w:J1}{K:PySem.W.Frag}{mg:Str->Option JS}{base:Heap}{a:Nat->YP}{d:Nat->J5}{ta:Nat->YP}{e_NoStep:YP}(T:Txt K mg a d w ta e_NoStep)
include T
theorem TZ:aK P w K mg base aL 1 (a 2) (d 2) ["things"] (KB K):=by
 refine T.F_qm.F.ok HB (fun n H Q E h=>?_) (fun N A g s H n Q E G h=>?_)
 ·obtain⟨F,b,f,z,R,_⟩:=h;rw [<- R.length];rfl
 ·obtain⟨F,b,f,z,R,M,t,y,c⟩:=h;obtain⟨q,o⟩:=IB M
  have j:b.length<=1000:=by rw [o];exact y
  refine⟨_,qB (wU (sV (Bg rfl (jK G)) rfl T.z_dict DC.boot_dict (aI (kA rfl (gM (N':=A6) (inner:=[none]) (aS sF) uU rfl rfl (by decide +kernel)) (kC 0) (i6 (aD 0)) (fun _ _ _ _ _=>(e9 (i:=0) G2)) (fun _ _ _ _ _=>tZ) (fun _ _ _ _ _=>(gT (aI (aD 0) (aI gC aP rfl) rfl)))) aP rfl))),?_⟩
  refine⟨F,H,cE 1 [.list b],[.list (b.map fun d=>.tuple [d,.bool true])],n4 z R,?_,fun l S U E1 O=>⟨l,_,_,E1.fz z,O,by rw [Qd];exact j,q,fun p W J I rd r x=>?_⟩⟩
  ·have B:fR (fU (eM (eV 0)) (bX 0) eT (cH (aC (eV 0) (aC (eC (.bool true)) aG))) [none]) (cE 1 [.list b])=some (.list (b.map fun d=>.tuple [d,.bool true])):=by
    unfold fR fU;rw [show eM (eV 0) (cE 1 [.list b])=some b from rfl,Qc,show fV [none] (cE 1 [.list b])=[Sl.no]from rfl,Sd,Qc,if_pos (by rw [Qd];exact j)];rfl
   show(fR _ _).bind _=_
   rw [B];rfl
  ·have e:mK (f.map fun k=>(k,J6 true))=f.map fun k=>(hX k,J6 true):=FY f [] (by simpa using t);rw [e]at rd;obtain⟨m,rfl,v,u⟩:=Hq rd (Hn f);exact c l S p m J E1 I v u
end
abbrev wF:Zj:=mM (top 28) 0
abbrev qJ:Zj:=mM (top 28) 1
abbrev wJ:Zj:=mM (top 28) 2
abbrev wI:Zj:=mM (top 28) 3
abbrev wG:Zj:=mM (top 28) 4
abbrev wH:Zj:=mM (top 28) 5
abbrev tL:Zj:=mM (top 28) 6
abbrev tK:Zj:=mM (top 28) 7
def PN:List Str:=["self","floor","cell"]
def v8:List Str:=["self","word","there","fresh"]
def Es:List Str:=["cell","self"]
def kY:List Str:=["self"]
theorem VC:Es.Nodup:=by decide +kernel
theorem zTq:bQ PN ["self","floor","cell"] (aS wF):=cI rfl (by decide +kernel)
theorem tM:bQ v8 ["self","word"] (aS qJ):=cI rfl (by decide +kernel)
theorem zTv:bQ kY ["self"] (aS wJ):=cI rfl (by decide +kernel)
theorem zTu:bQ kY ["self"] (aS wI):=cI rfl (by decide +kernel)
theorem zTr:bQ kY ["self"] (aS wG):=cI rfl (by decide +kernel)
structure nB(K:PySem.W.Frag)(mg:Str->Option JS)(C:YP):Prop where
 cl:fZ K C
 nK:i3 K C "known"
 nF:i3 K C "floor"
 nP:i3 K C "path"
 mC:mg "Walker"=some (.ref C)
def Kv:GS W3:=cL (Aq (rO aO (nN 0 Cw) (OB.rP (jV jD (eC (.int 1))))))
def j6:GM W3:=jF 0 1 Kv
def Ku:GS W3:=cL (Kw 0 (fun b=>b.2.1))
def qR:GM W3:=jF 0 1 Ku
def Ks:GS W3:=cL (Kx 0 (fun b=>b.2.2))
def fO:GM W3:=jF 0 1 Ks
def CA:GS W3:=bP (b9 2 (mB v6 (dM (gO 0 iK) (dM (cO 0 j6 aG) (dM (xP (eV 1)) gU)))))
 (bP (b9 3 (kH (l4 (mB gW (dM (gO 0 iK) (dM (xP (eV 2)) gU)))) 0 (sM (rO (fF true) (OB.rP (eV 0)) (nN 0 l7))) (eV 0) [none,some 0]))
 (bP (Lj 0 (fun b=>b.2.1) D1 (eV 2))
 (bP (CJ 0 (fun b=>b.2.2) D2 (aR iD (aC (eV 3) aG)))
 (cL (xP (eV 3))))))
def mD:GM W3:=jF 0 4 CA
def qO:List D->Option W3
 | [f,c]=>(gW [f,c]).bind fun d=>match d with
  | .list b=>(oI b).bind fun a=>if a.Nodup/\a.length<=1000 then some (f,[c],a)else none
  | _=>none
 | _=>none
theorem vR{B:Type}:∀(ρ:aA) (Ω:List B) (x:List D × List B),gU ρ Ω=some x->x.1.length=0:=fun _ _ _ h=>by cases h;rfl
theorem j4{B:Type}{n:Nat}{ga:GX B D}{gr:GX B (List D)}(h:∀(ρ:aA) (Ω:List B) (x:List D × List B),gr ρ Ω=some x->x.1.length=n):∀(ρ:aA) (Ω:List B) (x:List D × List B),dM ga gr ρ Ω=some x->x.1.length=n+1:=fun ρ Ω x q=>by
 obtain⟨y,_,q⟩:=aE q;obtain⟨z,e,q⟩:=aE q;cases q;rw [Qo,h _ _ _ e]
theorem OX(v:V):dH "known" v []=[(("known":Str),v)]:=rfl
theorem OY(v a:V):dH "floor" a [(("known":Str),v)]=[(("known":Str),v),("floor",a)]:=by
 unfold dH;rw [if_neg (by decide)];unfold dH;rfl
theorem OZ(a:YP)(b:V)(c:YP):dH "path" (.ref c) [(("known":Str),.ref a),("floor",b)]=lZ a b c:=by
 unfold dH;rw [if_neg (by decide)];unfold dH;rw [if_neg (by decide)];unfold dH;rfl
section
variable {P:JY}{w:J1}{K:PySem.W.Frag}{mg:Str->Option JS}{base:Heap}{a:Nat->YP}{d:Nat->J5}{ta:Nat->YP}{e_NoStep:YP}{C:YP}(T:Txt K mg a d w ta e_NoStep)(B:nB K mg C)
include T B
theorem WR{f:YP}{b:J5}(F:eG K "where" "Walker.where" wJ f b):aK P w K mg base aL 1 f b ["self"] (c9 (wK K C) 1 j6):=by
 refine nH (k:=wK K C) (j:=0) (g:=Kv) (G:=j6) (N:=kY) (kk:=0) rfl rfl rfl F zTv fun c A a s H E d=>?_;exact dF (fN (zTz (O3 bD (CG (i:=0) (j:=0) (by decide) B.cl B.nP O0) (CH (tX tJ aN)))))
theorem WQ{f:YP}{b:J5}(F:eG K "walked" "Walker.walked" wI f b):aK P w K mg base aL 1 f b ["self"] (c9 (wK K C) 1 qR):=by
 refine nH (k:=wK K C) (j:=0) (g:=Ku) (G:=qR) (N:=kY) (kk:=0) rfl rfl rfl F zTu fun c A a s H E d=>?_;exact dF (fN (zTA (i:=0) (j:=0) (by decide) B.cl B.nP rfl (Ze rfl) (by decide) (by decide) rfl Kt rfl T.z_list rfl rfl))
theorem T5{f:YP}{b:J5}(F:eG K "knows" "Walker.knows" wG f b):aK P w K mg base aL 1 f b ["self"] (c9 (wK K C) 1 fO):=by
 refine nH (k:=wK K C) (j:=0) (g:=Ks) (G:=fO) (N:=kY) (kk:=0) rfl rfl rfl F zTr fun d A a s H E c=>?_;exact dF (fN (zTB (i:=0) (j:=0) (by decide) B.cl B.nK rfl (Ze rfl) (by decide) (by decide) rfl Kn rfl (jK c) rfl T.z_sorted rfl T.z_list rfl rfl rfl rfl))
theorem Vk{p:YP}{r:J5}(t:iM K C "where" p)(v:L2.Binds K r ["self"] [])(x:aK P w K mg base aL 1 p r ["self"] (c9 (wK K C) 1 j6))
  (h:aK P w K mg base aL 6 (a 18) (d 18) ["floor","cell","word"] (aX K 3 v6)) (l:aK P w K mg base aL 7 (a 19) (d 19) ["floor","cell"] (aX K 2 gW)) (e:aK P w K mg base aL 1 (a 2) (d 2) ["things"] (aX K 1 iD))
  {f:YP}{q:J5} (F:eG K "step" "Walker.step" qJ f q):aK P w K mg base aL 8 f q ["self","word"] (c9 (wK K C) 2 mD):=by
 refine nH (k:=wK K C) (j:=0) (g:=CA) (G:=mD) (N:=v8) (kk:=7) rfl rfl rfl F tM fun u A o s H E c=>?_
 exact dE (iL (i:=2) tM.nd (by decide) (CB h (c.mono (by decide)) rfl T.F_qj.m T.F_qj.F.kp T.F_qj.b (iZ (pQ (i:=0) (j:=0) (by decide) B.cl B.nF pM) (iZ (kI (i:=0) (j:=0) (by decide) B.cl t (fun _ _ _ _=>⟨rfl,rfl⟩) x (c.mono (by decide)) v) (iZ (cF (aD 1)) pP))) (j4 (j4 (j4 vR)))))
  (dE (zTH (τ':=[(1,0)]) (n:=0) (i:=3) tM.nd (by decide) rfl (gM (N':=Es) (inner:=[none,some 0]) (aS qJ) v8 rfl rfl (by decide +kernel)) (by decide)
    (CF (CB l c rfl T.F_qb.m T.F_qb.F.kp T.F_qb.b (iZ (pQ (i:=0) (j:=0) (by decide) B.cl B.nF pM) (iZ (cF (aD 2)) pP)) (j4 (j4 vR))))
    (fun _ _ _ _ _=>mT VC rfl (Ze rfl)) (fun _ _ _ _ _=>Lg (Ir (gL c)) (CH (aD 0)) (CG (i:=1) (j:=0) (by decide) B.cl B.nK D3) (by with_unfolding_all rfl)) (fun _ _ _ _ _=>aD 0))
  (dE (zTG (i:=0) (j:=0) (by decide) B.cl B.nP rfl (by first | exact Ze rfl | exact Zc (Ze rfl)) (by decide) (by decide) rfl Kt OV (aD 2) rfl rfl rfl rfl rfl rfl)
  (dE (zTL (i:=0) (j:=0) (by decide) B.cl B.nK rfl (by first | exact Ze rfl | exact Zc (Ze rfl)) (by decide) (by decide) rfl (gL c) Kn O1 (cB T.F_qm e c rfl (aI (aD 3) aP rfl) fG) rfl rfl rfl rfl rfl rfl)
  (dF (fN (cF (aD 3)))))))
end
end My
namespace My
open PySem.Spec PySem.SeqAt L2 CL DL OB SD ZL SL EL DC KP ST TX TB EX
section
variable {P:JY}{w:J1}{K:PySem.W.Frag}{mg:Str->Option JS}{base:Heap}{a:Nat->YP}{d:Nat->J5}{ta:Nat->YP}{e_NoStep:YP}{C:YP}(T:Txt K mg a d w ta e_NoStep)(B:nB K mg C)
include T B
theorem T4(i:aK P w K mg base aL 1 (a 2) (d 2) ["things"] (KB K))(X:aK P w K mg base aL 7 (a 19) (d 19) ["floor","cell"] (aX K 2 gW)){f:YP}{fd:J5}(F:eG K "__init__" "Walker.__init__" wF f fd):aK P w K mg base aL 8 f fd ["self","floor","cell"] (vN (wK K C) C 2 qO):=by
 refine F.ok zTq (fun vs H Q E h=>?_) (fun a9 A Z s H vs Q E hr h=>?_)
 ·obtain⟨F,x,g,us,ds,b,rfl,v,_,_,_,r,_⟩:=h;rw [Qo,<- r.length,v];rfl
 obtain⟨F,x,g,us,ds,b,rfl,v,z,hx,nx,r,q,c⟩:=h;unfold qO at q
 split at q
 ·rename_i fl cl;obtain⟨dl,e1,q⟩:=aE q
  split at q
  ·rename_i cs;obtain⟨ks,e2,q⟩:=aE q;by_cases G:ks.Nodup/\ks.length<=1000
   ·rw [if_pos G]at q;cases q
    cases r with
    | @cons _ vf _ _ rf t=>
    cases t with
    | @cons _ vc _ _ rc t=>
     cases t
     refine⟨_,sZ (BJ (pv 0) (sU i (hr.mono (by decide)) rfl T.F_qm.m T.F_qm.F.kp T.F_qm.b .nil mS (eF (sU X hr rfl T.F_qb.m T.F_qb.F.kp T.F_qb.b .nil mS (eF (pv 1) (eF (pv 2) fQ))) fQ)) rfl) (sZ (BJ (pv 0) (pv 1) rfl) (qB (BJ (pv 0) (BF (eF (pv 2) fQ)) rfl))),?_⟩
     refine⟨_,rfl,_,rfl,F,[fl,cl],_,rfl,z,.cons rf (.cons rc .nil),e1,fun F2 H2 vl E2 R2=>?_⟩
     refine⟨F2,cs,ks,E2.fz z,.cons R2 .nil,e2,G.1,G.2,fun e H3 p l k E3 hp v hk=>?_⟩
     have E13:=E2.trans E3;have K3:cK K (fun a=>a=x) F e H H3:=cK.ext z E13;have a3:=E13.same _ _ hx;have E4:aH e e H3 (aJ H3 p (bO p (cT l) k)):=aH.fresh hp;have N:aJ H3 p (bO p (cT l) k) p=some (bO p (cT l) k):=cN;have o:=E4.same _ _ a3;have a7:=fun q hq=>(E4.stay (K:=K)).tp _ _ (hk q hq);have K4:cK K (fun a=>a=x) e e H3 (aJ H3 p (bO p (cT l) k)):=cK.ext K3.fz E4;have np:H p=none:=K3.lv p hp;have a0:¬ e p:=fun S=>K3.fz p S hp;generalize aJ H3 p (bO p (cT l) k)=W at *;have Y:p≠x:=p3 N o (by intro w;cases w)
     have j:¬ e x:=fun S=>(E13.new x S).elim nx fun w=>by rw [hx]at w;cases w.1
     refine⟨_,rfl,x,C,g,[],rfl,o,B.cl,B.nK,(by decide),?_⟩
     rw [OX];have K5:cK K (fun a=>a=x) e e W (aJ W x (.ins C g [(("known":Str),.ref p)])):=oQ K4.fz o p4.1 p4.2 j rfl;have M:aJ W x (.ins C g [(("known":Str),.ref p)]) x=some (.ins C g [(("known":Str),.ref p)]):=cN
     have a6:aJ W x (.ins C g [(("known":Str),.ref p)]) p=some (bO p (cT l) k):=by rw [aV Y];exact N
     generalize aJ W x (.ins C g [(("known":Str),.ref p)])=U at *
     refine⟨_,rfl,_,rfl,x,C,g,_,rfl,M,B.cl,B.nF,(show 1<1000 by decide),?_⟩
     rw [OY];have K6:cK K (fun a=>a=x) e e U (aJ U x (.ins C g [(("known":Str),.ref p),("floor",vf)])):=oQ K5.fz M p4.1 p4.2 j rfl;have a2:aJ U x (.ins C g [(("known":Str),.ref p),("floor",vf)]) x=some (.ins C g [(("known":Str),.ref p),("floor",vf)]):=cN
     have a5:aJ U x (.ins C g [(("known":Str),.ref p),("floor",vf)]) p=some (bO p (cT l) k):=by rw [aV Y];exact a6
     generalize aJ U x (.ins C g [(("known":Str),.ref p),("floor",vf)])=I at *
     refine⟨_,rfl,fW (by show 1<=1000;decide),fun pc u=>?_⟩
     have E7:aH e e I (aJ I pc (.lst [vc])):=aH.fresh u;have K7:cK K (fun a=>a=x) e e I (aJ I pc (.lst [vc])):=cK.ext K6.fz E7;have n:=E7.same _ _ a2;have a4:=E7.same _ _ a5;have O:aJ I pc (.lst [vc]) pc=some (.lst [vc]):=cN;have a1:¬ e pc:=fun S=>K6.fz pc S u;have lc:H pc=none:=K3.lv pc (K4.lv pc (K5.lv pc (K6.lv pc u)));generalize aJ I pc (.lst [vc])=H7 at *;have xc:pc≠x:=p3 O n (by intro w;cases w)
     refine⟨_,rfl,x,C,g,_,rfl,n,B.cl,B.nP,(show 2<1000 by decide),?_⟩
     rw [OZ];have K8:cK K (fun a=>a=x) e e H7 (aJ H7 x (.ins C g (lZ p vf pc))):=oQ K7.fz n p4.1 p4.2 j rfl;have J:∀ y:YP,y=x->∀ H:Hp,y=x ∨ H y=none:=fun y h _=>.inl h;have a8:=K7.trans K8 fun x h=>J x h _;have K58:=K5.trans (K6.trans a8 fun x h=>J x h _) fun x h=>J x h _;have K38:=K3.trans (K4.trans K58 fun x h=>J x h _) fun x h=>J x h _;refine c e _ (fun y=>y=x ∨ y=p ∨ y=pc) K38 (fun y h=>?_) ⟨p,pc,g,vf,[vc],l,k,⟨cN,rf.stay K38.st,by rw [aV xc];exact O,.cons (rc.stay K38.st) .nil,⟨by rw [aV Y];exact a4,fun q hq=>K58.st.tp _ _ (a7 q hq),by rw [v];exact G.1,by rw [<- Qd (f:=(·.1)),v];exact G.2⟩,v,j,a0,a1⟩,fun _=>Iff.rfl⟩;rcases h with rfl | rfl | rfl
     ·exact .inl rfl
     ·exact .inr np
     ·exact .inr lc
   ·rw [if_neg G]at q;cases q
  ·cases q
 ·cases q
end
end My
namespace My
open PySem.Spec PySem.SeqAt L2 CL DL OB SD ZL SL EL DC KP ST TX TB EX
def uT:List Str:=["_law_walker","_law_word"]
theorem Oc:bQ uT ["_law_walker","_law_word"] (aS sE):=cI rfl (by decide +kernel)
def tI:GX W3 (List D):=dM (gO 0 iK) (dM (cO 0 j6 aG) (dM (xP (eV 1)) gU))
def n5:GE W3:=fun a b=>match a[0]? with
 | some none=>(tI (fB 4 a) [b]).bind fun y=>(j7 y.1).bind fun r=>match r with
  | .inr x=>(y.2[0]?).bind fun c=>some (x,c)
  | .inl _=>none
 | _=>none
section
variable {P:JY}{w:J1}{K:PySem.W.Frag}{mg:Str->Option JS}{base:Heap}{a:Nat->YP}{d:Nat->J5}{ta:Nat->YP}{e_NoStep:YP}{C:YP}(T:Txt K mg a d w ta e_NoStep)(B:nB K mg C)
include T B
theorem Vl{O:YP}{X:J5}(mw:iM K C "where" O)(bw:L2.Binds K X ["self"] [])(Gw:aK P w K mg base aL 1 O X ["self"] (c9 (wK K C) 1 j6))
  (e:aK P w K mg base (gP P w) 6 (a 18) (d 18) ["floor","cell","word"] (sJ K 3 j7))
  {f:YP}{U:J5} (F:eG K "step" "Walker.step" qJ f U):aK P w K mg base (gP P w) 8 f U ["self","word"] (DQ (wK K C) 2 n5):=by
 obtain⟨oc,od,kV,a2,pm,an,a3,ct,a0,rfl,lk,v⟩:=F.ex;refine AQ lk v tM (fun vs H Q E h=>?_) fun A n s H vs Q E J h=>?_
 ·obtain⟨F,p,b,G,ds,x,b',M,_,_,y,_⟩:=h;rw [<- kF y,M];rfl
 ·obtain⟨F,p,b,G,ds,x,b',M,z,at0,y,q,c⟩:=h;unfold n5 at q
  split at q
  ·rename_i ej;obtain⟨⟨g,l⟩,W,q⟩:=aE q;obtain⟨r,e2,q⟩:=aE q
   cases r with
   | inl _=>cases q
   | inr x0=>
    obtain⟨b0,e3,q⟩:=aE q;cases q;have u:g.length=3:=(j4 (j4 (j4 vR))) _ _ _ W
    refine⟨_,sZ (L2.ps_set (i:=2) tM.nd rfl (by first | exact Ze rfl | exact Zc rfl) (Xg (t:=y4 (wK K C) [(0,0)] tI) e (J.mono (by decide)) rfl T.F_qj.m T.F_qj.F.kp T.F_qj.b rfl
     (iZ (pQ (i:=0) (j:=0) (by decide) B.cl B.nF pM) (iZ (kI (i:=0) (j:=0) (by decide) B.cl mw (fun _ _ _ _=>⟨rfl,rfl⟩) Gw (J.mono (by decide)) bw) (iZ (cF (aD 1)) pP))))) OB.pss_never,?_⟩
    refine⟨F,H,_,[b],[(p,G)],g,l,KF (N:=v8) z at0 y ej,W,fun F' H' Z a1 K' S' R'=>?_⟩
    refine⟨F',g,.inr x,u,S'.S.fz,R',e2,fun F2 H2 C2 Y hC I s' a' tr I' T'=>?_⟩
    have S2:=S'.ext Y;obtain⟨k,k1,k2,k3⟩:=B5 (K'.trans (aY.ext S'.S.fz Y)) S2.o e3;exact Hx I' T' (c F2 H2 C2 k k1 k2 k3 hC)
  ·cases q
def mE:GM W3:=fun a b=>match a with
 | [none,some wd]=>match n5 [none,some wd] b with
  | some (x,b')=>if x="NoStep" then some (.none,b')else none
  | none=>mD [none,some wd] b
 | _=>none
theorem TY{fs:YP}{ds:J5}(ms:iM K C "step" fs)(bs:L2.Binds K ds ["self","word"] [])(Gs:aK P w K mg base aL 8 fs ds ["self","word"] (c9 (wK K C) 2 mD))(Ge:aK P w K mg base (gP P w) 8 fs ds ["self","word"] (DQ (wK K C) 2 n5)):
  aK P w K mg base aL 9 (a 21) (d 21) ["_law_walker","_law_word"] (c9 (wK K C) 2 mE):=by
 refine T.F_qe.F.ok Oc (fun vs H Q E h=>?_) (fun a0 A k s H vs Q E hr h=>?_)
 ·obtain⟨F,p,b,f,ds,r,y,hl,_,_,ar,_⟩:=h;rw [<- kF ar,hl];rfl
 ·obtain⟨F,p,b,f,ds,r,y,hl,z,at0,ar,q,c⟩:=h;unfold mE at q
  split at q
  ·rename_i l;have SS:SO (wK K C) [(0,0)] F H H (L2.start uT vs) (fB uT.length [none,some l]) [b] [(p,f)]:=KF z at0 ar rfl
   cases Z:n5 [none,some l] b with
   | some xb=>
    obtain⟨x,b1⟩:=xb;rw [Z]at q;have q:(if x="NoStep" then some (PyData.none,b1)else none)=some (r,y):=q;by_cases O:x="NoStep"
    ·rw [if_pos O]at q;cases q;subst O
     refine⟨_,qB (WK (x:="NoStep") (gh:=cJ (eC .none)) (fun I E=>Ws (t:=Ai K (aC (eV 1) aG)) (L2.pe_var (i:=0) rfl (by first | exact Ze rfl | exact Zc (Ze rfl)) (by decide) (by decide)) B.cl ms Ge (hr.mono (by decide)) bs rfl (aI (aD 1) aP rfl)) (fun e I E=>bN (c4 FQ)) rfl rfl rfl rfl T.xm_NoStep T.xb_NoStep ?_),?_⟩
     ·exact Xl T.xn_NoStep (R8 T.xe_NoStep T.xt_NoStep_NoStep) Xm _ (by decide)
     ·intro I E' u;obtain⟨dx,Y,hp,U⟩:=(wK K C).ins at0
      refine⟨_,SS.hd 0 0 (by decide) (p,f) rfl,p,dx,Y,rfl,hp,x9 (by rw [U];rfl),F,H,_,[l],SS.S,rfl,fun F1 H1 a4 E1 R1=>?_⟩
      have S1:=SS.ext E1;obtain⟨b2,e4,a1⟩:=lD S1.o.at_ (i:=0) (b:=(p,f)) rfl;cases e4
      refine⟨F1,p,b,f,[none,some l],"NoStep",y,rfl,S1.S.fz,a1,.cons rfl (A9 R1),Z,fun F' H' C2 a3 kp sb a2 hC=>?_⟩
      intro m s' a' tr I' T';obtain⟨S2,K2⟩:=S1.turn (j:=0) (o:=(p,f)) rfl kp sb a2;refine u F' H' _ _ m s' a' C2 tr .none ⟨S2.S.len,fun i sl hs=>?_,fun i j a ds es n G W=>?_,S2.S.fz⟩ I' hC T' rfl fun F2 H2 v E2 R2=>?_
      ·obtain⟨o,G,W⟩:=S2.S.sl i sl hs
       rcases n3 hs with⟨dd,q⟩ | q <;> subst q
       ·exact⟨o,G,W⟩
       ·exact⟨o,G,W⟩
      ·rcases n3 G with⟨dd,q⟩ | q <;> cases q
      ·have S3:=S2.ext E2;obtain⟨g,N,M,J⟩:=B5 (((aY.ext z E1).trans K2).trans (aY.ext S2.S.fz E2)) S3.o rfl;exact c F2 H2 v g N M J R2
    ·rw [if_neg O]at q;cases q
   | none=>
    rw [Z]at q;have q:mD [none,some l] b=some (r,y):=q
    have hb:iN (X:=(gH aL P w K mg base uT "_law_gone" (aS sE) (a 21) a0 A k s H E).nox) (wK K C) [(0,0)] (cW sE) (cL (cO 0 mD (aC (eV 1) aG))):=
     dF (zTK fun I E=>dF (fN (CD (i:=0) (j:=0) (by decide) B.cl ms (fun _ _ _ _=>⟨rfl,rfl⟩) Gs (hr.mono (by decide)) bs (aI (aD 1) aP rfl) fG)))
    refine⟨_,hb,[(p,f)],F,H,F,_,[b],[(p,f)],.rt r [y],aY.refl z,SS,?_,fun F' H' v a5 K' o' R'=>?_⟩
    ·show((mD [none,some l] b).bind fun r=>some (r.1,[b].set 0 r.2)).bind _=_
     rw [q];rfl
    ·obtain⟨g,N,M,J⟩:=B5 K' o' rfl;exact c F' H' v g N M J R'
  ·cases q
end
end My
namespace My
open PySem.Spec PySem.SeqAt L2 CL DL OB SD ZL SL EL DC KP ST TX TB EX
def Er:List Str:=["self","cell"]
def A8:List Str:=["self","y"]
def Ep:List Str:=["x","self","y"]
def Eo:List Str:=["y","self"]
theorem VB:Ep.Nodup:=by decide +kernel
theorem Vq:Eo.Nodup:=by decide +kernel
theorem zTt:bQ Er ["self","cell"] (aS wH):=cI rfl (by decide +kernel)
theorem zTs:bQ A8 ["self","y"] (aS tL):=cI rfl (by decide +kernel)
theorem zTp:bQ kY ["self"] (aS tK):=cI rfl (by decide +kernel)
def Cz:GS W3:=bP (cV (sM (rO (fF true) (OB.rP (eV 1)) (nN 0 l7))) (cL (xP (eC (.str "?")))) eW)
 (cL (vQ (xB (mB i1 (dM (gO 0 iK) (dM (xP (eV 1)) gU)))) (xP (eC (.str "#"))) (xP (eC (.str ".")))))
def qQ:GM W3:=jF 0 2 Cz
def D4:GS W3:=cL (cU vU (xP (eC (.str ""))) (qM (nQ (dM (cU aO (gO 0 iK) (xP (eC (.int 0)))) gU)) 0 (cO 0 qQ (aC (cH (aC (eV 0) (aC (eV 2) aG))) aG)) [none,some 0,some 1]))
def qP:GM W3:=jF 0 2 D4
def Ko:GS W3:=cL (cU vU (xP (eC (.str "\n"))) (qM (nQ (dM (cU aO (gO 0 iK) (xP (eC (.int 1)))) gU)) 0 (cO 0 qP (aC (eV 0) aG)) [none,some 0]))
def qN:GM W3:=jF 0 1 Ko
section
variable {P:JY}{w:J1}{K:PySem.W.Frag}{mg:Str->Option JS}{base:Heap}{a:Nat->YP}{d:Nat->J5}{ta:Nat->YP}{e_NoStep:YP}{C:YP}(T:Txt K mg a d w ta e_NoStep)(B:nB K mg C)
include T B
theorem T7(c:aK P w K mg base aL 5 (a 16) (d 16) ["floor","cell"] (aX K 2 i1)){f:YP}{l:J5}(F:eG K "sign_at" "Walker.sign_at" wH f l):aK P w K mg base aL 6 f l ["self","cell"] (c9 (wK K C) 2 qQ):=by
 refine nH (k:=wK K C) (j:=0) (g:=Cz) (G:=qQ) (N:=Er) (kk:=5) rfl rfl rfl F zTt fun n A e s H E h=>?_
 exact dE (j5 (Lg (Ir (gL h)) (CH (aD 1)) (CG (i:=0) (j:=0) (by decide) B.cl B.nK D3) (by with_unfolding_all rfl)) (dF (fN (cF iF))) lH)
  (dF (fN (O2 (zTM (CB c h rfl T.F_qi.m T.F_qi.F.kp T.F_qi.b (iZ (pQ (i:=0) (j:=0) (by decide) B.cl B.nF pM) (iZ (cF (aD 1)) pP)) (j4 (j4 vR)))) (cF iF) (cF iF))))
theorem T6{fs:YP}{ds:J5}(c:iM K C "sign_at" fs)(bs:L2.Binds K ds ["self","cell"] [])(h:aK P w K mg base aL 6 fs ds ["self","cell"] (c9 (wK K C) 2 qQ)){f:YP}{b:J5}(F:eG K "row_drawn" "Walker.row_drawn" tL f b):aK P w K mg base aL 7 f b ["self","y"] (c9 (wK K C) 2 qP):=by
 refine nH (k:=wK K C) (j:=0) (g:=D4) (G:=qP) (N:=A8) (kk:=6) rfl rfl rfl F zTs fun e A a s H E d=>?_
 exact dF (fN (IU (cF iF) (Kz (τ':=[(1,0)]) (n:=0) rfl (gM (N':=Ep) (inner:=[none,some 0,some 1]) (aS tL) A8 rfl rfl (by decide +kernel)) (by decide)
  (IX rfl T.z_range (iZ (IT bD (pQ (i:=0) (j:=0) (by decide) B.cl B.nF pM) (cF aN)) pP)) (fun _ _ _ _ _=>mT VB rfl (Ze rfl))
  (fun _ _ _ _ _=>CD (i:=1) (j:=0) (by decide) B.cl c (fun _ _ _ _=>⟨rfl,rfl⟩) h d bs (aI (gT (aI (aD 0) (aI (aD 2) aP rfl) rfl)) aP rfl) fG))))
theorem T3{fs:YP}{ds:J5}(c:iM K C "row_drawn" fs)(bs:L2.Binds K ds ["self","y"] [])(h:aK P w K mg base aL 7 fs ds ["self","y"] (c9 (wK K C) 2 qP)){f:YP}{b:J5}(F:eG K "drawn" "Walker.drawn" tK f b):aK P w K mg base aL 8 f b ["self"] (c9 (wK K C) 1 qN):=by
 refine nH (k:=wK K C) (j:=0) (g:=Ko) (G:=qN) (N:=kY) (kk:=7) rfl rfl rfl F zTp fun e A a s H E d=>?_
 exact dF (fN (IU (cF iF) (Kz (τ':=[(1,0)]) (n:=0) rfl (gM (N':=Eo) (inner:=[none,some 0]) (aS tK) kY rfl rfl (by decide +kernel)) (by decide)
  (IX rfl T.z_range (iZ (IT bD (pQ (i:=0) (j:=0) (by decide) B.cl B.nF pM) (cF aN)) pP)) (fun _ _ _ _ _=>mT Vq rfl (Ze rfl))
  (fun _ _ _ _ _=>CD (i:=1) (j:=0) (by decide) B.cl c (fun _ _ _ _=>⟨rfl,rfl⟩) h d bs (aI (aD 0) aP rfl) fG))))
end
end My
namespace My
open PySem.Spec PySem.SeqAt L2 CL DL OB SD ZL SL EL DC KP ST TX TB EX
theorem GC{ρ:aA}{ds:List (Option D)}(h:iQ ρ=some ds):ds.length=0:=by cases h;rfl
theorem GB{n:Nat}{ga:aA->Option D}{gr:aA->Option (List (Option D))}(h:∀ ρ ds,gr ρ=some ds->ds.length=n):∀(ρ:aA) (ds:List (Option D)),hZ ga gr ρ=some ds->ds.length=n+1:=fun ρ ds q=>by
 obtain⟨x,_,q⟩:=aE q;obtain⟨a,e,q⟩:=aE q;cases q;rw [Qo,h ρ a e]
theorem GD{n:Nat}{gr:aA->Option (List (Option D))}(h:∀ ρ ds,gr ρ=some ds->ds.length=n):∀(ρ:aA) (ds:List (Option D)),iA gr ρ=some ds->ds.length=n+1:=fun ρ ds q=>by
 obtain⟨a,e,q⟩:=aE q;cases q;rw [Qo,h ρ a e]
structure Fm(K:PySem.W.Frag)(C:YP)(n q:Str)(st:Zj)(ps:List Str)(a:YP)(d:J5):Prop where
 F:eG K n q st a d
 m:iM K C n a
 b:L2.Binds K d ps []
structure y7(K:PySem.W.Frag)(C:YP)(b:Nat->YP)(e:Nat->J5):Prop where
 M:Mk K C (b 0)
 Fi:eG K "__init__" "Walker.__init__" wF (b 0) (e 0)
 bi:L2.Binds K (e 0) ["self","floor","cell"] []
 step:Fm K C "step" "Walker.step" qJ ["self","word"] (b 1) (e 1)
 «where»:Fm K C "where" "Walker.where" wJ ["self"] (b 2) (e 2)
 walked:Fm K C "walked" "Walker.walked" wI ["self"] (b 3) (e 3)
 knows:Fm K C "knows" "Walker.knows" wG ["self"] (b 4) (e 4)
 sign:Fm K C "sign_at" "Walker.sign_at" wH ["self","cell"] (b 5) (e 5)
 row:Fm K C "row_drawn" "Walker.row_drawn" tL ["self","y"] (b 6) (e 6)
 drawn:Fm K C "drawn" "Walker.drawn" tK ["self"] (b 7) (e 7)
abbrev jL:GM W3:=mE
def uV:List Str:=["_law_script","_law_floor_here","_law_cells_here","_law_walker","_law_words","_law_k","_law_word","_law_before","_law_told","_law_path","_law_known","_law_cell_here","_law_rows","_law_x","_law_y","_law_due"]
theorem fA:bQ uV ["_law_script"] (aS sG):=cI rfl (by decide +kernel)
def Ej:List Str:=["_law_cell_here","_law_before"]
theorem Vz:Ej.Nodup:=by decide +kernel
def Ek:List Str:=["_law_cell_here","_law_floor_here"]
theorem VA:Ek.Nodup:=by decide +kernel
def rY:GS W3:=
  (bP (b9 1 (xP (aR qS (aC (eV 0) (aC (eC (.int 0)) (aC (eC (.int 5)) aG))))))
  (bP (b9 2 (xP (aR sO (aC (eV 1) aG))))
  (bP (cV (xP (eB (aF iO (eV 2) (gJ aG)))) (cL (xP (eC (.bool true)))) eW)
  (bP (vS 3 0 qO (aC (eV 1) (aC (aF aO (eV 2) (aR e8 (aC (eV 0) (aC (eC (.int 60)) (aC (aR eK (aC (eV 2) aG)) aG))))) aG)))
  (bP (b9 4 (xP (eC (.str ""))))
  (bP (pN (iT (aC (aR Bi (aC (eC (.int 1)) (aC (aR Bj (aC (eC (.int 10)) (aC (aR eK (aC (eV 0) aG)) aG))) aG))) aG)) 5 (bP (b9 6 (xP (aF gS (eC (.str "nesw")) (aR e8 (aC (eV 0) (aC (aF bM (eC (.int 61)) (eV 5)) (aC (eC (.int 4)) aG)))))))
  (bP (b9 7 (cO 0 fO aG))
  (bP (b9 8 (iC 0 jL (iA (hZ (eV 6) iQ))))
  (cV (xP (eB (aF rV (eV 8) (eC .none)))) (cV (xB (cU cA (cO 0 fO aG) (xP (eV 7)))) (cL (xP (eC (.bool false)))) eW) (bP (b9 4 (xP (aF oG (eV 4) (eV 6))))
  (cV (xB (cU cA (xP (eV 8)) (kH (l4 (cO 0 fO aG)) 0 (xP (eB (aF (dG true) (eV 0) (eV 1)))) (eV 0) [none,some 7]))) (cL (xP (eC (.bool false)))) eW)))))))
  (bP (b9 9 (cO 0 qR aG))
  (bP (b9 10 (xP (gJ aG)))
  (bP (pN (eM (k7 (jU (aC (eV 9) aG)))) 11 (b9 10 (xP (aF bM (eV 10) (aR gW (aC (eV 1) (aC (eV 11) aG)))))))
  (bP (cV (sL (xP (eB (aF cA (aR eK (aC (eV 9) aG)) (aF bM (aR mI (aC (eV 4) aG)) (eC (.int 1)))))) (xB (cU cA (cO 0 fO aG) (xP (k7 (jU (aC (eV 10) aG))))))) (cL (xP (eC (.bool false)))) eW)
  (bP (cV (xB (cU cA (kH (l4 (cO 0 fO aG)) 0 (xP (eB (aF (dG true) (eV 0) (aF aO (eV 1) (eC (.int 2)))))) (eV 0) [none,some 1]) (xP (aR tQ (aC (eV 1) (aC (eV 9) aG)))))) (cL (xP (eC (.bool false)))) eW)
  (bP (pN (u8 (AG (eV 4) (oE (jV jD (eC (.int 1)))))) 6 (cV (xB (cU cA (iC 0 jL (iA (hZ (aF gS (eC (.str "swne")) (aF mH (eC (.str "nesw")) (eV 6))) iQ))) (xP (gJ aG)))) (cL (xP (eC (.bool false)))) eW))
  (bP (b9 12 (cU vW (cO 0 qN aG) (xP (eC (.str "\n")))))
  (bP (cV (sL (xB (cU cA (cO 0 j6 aG) (xP (aF aO (eV 9) (eC (.int 0)))))) (xP (eB (aF cA (aR eK (aC (eV 12) aG)) (aF aO (eV 1) (eC (.int 1))))))) (cL (xP (eC (.bool false)))) eW)
  (bP (yJ (xP (eM (aR n6 (aC (eV 1) aG)))) (kW 2 (gF (bX 13) (gF (bX 14) j2))) (bP (b9 15 (xP (kP (eB (aF (dG true) (cH (aC (eV 13) (aC (eV 14) aG))) (eV 10))) (eC (.str "?")) (aF aO (gJ (aC (eC (.str ".")) (aC (eC (.str "#")) aG))) (aR nE (aC (aF (dG false) (cH (aC (eV 13) (aC (eV 14) aG))) (aF aO (eV 1) (eC (.int 2)))) aG))))))
  (cV (xP (hW (eB (aF cA (pD (aF aO (eV 12) (eV 14)) (oE (eV 13)) (oE (aF bM (eV 13) (eC (.int 1))))) (eV 15))) (eB (aF cA (aR mI (aC (aF aO (eV 12) (eV 14)) aG)) (aF aO (eV 1) (eC (.int 0))))))) (cL (xP (eC (.bool false)))) eW)))
  (cL (xP (eC (.bool true)))))))))))))))))))
def lK:List D->Option D:=rX 16 rY
section
variable {P:JY}{w:J1}{K:PySem.W.Frag}{mg:Str->Option JS}{base:Heap}{a:Nat->YP}{d:Nat->J5}{ta:Nat->YP}{e_NoStep:YP}{C:YP}{b:Nat->YP}{e:Nat->J5}(T:Txt K mg a d w ta e_NoStep)(B:nB K mg C)(M:y7 K C b e)
include T B M
theorem NB(x:aK P w K mg base aL 3 (a 14) (d 14) ["_law_script","_law_at","_law_most"] (aX K 3 qS))(v:aK P w K mg base aL 2 (a 12) (d 12) ["_law_floor_here"] (aX K 1 sO))(y:aK P w K mg base aL 1 (a 7) (d 7) ["_law_floor_here"] (aX K 1 n6))(z:aK P w K mg base aL 9 (a 23) (d 23) ["floor","cells"] (aX K 2 tQ))(t:aK P w K mg base aL 2 (a 11) (d 11) ["_law_script","_law_k","_law_many"] (aX K 3 e8))(u:aK P w K mg base aL 7 (a 19) (d 19) ["floor","cell"] (aX K 2 gW))(p:aK P w K mg base aL 8 (b 7) (e 7) ["self"] (c9 (wK K C) 1 qN))(c:aK P w K mg base aL 1 (b 4) (e 4) ["self"] (c9 (wK K C) 1 fO))(l:aK P w K mg base aL 1 (b 3) (e 3) ["self"] (c9 (wK K C) 1 qR))(o:aK P w K mg base aL 1 (b 2) (e 2) ["self"] (c9 (wK K C) 1 j6))(q:aK P w K mg base aL 8 (b 0) (e 0) ["self","floor","cell"] (vN (wK K C) C 2 qO))(r:aK P w K mg base aL 9 (a 21) (d 21) ["_law_walker","_law_word"] (c9 (wK K C) 2 jL)):aK P w K mg base aL 10 (a 24) (d 24) ["_law_script"] (aX K 1 lK):=by
 refine Mv (k:=(wK K C)) (τ:=[(3,0)]) (g:=rY) (G:=lK) (N:=uV) (kk:=9) rfl rfl rfl T.F_qo.F fA fun J A I s H E f=>?_
 exact(dE (iL (i:=1) fA.nd (by decide) (cF (cB T.F_q7 x f rfl (aI (aD 0) (aI aN (aI aN aP rfl) rfl) rfl) jY)))
  (dE (iL (i:=2) fA.nd (by decide) (cF (cB T.F_qa v f rfl (aI (aD 1) aP rfl) fG)))
  (dE (j5 (o3 (dB (Cq (eP f)) (aD 2) (@oH _ _ _ _ aP) (dL _))) (dF (fN (cF gC))) lH)
  (dE (zTJ (i:=3) (n:=0) fA.nd (by decide) M.M q (f.mono (by decide)) rfl B.mC M.bi (aI (aD 1) (aI (bI bD (aD 2) (cB T.F_q9 t f rfl (aI (aD 0) (aI aN (aI (gX oF rfl T.z_len PySem.boot_len (aI (aD 2) aP rfl)) aP rfl) rfl) rfl) jY)) aP rfl) rfl) ln2)
  (dE (iL (i:=4) fA.nd (by decide) (cF iF))
  (dE (CI (i:=5) Yn rfl fA.nd (by decide) (q8 rfl T.z_range (aI (gX (RS rfl) rfl T.z_max boot_max (aI aN (aI (gX (RT rfl) rfl T.z_min boot_min (aI aN (aI (gX oF rfl T.z_len PySem.boot_len (aI (aD 0) aP rfl)) aP rfl) rfl)) aP rfl) rfl)) aP rfl)) (dE (iL (i:=6) fA.nd (by decide) (cF (bI DD iF (cB T.F_q9 t f rfl (aI (aD 0) (aI (bF dC aN (aD 5)) (aI aN aP rfl) rfl) rfl) jY))))
  (dE (iL (i:=7) fA.nd (by decide) (kI (i:=3) (j:=0) (by decide) B.cl M.knows.m (fun _ _ _ _=>⟨rfl,rfl⟩) c (f.mono (by decide)) M.knows.b))
  (dE (iL (i:=8) fA.nd (by decide) (IS (j:=0) r (f.mono (by decide)) rfl T.F_qe.m T.F_qe.F.kp T.F_qe.b (I0 (i:=3) (by decide) (IY (aD 6) IZ)) (GD (GB (fun _ _ h=>GC h)))))
  (dF (j5 (o3 (dB W4 (aD 8) FQ (dL _))) (dF (j5 (pS (iH (eP f)) (kI (i:=3) (j:=0) (by decide) B.cl M.knows.m (fun _ _ _ _=>⟨rfl,rfl⟩) c (f.mono (by decide)) M.knows.b) (cF (aD 7)) (dL _)) (dF (fN (cF gC))) lH)) (dE (iL (i:=4) fA.nd (by decide) (cF (bF W2 (aD 4) (aD 6))))
  (dF (j5 (pS (iH (eP f)) (cF (aD 8)) (IR (τ':=[]) (n:=0) rfl (gM (N':=Ej) (inner:=[none,some 7]) (aS sG) uV rfl rfl (by decide +kernel)) (by decide) (CF (kI (i:=3) (j:=0) (by decide) B.cl M.knows.m (fun _ _ _ _=>⟨rfl,rfl⟩) c (f.mono (by decide)) M.knows.b)) (fun _ _ _ _ _=>mT Vz rfl (Ze rfl)) (fun _ _ _ _ _=>(o3 (dB (p6 (gL f)) (aD 0) (aD 1) (by with_unfolding_all rfl)))) (fun _ _ _ _ _=>(aD 0))) (dL _)) (dF (fN (cF gC))) lH)))))))))
  (dE (iL (i:=9) fA.nd (by decide) (kI (i:=3) (j:=0) (by decide) B.cl M.walked.m (fun _ _ _ _=>⟨rfl,rfl⟩) l (f.mono (by decide)) M.walked.b))
  (dE (iL (i:=10) fA.nd (by decide) (cF (@oH _ _ _ _ aP)))
  (dE (CI (i:=11) Yn rfl fA.nd (by decide) (i6 (Bo rfl (jK f) rfl T.z_sorted Vf (Gi (xN rfl (eP f) rfl T.z_set boot_set (aI (aD 9) aP rfl))))) (dF (iL (i:=10) fA.nd (by decide) (cF (bF dC (aD 10) (cB T.F_qb u f rfl (aI (aD 1) (aI (aD 11) aP rfl) rfl) ln2))))))
  (dE (j5 (D5 (Lh (o3 (dB (iH (eP f)) (gX oF rfl T.z_len PySem.boot_len (aI (aD 9) aP rfl)) (bF dC (gX EI rfl T.z_len PySem.boot_len (aI (aD 4) aP rfl)) aN) (dL _))) (Li (pS (iH (eP f)) (kI (i:=3) (j:=0) (by decide) B.cl M.knows.m (fun _ _ _ _=>⟨rfl,rfl⟩) c (f.mono (by decide)) M.knows.b) (cF (Bo rfl (jK f) rfl T.z_sorted Vf (Gi (xN rfl (eP f) rfl T.z_set boot_set (aI (aD 10) aP rfl))))) (dL _))))) (dF (fN (cF gC))) lH)
  (dE (j5 (pS (iH (eP f)) (IR (τ':=[]) (n:=0) rfl (gM (N':=Ek) (inner:=[none,some 1]) (aS sG) uV rfl rfl (by decide +kernel)) (by decide) (CF (kI (i:=3) (j:=0) (by decide) B.cl M.knows.m (fun _ _ _ _=>⟨rfl,rfl⟩) c (f.mono (by decide)) M.knows.b)) (fun _ _ _ _ _=>mT VA rfl (Ze rfl)) (fun _ _ _ _ _=>(o3 (dB (p6 (gL f)) (aD 0) (bI bD (aD 1) aN) (by with_unfolding_all rfl)))) (fun _ _ _ _ _=>(aD 0))) (cF (cB T.F_q4 z f rfl (aI (aD 1) (aI (aD 9) aP rfl) rfl) ln2)) (dL _)) (dF (fN (cF gC))) lH)
  (dE (CI (i:=6) Yn rfl fA.nd (by decide) (RA (Rw (aD 4) (tY (tX tJ aN)))) (dF (j5 (pS (iH (eP f)) (IS (j:=0) r (f.mono (by decide)) rfl T.F_qe.m T.F_qe.F.kp T.F_qe.b (I0 (i:=3) (by decide) (IY (bI DD iF (Rt iF (aD 6))) IZ)) (GD (GB (fun _ _ h=>GC h)))) (cF (@oH _ _ _ _ aP)) (dL _)) (dF (fN (cF gC))) lH)))
  (dE (iL (i:=12) fA.nd (by decide) (zTC (kI (i:=3) (j:=0) (by decide) B.cl M.drawn.m (fun _ _ _ _=>⟨rfl,rfl⟩) p (f.mono (by decide)) M.drawn.b) (cF iF)))
  (dE (j5 (D5 (Lh (pS (iH (eP f)) (kI (i:=3) (j:=0) (by decide) B.cl M.«where».m (fun _ _ _ _=>⟨rfl,rfl⟩) o (f.mono (by decide)) M.«where».b) (cF (bI bD (aD 9) aN)) (dL _)) (Li (o3 (dB (iH (eP f)) (gX oF rfl T.z_len PySem.boot_len (aI (aD 12) aP rfl)) (bI bD (aD 1) aN) (dL _)))))) (dF (fN (cF gC))) lH)
  (dE (zTI Yn rfl (zTF (i6 (cB T.F_q5 y f rfl (aI (aD 1) aP rfl) fG))) (zTD rfl (IW (IV (i:=13) fA.nd (by decide)) (IW (IV (i:=14) fA.nd (by decide)) zTE))) (dE (iL (i:=15) fA.nd (by decide) (cF (Bl (dB (p6 (gL f)) (gT (aI (aD 13) (aI (aD 14) aP rfl) rfl)) (aD 10) (by with_unfolding_all rfl)) iF (bI bD (@oH _ _ _ _ (aI iF (aI iF aP rfl) rfl)) (vZ RQ rfl T.z_int PF (aI (FP (yG (gL f)) (gT (aI (aD 13) (aI (aD 14) aP rfl) rfl)) (bI bD (aD 1) aN) (by with_unfolding_all rfl)) aP rfl))))))
  (dF (j5 (o3 (pB (xQ (dB (iH (eP f)) (Rx (bI bD (aD 12) (aD 14)) (tY (aD 13)) (tY (bF dC (aD 13) aN))) (aD 15) (dL _)) (xR (dB (iH (eP f)) (gX EI rfl T.z_len PySem.boot_len (aI (bI bD (aD 12) (aD 14)) aP rfl)) (bI bD (aD 1) aN) (dL _)))))) (dF (fN (cF gC))) lH))))
  (dF (fN (cF gC))))))))))))))))))
end
end My
namespace My
open PySem.SeqAt L2 DL SD SL EL DC
abbrev C:=Int × Int
def aB(c:C):D:=.tuple [.int c.1,.int c.2]
theorem SQ(ds:List D):jX "tuple" (.tuple ds)=true:=id rfl
theorem SN(ds:List D):jX "list" (.list ds)=true:=id rfl
theorem SK(b:Bool):jX "bool" (.bool b)=true:=id rfl
theorem SM(i:Int):jX "int" (.int i)=true:=id rfl
theorem MJ(a:D)(r:List D):aO (.tuple (a::r)) (.int 0)=some a:=by
 show L2.atI (a::r) 0=some a
 unfold L2.atI L2.ixN;rw [if_pos (by lia),if_pos (by rw [Qo];lia)];rfl
theorem vA(a b:D)(r:List D):aO (.tuple (a::b::r)) (.int 1)=some b:=by
 show L2.atI (a::b::r) 1=some b
 unfold L2.atI L2.ixN;rw [if_pos (by lia),if_pos (by rw [Qo,Qo];lia)];rfl
theorem MM(a b c:D)(r:List D):aO (.tuple (a::b::c::r)) (.int 2)=some c:=by
 show L2.atI (a::b::c::r) 2=some c
 unfold L2.atI L2.ixN;rw [if_pos (by lia),if_pos (by rw [Qo,Qo,Qo];lia)];rfl
theorem MK(a:D)(r:List D):aO (.list (a::r)) (.int 0)=some a:=MJ a r
theorem ML(a b:D)(r:List D):aO (.list (a::b::r)) (.int 1)=some b:=vA a b r
theorem MN(a b c:D)(r:List D):aO (.list (a::b::c::r)) (.int 2)=some c:=MM a b c r
theorem MO(a b c d e:D):aO (.list [a,b,c,d,e]) (.int 3)=some d:=id rfl
theorem MP(a b c d e:D):aO (.list [a,b,c,d,e]) (.int 4)=some e:=id rfl
theorem Et(i j:Int):bM (.int i) (.int j)=some (.int (i+j)):=id rfl
theorem On(i j:Int):u6 (.int i) (.int j)=some (.int (i-j)):=id rfl
theorem M4(i j:Int):pA (.int i) (.int j)=some (.bool (decide (i<j))):=id rfl
theorem MV(i j:Int):o9 (.int i) (.int j)=some (.bool (decide (i<=j))):=id rfl
theorem ME(i j:Int):rS (.int i) (.int j)=some (.bool (decide (j<i))):=id rfl
theorem MD(i j:Int):Mi (.int i) (.int j)=some (.bool (decide (j<=i))):=id rfl
theorem Ms(i j:Int):iO (.int i) (.int j)=some (.bool (i == j)):=id rfl
theorem zE(i j:Int):cA (.int i) (.int j)=some (.bool (!(i == j))):=id rfl
theorem M7(i:Int):jD (.int i)=some (.int (-i)):=id rfl
theorem LQ(i:Int):rR [.int i]=some (.int (if i<0 then -i else i)):=id rfl
theorem uF(l:List D):eK [.list l]=some (.int l.length):=id rfl
theorem MX(l:List D):eK [.tuple l]=some (.int l.length):=id rfl
theorem Xv(l:List D):qZ [.list l]=some (.tuple l):=id rfl
theorem zTa(l:List D):qZ [.tuple l]=some (.tuple l):=id rfl
theorem V3(l:List D):Eh [.list l]=some (.list l):=id rfl
theorem V4(l:List D):Eh [.tuple l]=some (.list l):=id rfl
theorem L9:(false=true)=False:=by simp
theorem Ma:(true=true)=True:=by simp
theorem kD{i j:Int}(h:mR i j=true):cY (.int i) (.int j)=some (.int (i * j)):=by
 show(if mR i j=true then _ else _)=_
 rw [if_pos h]
theorem AL{i j:Int}(h:p5 i j=true):k4 (.int i) (.int j)=some (.int (i / j)):=by
 show(if p5 i j=true then _ else _)=_
 rw [if_pos h]
theorem oV{i j:Int}(h:0<j):hJ (.int i) (.int j)=some (.int (i % j)):=by
 show(if decide (0<j)=true then _ else _)=_
 rw [if_pos (decide_eq_true h)]
theorem lS{i j:Int}(b:-18446744073709551616<i)(a:i<18446744073709551616):mR i j=true:=by
 unfold mR;rw [decide_eq_true b,decide_eq_true a];rfl
theorem DJ{i j:Int}(b:-18446744073709551616<j)(a:j<18446744073709551616):mR i j=true:=by
 unfold mR;rw [decide_eq_true b,decide_eq_true a];simp
theorem zH{i j:Int}(b:0<j)(a:j<1073741824):p5 i j=true:=by
 unfold p5;rw [decide_eq_true b,decide_eq_true a];rfl
section
variable {α β:Type}
theorem tV{s:D->aA->Option aA}{t:aA->Option Bool}{ge:aA->Option D}(item:α->D)(p:α->Bool)(f:α->D)(I:aA->Prop):∀{xs:List α}{ρ:aA},I ρ->
  (∀ a∈xs,∀ ρ,I ρ->∃ ρ',s (item a) ρ=some ρ'/\I ρ'/\t ρ'=some (p a)/\(p a=true->ge ρ'=some (f a)))->mG s t ge (xs.map item) ρ=some ((xs.filter p).map f)
 | [],_,_,_=>rfl
 | x::xs,ρ,h0,h=>by
  obtain⟨ρ',i,c,g,e⟩:=h x Qh ρ h0;have b:=tV item p f I c fun y d=>h y (Qg _ d);rw [Qk];unfold mG;rw [i,Qc,g,Qc]
  cases q:p x with
  | true=>rw [if_pos rfl,e q,Qc,b,List.filter_cons_of_pos q];rfl
  | false=>rw [if_neg Qv,b,List.filter_cons_of_neg (by rw [q];exact Qv)]
theorem Hw{gi:aA->Option (List D)}{s:D->aA->Option aA}{t:aA->Option Bool}{ge:aA->Option D}{inner:List (Option Nat)}{ρ:aA}{xs:List α}(item:α->D)(p:α->Bool)(f:α->D)(I:aA->Prop)(c:gi ρ=some (xs.map item))(b:xs.length<=1000)(d:I (fV inner ρ))
  (h:∀ a∈xs,∀ ρ,I ρ->∃ ρ',s (item a) ρ=some ρ'/\I ρ'/\t ρ'=some (p a)/\(p a=true->ge ρ'=some (f a))):fR (fU gi s t ge inner) ρ=some (.list ((xs.filter p).map f)):=by
 have q:=tV item p f I d h;unfold fR fU;rw [c,Qc,q,Qc,if_pos (by rw [Qd];exact Qr (Q7 _ _) b)];rfl
theorem mQ{gi:aA->Option (List D)}{s:D->aA->Option aA}{t:aA->Option Bool}{ge:aA->Option D}{inner:List (Option Nat)}{ρ:aA}{xs:List α}{out:List D}(item:α->D)(p:α->Bool)(f:α->D)(I:aA->Prop)(d:gi ρ=some (xs.map item))(c:xs.length<=1000)(e:I (fV inner ρ))
  (h:∀ a∈xs,∀ ρ,I ρ->∃ ρ',s (item a) ρ=some ρ'/\I ρ'/\t ρ'=some (p a)/\(p a=true->ge ρ'=some (f a))) (b:(xs.filter p).map f=out):fR (fU gi s t ge inner) ρ=some (.list out):=by
 rw [<- b];exact Hw item p f I d c e h
theorem xV(l:List α):l.filter (fun _=>true)=l:=by induction l with
 | nil=>rfl
 | cons a l b=>simp [b]
theorem rE{s:D->aA->Option aA}{g:aA->Option aQ}(item:α->D)(env:β->aA)(step:β->α->β)(P:Nat->β->Prop)(n:Nat):∀(xs:List α) (i:Nat) (b:β),i+xs.length<=n->P i b->
  (∀ a∈xs,∀ i b,i<n->P i b->(∃ ρ1,s (item a) (env b)=some ρ1/\g ρ1=some (.nx (env (step b a))))/\P (i+1) (step b a))->hY s g (xs.map item) (env b)=some (.nx (env (xs.foldl step b)))
 | [],_,b,_,_,_=>rfl
 | x::xs,i,b,hi,hp,h=>by
  rw [Qo]at hi;obtain⟨⟨ρ1,f,e⟩,c⟩:=h x Qh i b (by lia) hp;rw [Qk];unfold hY;rw [f,Qc,e,Qc];exact rE item env step P n xs (i+1) _ (by lia) c fun a d=>h a (Qg _ d)
theorem AT{s:D->aA->Option aA}{g:aA->Option aQ}(item:α->D)(I:aA->Prop)(p:α->Bool)(d:D):∀(xs:List α) (ρ:aA),I ρ->
  (∀ a∈xs,∀ ρ,I ρ->∃ ρ1,s (item a) ρ=some ρ1/\if p a=true then g ρ1=some (.rt d)else ∃ ρ2,g ρ1=some (.nx ρ2)/\I ρ2)->
  if xs.any p=true then hY s g (xs.map item) ρ=some (.rt d)else ∃ ρ',hY s g (xs.map item) ρ=some (.nx ρ')/\I ρ'
 | [],ρ,h0,_=>by rw [if_neg (by simp)];exact⟨ρ,rfl,h0⟩
 | x::xs,ρ,h0,h=>by
  obtain⟨ρ1,f,b⟩:=h x Qh ρ h0;rw [Qk,Jy];unfold hY;rw [f,Qc]
  cases q:p x with
  | true=>
   rw [q,if_pos rfl]at b;rw [Bool.true_or,if_pos rfl,b];rfl
  | false=>
   rw [q,if_neg Qv]at b;obtain⟨ρ2,b,c⟩:=b;rw [Bool.false_or,b,Qc];exact AT item I p d xs ρ2 c fun a e=>h a (Qg _ e)
end
theorem wY(h:Nat)(a:h<1000):j0 [.int h]=some ((JZ h).map fun(k:Nat)=>.int (k:Int)):=by
 show(if -4611686018427387904<=(h:Int)/\(h:Int)<4611686018427387904 then some ((JZ (h:Int).toNat).map fun(k:Nat)=>J0 (0+(k:Int)))else none)=_
 rw [if_pos ⟨by lia,by lia⟩,Je];congr 2
 funext k
 rw [Int.zero_add]
section
variable {g g1 g2:aA->Option aQ}{t u:aA->Option Bool}{ga gb gc:aA->Option D}{gr:aA->Option (List D)}{ρ:aA}{d:D}
theorem Pk:bK g1 g2 ρ=(g1 ρ).bind fun o=>match o with | .nx ρ'=>g2 ρ' | o=>some o:=id rfl
theorem Pm:fX ρ=some (.nx ρ):=id rfl
theorem Pj:cJ ga ρ=(ga (ρ.map frz)).bind fun d=>some (.rt d):=id rfl
theorem Pl(i:Nat):dI i ga ρ=(ga ρ).bind fun d=>some (.nx (ρ.set i (.dat d))):=id rfl
theorem Pi(i:Nat):pI i gr ρ=(gr ρ).bind fun ds=>if ds.length<=1000 then some (.nx (ρ.set i (.own ds)))else none:=id rfl
theorem P4(i:Nat):N1 i g ρ=g (AV i ρ):=id rfl
theorem LY:dY t g1 g2 ρ=(t (ρ.map frz)).bind fun b=>if b=true then g1 ρ else g2 ρ:=id rfl
theorem P2:n0 ga ρ=(ga ρ).bind fun _=>some (.nx ρ):=id rfl
theorem PX(i:Nat):nO i ga ρ=match ρ[i]? with
 | some (.own ds)=>(ga ρ).bind fun d=>if ds.length<1000 then some (.nx (ρ.set i (.own (ds++[d]))))else none
 | _=>none:=id rfl
theorem PY(s:D->aA->Option aA):NZ ga s ρ=(ga ρ).bind fun d=>(s d ρ).bind fun ρ'=>some (.nx ρ'):=id rfl
theorem P3(gi:aA->Option (List D))(s:D->aA->Option aA):iS gi s g ρ=(gi ρ).bind fun xs=>hY s g xs ρ:=id rfl
theorem LW(i:Nat):eV i ρ=match ρ[i]? with | some (.dat d)=>some d | _=>none:=id rfl
theorem Do:eC d ρ=some d:=id rfl
theorem Ex(f:D->D->Option D):aF f ga gb ρ=(ga ρ).bind fun x=>(gb ρ).bind fun y=>f x y:=id rfl
theorem L6(f:D->Option D):jV f ga ρ=(ga ρ).bind f:=id rfl
theorem PZ(G:List D->Option D):aR G gr ρ=(gr ρ).bind G:=id rfl
theorem P1:aC ga gr ρ=(ga ρ).bind fun x=>(gr ρ).bind fun xs=>some (x::xs):=id rfl
theorem P9:aG ρ=some []:=id rfl
theorem Po:cH gr ρ=(gr ρ).bind fun xs=>if xs.length<=1000 then some (.tuple xs)else none:=id rfl
theorem P7:gJ gr ρ=(gr ρ).bind fun xs=>if xs.length<=1000 then some (.list xs)else none:=id rfl
theorem LU:eB ga ρ=(ga ρ).bind eJ:=id rfl
theorem Ra:kQ t ρ=(t ρ).bind fun b=>some (!b):=id rfl
theorem PU:jT t u ρ=(t ρ).bind fun b=>if b=true then u ρ else some false:=id rfl
theorem L4:hW t u ρ=(t ρ).bind fun b=>if b=true then some true else u ρ:=id rfl
theorem PV:oK ga gb ρ=(ga ρ).bind fun x=>(eJ x).bind fun c=>if c=true then gb ρ else some (.bool false):=id rfl
theorem Ph:Mo ga gb ρ=(ga ρ).bind fun x=>(eJ x).bind fun c=>if c=true then some (.bool true)else gb ρ:=id rfl
theorem Pg:AF ga ρ=(ga ρ).bind fun x=>(eJ x).bind fun c=>some (.bool (!c)):=id rfl
theorem P6:kP t ga gb ρ=(t ρ).bind fun b=>if b=true then ga ρ else gb ρ:=id rfl
theorem LZ(T:String):rW T ga ρ=(ga ρ).bind fun d=>if k9 d=true then none else some (.bool (jX T d)):=id rfl
theorem P0(h h':D->D->Option D):t7 h h' ga gb gc ρ=(ga ρ).bind fun x=>(gb ρ).bind fun y=>(h x y).bind fun z=>(eJ z).bind fun k=>if k=true then(gc ρ).bind fun c=>h' y c else some (.bool false):=id rfl
theorem L0:pG ρ=some none:=id rfl
theorem L3:oE ga ρ=(ga ρ).bind fun d=>(u5 d).bind fun i=>some (some i):=id rfl
theorem L5(a gh:aA->Option (Option Int)):pC ga a gh ρ=(ga ρ).bind fun d=>(a ρ).bind fun l=>(gh ρ).bind fun h=>Dr d l h:=id rfl
theorem P8(i:Nat):bX i d ρ=some (ρ.set i (.dat d)):=id rfl
theorem Pp:j2 [] ρ=some ρ:=id rfl
theorem LV:eT ρ=some true:=id rfl
theorem LX(n:Nat)(ds:List D):cP n g ds=match g (cE n ds)with | some (.rt d)=>some d | some (.nx _)=>some .none | _=>none:=id rfl
theorem Pn(n:Nat)(ds:List D):cE n ds=ds.map .dat++ZA (n-ds.length) .no:=id rfl
theorem Tv:frz (.dat d)=.dat d:=id rfl
theorem Tw:frz .no=.no:=id rfl
theorem Tx(ds:List D):frz (.own ds)=.dat (.list ds):=id rfl
theorem L7(b:Bool):eJ (.bool b)=some b:=id rfl
theorem L8(i:Int):u5 (.int i)=some i:=id rfl
theorem Oh(l:List D):jJ (.list l)=some l:=id rfl
theorem Oi(l:List D):jJ (.tuple l)=some l:=id rfl
theorem Mn(l:List D):k9 (.tuple l)=false:=id rfl
theorem Mm(l:List D):k9 (.list l)=false:=id rfl
theorem Ml(i:Int):k9 (.int i)=false:=id rfl
theorem Mj(b:Bool):k9 (.bool b)=false:=id rfl
end
section
variable {α β:Type}(a:α)(l m:List α)(n:Nat)(f:α->β)
theorem Lv:(a::l)[0]?=some a:=id rfl
theorem Lw:(a::l)[n+1]?=l[n]?:=id rfl
theorem Lz:(a::l).map f=f a::l.map f:=id rfl
theorem LA:([]:List α).map f=[]:=id rfl
theorem Lx:(a::l).length=l.length+1:=id rfl
theorem Ly:([]:List α).length=0:=id rfl
theorem Lu:(a::l)++m=a::(l++m):=id rfl
theorem LB:[]++m=m:=id rfl
theorem LF(b:α):(a::l).set 0 b=b::l:=id rfl
theorem LG(b:α):(a::l).set (n+1) b=a::l.set n b:=id rfl
theorem LC:ZA 0 a=[]:=id rfl
theorem LD:ZA (n+1) a=a::ZA n a:=id rfl
theorem Da(k:α->Option β):(some a).bind k=k a:=id rfl
end
theorem RU(c:C):aO (aB c) (.int 0)=some (.int c.1):=id rfl
theorem RV(c:C):aO (aB c) (.int 1)=some (.int c.2):=id rfl
theorem RX(c:C):jX "tuple" (aB c)=true:=id rfl
theorem RW(c:C):k9 (aB c)=false:=id rfl
theorem RY(c:C):eK [aB c]=some (.int 2):=id rfl
theorem RZ(x y:Int):ZG [.int x,.int y]=aB (x,y):=id rfl
theorem zTi(i j:Nat)(c:C)(ρ:aA):kW 2 (gF (bX i) (gF (bX j) j2)) (aB c) ρ=some ((ρ.set i (.dat (.int c.1))).set j (.dat (.int c.2))):=id rfl
def uE{c:Type}(a:c->Bool)(step:c->c):Nat->c->Option c
 | 0,_=>none
 | n+1,b=>if a b=true then uE a step n (step b)else some b
theorem Kp{d:Type}{t:aA->Option Bool}{g:aA->Option aQ}(env:d->aA)(a:d->Bool)(step:d->d)(P:Nat->d->Prop)(e:∀ n b,P n b->t ((env b).map frz)=some (a b))
  (f:∀ n b,P (n+1) b->a b=true->g (env b)=some (.nx (env (step b)))/\P n (step b)):∀ n b b',P n b->uE a step n b=some b'->l8 t g n (env b)=some (.nx (env b'))
 | 0,_,_,_,h=>by cases h
 | n+1,b,b',p,h=>by
  unfold uE at h;unfold l8;rw [e _ b p,Qc];by_cases c:a b=true
  ·rw [if_pos c]at h ⊢;obtain⟨j,i⟩:=f n b p c;rw [j,Qc];exact Kp env a step P e f n _ b' i h
  ·rw [if_neg c]at h ⊢;cases h;rfl
theorem bR{g1 a:aA->Option aQ}{ρ ρ':aA}{r:Option aQ}(h:g1 ρ=some (.nx ρ'))(b:a ρ'=r):bK g1 a ρ=r:=by
 unfold bK;rw [h];exact b
theorem BU{g1 a:aA->Option aQ}{ρ:aA}{d:D}(h:g1 ρ=some (.rt d)):bK g1 a ρ=some (.rt d):=by
 unfold bK;rw [h];rfl
theorem eE{n:Nat}{g:aA->Option aQ}{ds:List D}{d:D}(h:g (cE n ds)=some (.rt d)):cP n g ds=some d:=by
 unfold cP;rw [h]
theorem nY{gi:aA->Option (List D)}{s:D->aA->Option aA}{g:aA->Option aQ}{ρ:aA}{xs:List D}{r:Option aQ}(b:gi ρ=some xs)(a:hY s g xs ρ=r):iS gi s g ρ=r:=by
 unfold iS;rw [b];exact a
theorem nZ{t:aA->Option Bool}{g1 a:aA->Option aQ}{ρ:aA}{b:Bool}{r:Option aQ}(h:t (ρ.map frz)=some b)(d:b=true->g1 ρ=r)(c:b=false->a ρ=r):dY t g1 a ρ=r:=by
 unfold dY;rw [h]
 cases b with
 | true=>exact d rfl
 | false=>exact c rfl
theorem dV{ga:aA->Option D}{ρ:aA}{d:D}(h:ga (ρ.map frz)=some d):cJ ga ρ=some (.rt d):=by
 unfold cJ;rw [h];rfl
theorem fM{i:Nat}{ga:aA->Option D}{ρ:aA}{d:D}(h:ga ρ=some d):dI i ga ρ=some (.nx (ρ.set i (.dat d))):=by
 unfold dI;rw [h];rfl
theorem bG{G:List D->Option D}{gr:aA->Option (List D)}{ρ:aA}{ds:List D}{r:Option D}(h:gr ρ=some ds)(a:G ds=r):aR G gr ρ=r:=by
 unfold aR;rw [h];exact a
theorem Ij{gr:aA->Option (List D)}{s:D->aA->Option aA}{g:aA->Option aQ}{ρ:aA}{n:Nat}{r:Option aQ}(d:gr ρ=some [.int (n:Nat)])(b:n<1000)(c:hY s g ((JZ n).map fun(k:Nat)=>.int (k:Int)) ρ=r):iS (iT gr) s g ρ=r:=by
 show((gr ρ).bind j0).bind (fun a=>hY s g a ρ)=r
 rw [d,Qc,wY n b,Qc];exact c
theorem x3{gr:aA->Option (List D)}{ρ:aA}{n:Nat}(b:gr ρ=some [.int (n:Nat)])(a:n<1000):iT gr ρ=some ((JZ n).map fun(k:Nat)=>.int (k:Int)):=by
 show(gr ρ).bind j0=_
 rw [b,Qc,wY n a]
theorem oo{f:D->D->Option D}{ga gb:aA->Option D}{ρ:aA}{x y:D}{r:Option D}(c:ga ρ=some x)(b:gb ρ=some y)(a:f x y=r):aF f ga gb ρ=r:=by
 unfold aF;rw [c,Qc,b];exact a
theorem oB{ga:aA->Option D}{ρ:aA}{b:Bool}(h:ga ρ=some (.bool b)):eB ga ρ=some b:=by
 unfold eB;rw [h];rfl
theorem Ie{i:Nat}{ga:aA->Option D}{ρ:aA}{ds:List D}{d:D}(c:ρ[i]?=some (.own ds))(b:ga ρ=some d)(a:ds.length<1000):nO i ga ρ=some (.nx (ρ.set i (.own (ds++[d])))):=by
 unfold nO;rw [c]
 show(ga ρ).bind _=_
 rw [b,Qc,if_pos a]
theorem Ig{ga:aA->Option D}{ρ:aA}{d:D}(h:ga ρ=some d):n0 ga ρ=some (.nx ρ):=by
 unfold n0;rw [h];rfl
theorem dO{ga:aA->Option D}{gr:aA->Option (List D)}{ρ:aA}{d:D}{ds:List D}(h:ga ρ=some d)(a:gr ρ=some ds):aC ga gr ρ=some (d::ds):=by
 unfold aC;rw [h,Qc,a];rfl
theorem gN{t:aA->Option Bool}{g1:aA->Option aQ}{ρ:aA}(h:t (ρ.map frz)=some false):dY t g1 fX ρ=some (.nx ρ):=by
 unfold dY;rw [h];rfl
theorem oN{t:aA->Option Bool}{ρ:aA}{b:Bool}(h:t ρ=some b):kQ t ρ=some (!b):=by
 unfold kQ;rw [h];rfl
theorem DH{t u:aA->Option Bool}{ρ:aA}{r:Option Bool}(h:t ρ=some true)(a:u ρ=r):jT t u ρ=r:=by
 unfold jT;rw [h];exact a
theorem DF{t u:aA->Option Bool}{ρ:aA}(h:t ρ=some false):jT t u ρ=some false:=by
 unfold jT;rw [h];rfl
theorem Fu{n:Nat}{g:aA->Option aQ}{ds:List D}{ρ:aA}(h:g (cE n ds)=some (.nx ρ)):cP n g ds=some .none:=by
 unfold cP;rw [h]
theorem M9{ga gb:aA->Option D}{ρ:aA}{r:Option D}(h:ga ρ=some (.bool true))(a:gb ρ=r):oK ga gb ρ=r:=by
 unfold oK;rw [h];exact a
theorem vC{ga gb:aA->Option D}{ρ:aA}{x y:D}(b:ga ρ=some x)(a:gb ρ=some y):cH (aC ga (aC gb aG)) ρ=some (.tuple [x,y]):=by
 unfold cH;rw [dO b (dO a rfl)];rfl
theorem zF{t u:aA->Option Bool}{ρ:aA}{r:Option Bool}(h:t ρ=some false)(a:u ρ=r):hW t u ρ=r:=by
 unfold hW;rw [h];exact a
theorem kB{ga:aA->Option D}{ρ:aA}{d:D}{l:List D}(b:ga ρ=some d)(a:jJ d=some l):eM ga ρ=some l:=by
 show(ga ρ).bind jJ=_
 rw [b,Qc,a]
theorem MG{c:Type}{_:Decidable True}(a b:c):(if True then a else b)=a:=if_pos trivial
theorem MF{c:Type}{_:Decidable False}(a b:c):(if False then a else b)=b:=if_neg id
theorem P5(i:Nat)(ρ:aA):AV i ρ=match ρ[i]? with
 | some (.own ds)=>ρ.set i (.dat (.list ds))
 | _=>ρ:=id rfl
def Dt:=JV @MG (JV @MF (JV @P5 (JV @Pk (JV @Pm (JV @Pj (JV @Pl (JV @Pi (JV @P4 (JV @LY (JV @P2 (JV @PX (JV @PY (JV @P3 (JV @LW (JV @Do (JV @Ex (JV @L6 (JV @PZ (JV @P1 (JV @P9 (JV @Po (JV @P7 (JV @LU (JV @Ra (JV @PU (JV @L4 (JV @PV (JV @Ph (JV @Pg (JV @P6 (JV @LZ (JV @P0 (JV @L0 (JV @L3 (JV @L5 (JV @P8 (JV @Pp (JV @LV (JV @LX (JV @Pn (JV @Tv (JV @Tw (JV @Tx (JV @L7 (JV @L8 (JV @Oh (JV @Oi (JV @Mn (JV @Mm (JV @Ml (JV @Mj (JV @SQ (JV @SN (JV @SK (JV @SM (JV @RU (JV @RV (JV @RX (JV @RW (JV @RY (JV @RZ (JV @zTi (JV @MK (JV @ML (JV @MN (JV @MO (JV @MP (JV @Et (JV @On (JV @M4 (JV @MV (JV @ME (JV @MD (JV @Ms (JV @zE (JV @M7 (JV @LQ (JV @uF (JV @MX (JV @Xv (JV @zTa (JV @V3 (JV @V4 (JV @L9 (JV @Ma (JV @Lv (JV @Lw (JV @Lz (JV @LA (JV @Lx (JV @Ly (JV @Lu (JV @LB (JV @LF (JV @LG (JV @LC (JV @LD (JV @Da (JV @Yy (JV @UB (@Qp)))))))))))))))))))))))))))))))))))))))))))))))))))))))))))))))))))))))))))))))))))))))))))))))))))))
theorem dn:type_of% Dt:=Dt
end My
namespace My
open PySem.SeqAt L2 DL SD SL EL DC
abbrev eH:=List Int
def nJ(p:eH):List eH->List eH
 | []=>[p]
 | q::r=>if HT.lexLt q p=true then q::nJ p r else p::q::r
def iJ:List eH->List eH
 | []=>[]
 | p::r=>nJ p (iJ r)
def fK(k:eH):KD:=(k,eZ k)
theorem Fj(p:eH):∀ l:List eH,jW (fK p) (l.map fK)=(nJ p l).map fK
 | []=>rfl
 | q::r=>by
  show(if HT.lexLt q p=true then fK q::jW (fK p) (r.map fK)else fK p::fK q::r.map fK)=(if HT.lexLt q p=true then q::nJ p r else p::q::r).map fK
  split
  ·rw [Fj p r];rfl
  ·rfl
theorem BZ:∀ l:List eH,fY (l.map fK)=(iJ l).map fK
 | []=>rfl
 | p::r=>by
  show jW (fK p) (fY (r.map fK))=(nJ p (iJ r)).map fK
  rw [BZ r,Fj]
theorem G9(p:eH):∀ l:List eH,(nJ p l).Perm (p::l)
 | []=>.refl _
 | q::r=>by
  unfold nJ;split
  ·exact((G9 p r).cons q).trans (.swap _ _ _)
  ·exact .refl _
theorem B0:∀ l:List eH,(iJ l).Perm l
 | []=>.refl _
 | p::r=>(G9 p (iJ r)).trans ((B0 r).cons p)
theorem XN(l:List eH):(iJ l).Pairwise fun a b=>HT.lexLt b a=false:=by
 have:=tG (l.map fK)
 rw [BZ,Yb]at this;exact this
theorem vX:∀ l:List eH,l.Nodup->dd l=l
 | [],_=>rfl
 | k::r,h=>by
  obtain⟨b,a⟩:=Q9.mp h;unfold dd;rw [if_neg b,vX r a]
theorem GL:∀{k m:eH},k.length=m.length->gZ (k.map J0) (m.map J0)=true
 | [],[],_=>rfl
 | x::k,y::m,h=>by
  show(iU (.int x) (.int y) && gZ (k.map J0) (m.map J0))=true
  rw [GL (by simpa using h)];rfl
 | [],_::_,h=>by cases h
 | _::_,[],h=>by cases h
theorem Fs:∀ k:eH,i9 (k.map J0)=some k
 | []=>rfl
 | x::k=>by
  have:=Fs k
  show(some [x]).bind (fun a=>(i9 (k.map J0)).bind fun b=>some (a++b))=_
  rw [this];rfl
theorem Id{d0:eH}(b:d0≠[]):∀{l:List eH},(∀ k∈l,k.length=d0.length)->gE (d0.map J0) (l.map eZ)=some (l.map fK)
 | [],_=>rfl
 | k::l,h=>by
  have a:=h k Qh
  have c:lX (d0.map J0) (eZ k)=some k:=by
   cases k with
   | nil=>exact absurd (Jq a.symm) b
   | cons x k=>
    show(if gZ (d0.map J0) ((x::k).map J0)=true then i9 ((x::k).map J0)else none)=_
    rw [if_pos (GL a.symm),Fs]
  show(lX (d0.map J0) (eZ k)).bind _=_
  rw [c,Qc,Id b fun k a=>h k (Qg _ a)];rfl
theorem tH{l:List eH}(h:∀ k∈l,k.length=2)(d:l.length<=63):k6 [.list (l.map eZ)]=some (.list ((iJ l).map eZ)):=by
 cases l with
 | nil=>rfl
 | cons a b=>
  have c:a.length=2:=h a Qh;have f:=Id (d0:=a) (fun q=>by rw [q]at c;cases c) (l:=a::b) fun k e=>(h k e).trans c.symm
  show(if(b.map eZ).length<63 then(gE (a.map J0) ((a::b).map eZ)).bind fun l=>some (ZD ((fY l).map (·.2)))else none)=_
  rw [if_pos (by rw [Qd];simp only [Qo]at d;lia),f]
  show some (ZD ((fY ((a::b).map fK)).map (·.2)))=_
  rw [BZ,Q3];rfl
def row(c:C):eH:=[c.1,c.2]
def nL(a b:C):Bool:=HT.lexLt (row a) (row b)
theorem pW(a b:C):nL a b=true ↔ a.1<b.1 ∨ (a.1=b.1/\a.2<b.2):=by
 unfold nL row;rw [HT.lexLt_cons];by_cases h:a.1=b.1
 ·rw [if_pos h,HT.lexLt_cons];by_cases c:a.2=b.2
  ·rw [if_pos c];simp [HT.lexLt];lia
  ·rw [if_neg c];simp;lia
 ·rw [if_neg h];simp;lia
def Up(l:List C):Prop:=l.Pairwise fun a b=>nL a b=true
theorem By:∀{l m:List C},Up l->Up m->(∀ c,c∈l ↔ c∈m)->l=m
 | [],[],_,_,_=>rfl
 | [],b::m,_,_,h=>nomatch (h b).mpr Qh
 | a::l,[],_,_,h=>nomatch (h a).mp Qh
 | a::l,b::m,h1,h2,h=>by
  obtain⟨g,j⟩:=Yg.mp h1;obtain⟨f,i⟩:=Yg.mp h2
  have d:∀ c:C,nL c c=true->False:=fun c q=>by rw [pW]at q;lia
  have e:a=b:=by
   rcases Ql.mp ((h a).mp Qh)with q | q
   ·exact q
   ·rcases Ql.mp ((h b).mpr Qh)with r | r
    ·exact r.symm
    ·have x:=f a q;have y:=g b r;rw [pW]at x y;lia
  subst e;congr 1;refine By j i fun c=>⟨fun q=>?_,fun q=>?_⟩
  ·rcases Ql.mp ((h c).mp (Qg _ q))with r | r
   ·subst r;exact(d _ (g _ q)).elim
   ·exact r
  ·rcases Ql.mp ((h c).mpr (Qg _ q))with r | r
   ·subst r;exact(d _ (f _ q)).elim
   ·exact r
theorem l6{l:List C}(h:Up l):l.Nodup:=h.imp fun{a b} q e=>by subst e;rw [pW]at q;lia
theorem XM{l:List C}(k:l.Nodup):∃ m:List C,iJ (l.map row)=m.map row/\Up m/\∀ c,c∈m ↔ c∈l:=by
 obtain⟨m,o⟩:∃ m:List C,m=(iJ (l.map row)).map fun r=>(r.getD 0 0,r.getD 1 0):=⟨_,rfl⟩;have f:∀ r,r∈iJ (l.map row) ↔ r∈l.map row:=fun r=>(B0 _).mem_iff
 have e:iJ (l.map row)=m.map row:=by
  rw [o,Q3]
  conv=>lhs;rw [<- List.map_id (iJ (l.map row))]
  refine List.map_congr_left fun r j=>?_;obtain⟨c,_,rfl⟩:=QO.mp ((f r).mp j);rfl
 have inj:∀ a b:C,row a=row b->a=b:=fun a b q=>by
  unfold row at q
  injection q with q1 q2
  injection q2 with q2 _
  exact Jf q1 q2
 have i:∀ c,c∈m ↔ c∈l:=fun c=>by
  constructor
  ·intro h
   have:row c∈l.map row:=(f _).mp (by rw [e];exact JI h)
   obtain⟨d,g,q⟩:=QO.mp this;rw [<- inj _ _ q];exact g
  ·intro h
   have:row c∈m.map row:=by rw [<- e];exact(f _).mpr (JI h)
   obtain⟨d,g,q⟩:=QO.mp this;rw [<- inj _ _ q];exact g
 refine⟨m,e,?_,i⟩
 have s:=XN (l.map row)
 have n:(iJ (l.map row)).Nodup:=(B0 _).nodup_iff.mpr (by
  rw [UL,Yb]
  exact k.imp fun{a b} q r=>q (inj _ _ r))
 rw [e]at s n;rw [Yb]at s;rw [UL,Yb]at n
 refine(s.and n).imp fun{a b} h=>?_
 cases q:nL a b with
 | true=>rfl
 | false=>exact absurd (uG _ _ q h.1) h.2
theorem w5(l:List C):(l.map row).map eZ=l.map aB:=by rw [Q3];rfl
theorem Br{l m:List C}(a:l.Nodup)(d:l.length<=63)(b:Up m)(h:∀ c,c∈m ↔ c∈l):k6 [.list (l.map aB)]=some (.list (m.map aB)):=by
 rw [<- w5 l,tH (fun k e=>by obtain⟨c,_,rfl⟩:=QO.mp e;rfl) (by rw [Qd];exact d)];obtain⟨j,i,g,f⟩:=XM a;rw [i,w5,By g b fun c=>(f c).trans (h c).symm]
def cells(w h:Nat):List C:=(JZ w).flatMap fun(x:Nat)=>(JZ h).map fun(y:Nat)=>((x:Int),(y:Int))
def dR(w h:Nat)(c:C):Bool:=decide (0<=c.1) && decide (c.1<w) && decide (0<=c.2) && decide (c.2<h)
theorem oP{w h:Nat}{c:C}:dR w h c=true ↔ 0<=c.1/\c.1<w/\0<=c.2/\c.2<h:=by
 unfold dR;simp only [QF,decide_eq_true_eq];constructor
 ·intro q;exact⟨q.1.1.1,q.1.1.2,q.1.2,q.2⟩
 ·intro q;exact⟨⟨⟨q.1,q.2.1⟩,q.2.2.1⟩,q.2.2.2⟩
theorem fP{w h:Nat}{c:C}:c∈cells w h ↔ dR w h c=true:=by
 unfold cells;rw [List.mem_flatMap,oP];constructor
 ·rintro⟨x,g,i⟩
  obtain⟨y,f,rfl⟩:=QO.mp i
  exact⟨Y4 _,Jj.mpr (QP.mp g),Y4 _,Jj.mpr (QP.mp f)⟩
 ·rintro⟨b,e,a,d⟩
  exact⟨c.1.toNat,QP.mpr ((U0 b).mpr e),QO.mpr ⟨c.2.toNat,QP.mpr ((U0 a).mpr d),Jf (JK b) (JK a)⟩⟩
theorem zTn(h:Nat)(x:Nat):Up ((JZ h).map fun(y:Nat)=>((x:Int),(y:Int))):=by
 unfold Up;rw [Yb];refine List.pairwise_lt_range.imp fun{a b} q=>?_;rw [pW];dsimp only;lia
theorem kG(w h:Nat):Up (cells w h):=by
 unfold Up cells;rw [List.pairwise_flatMap]
 refine⟨fun x _=>zTn h x,List.pairwise_lt_range.imp fun{a b} q c hc d hd=>?_⟩
 obtain⟨y,_,rfl⟩:=QO.mp hc;obtain⟨z,_,rfl⟩:=QO.mp hd;rw [pW];dsimp only;lia
theorem l5{l:List C}(h:Up l)(p:C->Bool):Up (l.filter p):=List.Pairwise.filter p h
theorem KS(h:Nat):∀ l:List Nat,(l.map fun _=>h).sum=l.length * h
 | []=>by simp
 | _::l=>by rw [Qk,List.sum_cons,KS h l,Qo,Nat.succ_mul,Nat.add_comm]
theorem j9(w h:Nat):(cells w h).length=w * h:=by
 unfold cells;rw [List.length_flatMap];simp only [Qd,QM];rw [KS,QM]
end My
namespace My
open PySem.SeqAt L2 DL SD SL EL DC
def yH(b a:Int):Nat->Int->Int->Option (List C)
 | 0,_,_=>none
 | n+1,gx,gy=>if gx<b ∨ gy<a then
   (yH b a n (if(2 * gx+1) * a<=(2 * gy+1) * b then gx+1 else gx) (if(2 * gy+1) * b<=(2 * gx+1) * a then gy+1 else gy)).bind fun r=>
    some ((if(2 * gx+1) * a<=(2 * gy+1) * b then gx+1 else gx,if(2 * gy+1) * b<=(2 * gx+1) * a then gy+1 else gy)::r)
  else some []
def dX(i:Int):Int:=if i<0 then -i else i
def dZ(a:Int):Int:=if 0<a then 1 else -1
def zO(a b:Int):Option (List C):=(yH (dX a) (dX b) 900 0 0).bind fun c=>some ((0,0)::c.map fun g=>(dZ a * g.1,dZ b * g.2))
def eN(a b:Int):List C:=(zO a b).getD []
def sub(d:C)(g:C):C:=(g.1-d.1,g.2-d.2)
def rQ(d:C)(g:C):C:=(d.1+g.1,d.2+g.2)
def lR:List C->List C->Bool
 | [],[]=>true
 | a::l,b::m=>a.1 == b.1 && a.2 == b.2 && lR l m
 | _,_=>false
theorem rC:∀{l m:List C},lR l m=true->l=m
 | [],[],_=>rfl
 | a::l,b::m,h=>by
  unfold lR at h;simp only [QF,beq_iff_eq]at h;rw [rC h.2,Jf h.1.1 h.1.2]
 | [],_::_,h=>by cases h
 | _::_,[],h=>by cases h
def Dp(a b:Int):Bool:=match zO a b with
 | some ((0,0)::st)=>decide (st.length<=8) && lR (eN (-a) (-b)) ((((0,0)::st).reverse).map (sub (a,b))) && lR (eN (-a) b) (((0,0)::st).map fun g=>(-g.1,g.2)) && lR (eN b a) (((0,0)::st).map fun g=>(g.2,g.1))
   && lR ((((0,0)::st).dropLast++[(a,b)])) ((0,0)::st) && ((0,0)::st).all (fun g=>decide (0<=dZ a * g.1) && decide (dZ a * g.1<=dX a) && decide (0<=dZ b * g.2) && decide (dZ b * g.2<=dX b))
 | _=>false
def vE:List Int:=[-4,-3,-2,-1,0,1,2,3,4]
theorem R4:(vE.all fun a=>vE.all fun b=>Dp a b)=true:=by decide +kernel
theorem GY{a:Int}(h:-4<=a)(h':a<=4):a∈vE:=by
 have k:∀ n:Fin 9,((n.val:Int)-4)∈vE:=by decide
 have e:(((a+4).toNat:Nat):Int)-4=a:=by lia
 have:=k ⟨(a+4).toNat,by lia⟩
 rw [e]at this;exact this
structure EQ(a b:Int):Prop where
 some:zO a b=some (eN a b)
 len:(eN a b).length<=9
 first:∃ st,eN a b=(0,0)::st
 back:eN (-a) (-b)=(eN a b).reverse.map (sub (a,b))
 mir:eN (-a) b=(eN a b).map fun g=>(-g.1,g.2)
 flip:eN b a=(eN a b).map fun g=>(g.2,g.1)
 last:(eN a b).dropLast++[(a,b)]=eN a b
 box:∀ g∈eN a b,0<=dZ a * g.1/\dZ a * g.1<=dX a/\0<=dZ b * g.2/\dZ b * g.2<=dX b
theorem V2{a b:Int}(j:-4<=a)(f:a<=4)(i:-4<=b)(d:b<=4):EQ a b:=by
 have c:=QT.mp (QT.mp R4 a (GY j f)) b (GY i d);unfold Dp at c
 split at c
 ·rename_i st e
  have r:eN a b=(0,0)::st:=by unfold eN;rw [e];rfl
  simp only [QF,decide_eq_true_eq]at c;obtain⟨⟨⟨⟨⟨p,o⟩,n⟩,m⟩,l⟩,k⟩:=c
  refine⟨by rw [e,r],by rw [r,Qo];lia,⟨st,r⟩,by rw [r];exact rC o,by rw [r];exact rC n,by rw [r];exact rC m,by rw [r];exact rC l,fun g h=>?_⟩
  rw [r]at h
  have:=QT.mp k g h
  simp only [QF,decide_eq_true_eq]at this
  exact⟨this.1.1.1,this.1.1.2,this.1.2,this.2⟩
 ·cases c
def gI(g h:C):Bool := !(g.1 == h.1) && !(g.2 == h.2)
def nV(S:C->Bool):List C->Bool
 | g::h::r=>(!gI g h || !(S (g.1,h.2) && S (h.1,g.2))) && nV S (h::r)
 | _=>true
theorem WC(S:C->Bool)(g h:C)(r:List C):nV S (g::h::r)=((!gI g h || !(S (g.1,h.2) && S (h.1,g.2))) && nV S (h::r)):=rfl
def line(a b:C):List C:=(eN (b.1-a.1) (b.2-a.2)).map (rQ a)
def clear(S:C->Bool)(a b:C):Bool:=(line a b).dropLast.all (fun c => !S c) && nV S (line a b)
def fT(S:C->Bool)(a b:C):Bool := !S b && clear S a b
structure rK(a b:C):Prop where
 x0:-4<=b.1-a.1
 x1:b.1-a.1<=4
 y0:-4<=b.2-a.2
 y1:b.2-a.2<=4
theorem rK.ok{a b:C}(n:rK a b):EQ (b.1-a.1) (b.2-a.2):=V2 n.x0 n.x1 n.y0 n.y1
def yC:List C:=[(0,0),(1,0),(-1,0),(0,1),(0,-1)]
theorem VE:(yC.all fun d=>(eN d.1 d.2).dropLast.all (fun g=>g.1 == 0 && g.2 == 0) && lR (eN d.1 d.2) (if d.1 == 0 && d.2 == 0 then [(0,0)]else [(0,0),d]))=true:=by decide +kernel
theorem R5{S:C->Bool}{a b:C}(h:dX (b.1-a.1)+dX (b.2-a.2)<2)(hs:S a=false):clear S a b=true:=by
 have i:((b.1-a.1,b.2-a.2):C)∈yC:=by
  unfold dX at h
  have:(b.1-a.1=0/\b.2-a.2=0) ∨ (b.1-a.1=1/\b.2-a.2=0) ∨ (b.1-a.1=-1/\b.2-a.2=0) ∨ (b.1-a.1=0/\b.2-a.2=1) ∨ (b.1-a.1=0/\b.2-a.2=-1):=by
   split at h <;> split at h <;> lia
  unfold yC
  rcases this with⟨p,q⟩ | ⟨p,q⟩ | ⟨p,q⟩ | ⟨p,q⟩ | ⟨p,q⟩ <;> rw [p,q] <;> decide
 have c:=QT.mp VE _ i;rw [QF]at c;have e:=rC c.2;have j:=c.1;have d:rQ a (0,0)=a:=Jf (by show a.1+0=a.1;lia) (by show a.2+0=a.2;lia);unfold clear line;dsimp only at e;by_cases z:((b.1-a.1 == 0) && (b.2-a.2 == 0))=true
 ·rw [if_pos z]at e;rw [e]
  simp [nV]
 ·rw [if_neg z]at e;rw [e]
  have g:gI (rQ a (0,0)) (rQ a (b.1-a.1,b.2-a.2))=false:=by
   rw [d];unfold gI rQ;dsimp only;have f:=i;unfold yC at f;simp only [Ql,JH,or_false,Prod.mk.injEq]at f
   rcases f with⟨p,q⟩ | ⟨p,q⟩ | ⟨p,q⟩ | ⟨p,q⟩ | ⟨p,q⟩ <;> rw [p,q] <;> simp
  rw [d]at g;simp only [Qk,List.map_nil,List.dropLast,nV,d]
  simp [hs,g]
end My
namespace My
open PySem.SeqAt L2 DL SD SL EL DC
def c6(ns:List Int):D:=.list (ns.map J0)
theorem x4:∀ ns:List Int,Zl (ns.map J0)=true/\Zk (ns.map J0)=0
 | []=>⟨rfl,rfl⟩
 | _::r=>⟨by simp [Zl,Z3,(x4 r).1],by simp [Zk,UA,(x4 r).2]⟩
theorem Xw(ns:List Int):Zw (c6 ns)=true:=by
 simp [Zw,c6,Z3,UA,(x4 ns).1,(x4 ns).2]
theorem Ps{ns:List Int}{i:Int}(b:0<=i)(a:i<ns.length):∃ r,aO (c6 ns) (.int i)=some (.int r):=by
 show ∃ r,L2.atI (ns.map J0) i=some (.int r)
 unfold L2.atI L2.ixN;rw [Qd,if_pos b,if_pos a]
 have:i.toNat<ns.length:=by lia
 exact⟨ns[i.toNat],by simp [this]⟩
theorem R0(ns:List Int)(l:ns.length<=63)(k:Int):∃ r,sN [c6 ns,.int k]=some (.int r):=by
 cases ns with
 | nil=>
  have e:iO (c6 []) (.list [])=some (.bool true):=rfl;have m:cY (.int 7) (.int k)=some (.int (7 * k)):=kD (lS (by decide) (by decide))
  exact⟨7 * k,eE (BU (nZ (b:=true) rfl (fun _=>dV (oo rfl rfl m)) fun z=>by cases z))⟩
 | cons n ns=>
  have c:(0:Int)<((n::ns).length:Int):=by rw [Qo];lia
  have e:iO (c6 (n::ns)) (.list [])=some (.bool false):=by
   unfold iO;rw [Xw];rfl
  have d:eK [c6 (n::ns)]=some (.int ((n::ns).length:Int)):=by
   show some (J0 (((n::ns).map J0).length:Int))=_
   rw [Qd]
  obtain⟨r,j⟩:=Ps (ns:=n::ns) (i:=k % ((n::ns).length:Int)) (UY _ (by lia)) (Jr _ c)
  have a:((n::ns).length:Int)<1073741824:=by lia
  generalize ((n::ns).length:Int)=L at *;generalize c6 (n::ns)=S at *;have h:=oV (i:=k) c;have g:=AL (i:=k) (zH c a);have f:cY (.int 6553) (.int (k / L))=some (.int (6553 * (k / L))):=kD (lS (by decide) (by decide))
  exact⟨r+6553 * (k / L),eE (bR (gN (oB (oo rfl rfl e))) (dV (oo (oo rfl (oo rfl (bG rfl d) h) j) (oo rfl (oo rfl (bG rfl d) g) f) rfl)))⟩
def dr(ns:List Int)(k m:Int):Int:=match e8 [c6 ns,.int k,.int m]with
 | some (.int r)=>r
 | _=>0
theorem rA(ns:List Int)(q:ns.length<=63)(k m:Int)(d:0<m):e8 [c6 ns,.int k,.int m]=some (.int (dr ns k m))/\0<=dr ns k m/\dr ns k m<m:=by
 have key:∃ r,e8 [c6 ns,.int k,.int m]=some (.int r)/\0<=r/\r<m:=by
  obtain⟨c,s⟩:=R0 ns q k;obtain⟨u,b⟩:∃ u,u=((c % 2147483563) * 69069+104723 * (k+1)) % 2147483563:=⟨_,rfl⟩
  have p:0<=u:=by rw [b];exact UY _ (by decide)
  have o:u<2147483563:=by rw [b];exact Jr _ (by decide)
  obtain⟨v,a⟩:∃ v,v=(u * u+u / 3) % 2147483399:=⟨_,rfl⟩
  have n:0<=v:=by rw [a];exact UY _ (by decide)
  have l:v<2147483399:=by rw [a];exact Jr _ (by decide)
  have B:hJ (.int ((c % 2147483563) * 69069+104723 * (k+1))) (.int 2147483563)=some (.int u):=by rw [b];exact oV (by decide)
  have E:hJ (.int c) (.int 2147483563)=some (.int (c % 2147483563)):=oV (by decide);have A:cY (.int (c % 2147483563)) (.int 69069)=some (.int (c % 2147483563 * 69069)):=kD (DJ (by decide) (by decide));have z:cY (.int 104723) (.int (k+1))=some (.int (104723 * (k+1))):=kD (lS (by decide) (by decide));have y:cY (.int u) (.int u)=some (.int (u * u)):=kD (lS (Int.lt_of_lt_of_le (by decide) p) (Int.lt_trans o (by decide)));have f:∀ i j:Int,0<j->j<1073741824->k4 (.int i) (.int j)=some (.int (i / j)):=fun i j h e=>AL (zH h e)
  have x:hJ (.int (u * u+u / 3)) (.int 2147483399)=some (.int v):=by rw [a];exact oV (by decide)
  have w:cY (.int v) (.int v)=some (.int (v * v)):=kD (lS (Int.lt_of_lt_of_le (by decide) n) (Int.lt_trans l (by decide)))
  refine⟨(v * v+v / 7) % 2147483647 / 11 % m,?_,UY _ (Int.ne_of_gt d),Jr _ d⟩
  exact eE (bR (fM (oo (oo (oo (oo (bG rfl s) rfl E) rfl A) (oo rfl rfl z) rfl) rfl B)) (bR (fM (oo (oo (oo rfl rfl y) (oo rfl rfl (f _ _ (by decide) (by decide))) rfl) rfl x)) (dV (oo (oo (oo (oo (oo rfl rfl w) (oo rfl rfl (f _ _ (by decide) (by decide))) rfl) rfl (oV (by decide))) rfl (f _ _ (by decide) (by decide))) rfl (oV d)))))
 obtain⟨r,g,e,t⟩:=key
 have:dr ns k m=r:=by unfold dr;rw [g]
 rw [this]
 exact⟨g,e,t⟩
def lG(w h:Nat)(W:C->Bool):D:=.tuple (((cells w h).filter W).map aB)
def aZ(w h:Nat)(W:C->Bool):D:=.tuple [.int w,.int h,lG w h W]
theorem Du(w h:Nat)(W:C->Bool):aO (aZ w h W) (.int 0)=some (.int w):=id rfl
theorem Dv(w h:Nat)(W:C->Bool):aO (aZ w h W) (.int 1)=some (.int h):=id rfl
theorem zB(w h:Nat)(W:C->Bool):aO (aZ w h W) (.int 2)=some (lG w h W):=id rfl
theorem Tk(w h:Nat)(p:Nat->Nat->Bool):((JZ w).flatMap fun(x:Nat)=>((JZ h).filter (p x)).map fun(y:Nat)=>((x:Int),(y:Int)))=(cells w h).filter fun c=>p c.1.toNat c.2.toNat:=by
 unfold cells;rw [List.filter_flatMap];congr 1
 funext x
 rw [List.filter_map];rfl
theorem Fl{i:Nat}{ga:aA->Option D}{ρ:aA}{ds es:List D}(c:ρ[i]?=some (.own ds))(b:ga ρ=some (.list es))(a:ds.length+es.length<=1000):pH i ga ρ=some (.nx (ρ.set i (.own (ds++es)))):=by
 unfold pH;rw [c]
 show(ga ρ).bind _=_
 rw [b]
 show(if ds.length+es.length<=1000 then _ else _)=_
 rw [if_pos a]
theorem AR{b:Type}(f:Nat->List b):∀(l:List Nat) (acc:List b),l.foldl (fun a x=>a++f x) acc=acc++l.flatMap f
 | [],acc=>by simp
 | x::l,acc=>by rw [Ym,AR f l,List.flatMap_cons,Qw]
theorem AS{c:Type}(f:Nat->List c)(g:Nat->Sl):∀(l:List Nat) (acc:List c) (s:Sl),l.foldl (fun(b:List c × Sl) x=>(b.1++f x,g x)) (acc,s)=(l.foldl (fun a x=>a++f x) acc,l.foldl (fun _ x=>g x) s)
 | [],acc,s=>rfl
 | x::l,acc,s=>by rw [Ym,Ym,Ym];exact AS f g l _ _
def BP(q:Int):Int:=if q=0 then 2 else if q=1 then 3 else if q=2 then 3 else if q=3 then 5 else 9
theorem zSd(q:Int)(b:0<=q)(a:q<5):aO (.list [.int 2,.int 3,.int 3,.int 5,.int 9]) (.int q)=some (.int (BP q))/\0<BP q:=by
 obtain⟨n,rfl⟩:=Int.eq_ofNat_of_zero_le b;rcases n with _ | _ | _ | _ | _ | n
 ·exact⟨rfl,by decide⟩
 ·exact⟨rfl,by decide⟩
 ·exact⟨rfl,by decide⟩
 ·exact⟨rfl,by decide⟩
 ·exact⟨rfl,by decide⟩
 ·exact absurd a (by lia)
theorem Tp(ns:List Int)(o:ns.length<=63)(a:Int)(m:Nat)(O:0<m)(l:m<=5):∃(w h:Nat) (W:C->Bool),qS [c6 ns,.int a,.int m]=some (aZ w h W)/\1<=w/\w<=m/\1<=h/\h<=m:=by
 have z:(0:Int)<m:=Jj.mpr O;obtain⟨e1,F,E⟩:=rA ns o a m z;obtain⟨e2,X,U⟩:=rA ns o (a+1) m z;obtain⟨e3,I,H⟩:=rA ns o (a+2) 5 (by decide);obtain⟨e4,G⟩:=zSd _ I H;generalize dr ns a m=dw at *;generalize dr ns (a+1) m=dh at *;generalize BP (dr ns (a+2) 5)=g at *;have one:∀{x:Int},0<=x->x<m->∃ w:Nat,1+x=w/\1<=w/\w<=m:=fun{x} g1 g2=>⟨(1+x).toNat,by lia,by lia,by lia⟩;obtain⟨w,K,B,u⟩:=one F E;obtain⟨h,Q,T,A⟩:=one X U;clear one;have r:w<=5:=Qr u l;have q:h<=5:=Qr A l
 refine⟨w,h,fun c=>dr ns (a+3+8 * (c.1.toNat:Int)+(c.2.toNat:Int)) g == 0,?_,B,u,T,A⟩
 refine eE ?_;unfold AW;rw [show cE 8 [c6 ns,.int a,.int m]=[.dat (c6 ns),.dat (.int a),.dat (.int m),.no,.no,.no,.no,.no]from rfl];refine bR (fM (d:=.int (w:Int)) (oo rfl (bG rfl e1) (by rw [<- K];rfl))) (bR (fM (d:=.int (h:Int)) (oo rfl (bG rfl e2) (by rw [<- Q];rfl))) (bR (fM (oo rfl (bG rfl e3) e4)) (bR (ρ':=[.dat (c6 ns),.dat (.int a),.dat (.int m),.dat (.int w),.dat (.int h),.dat (.int g),.own [],.no]) rfl ?_)));obtain⟨f,p⟩:∃ f:Nat->List C,f=fun(x:Nat)=>((JZ h).filter fun(y:Nat)=>dr ns (a+3+8 * (x:Int)+(y:Int)) g == 0).map fun(y:Nat)=>((x:Int),(y:Int)):=⟨_,rfl⟩
 have Y:∀ x,(f x).length<=5:=fun x=>by
  rw [p,Qd];refine Qr (Q7 _ _) ?_;rw [QM];exact q
 refine bR (Ij (n:=w) rfl (Yl r (by decide)) (rE (fun(k:Nat)=>.int (k:Int)) (fun(b:List C × Sl)=>[.dat (c6 ns),.dat (.int a),.dat (.int m),.dat (.int w),.dat (.int h),.dat (.int g),.own (b.1.map aB),b.2])
  (fun b x=>(b.1++f x,.dat (.int (x:Int)))) (fun i b=>b.1.length<=5 * i) 5 (JZ w) 0 ([],.no) (by rw [QM,Nat.zero_add];exact r) (Qj _) fun x hx i b hi N=>?_)) ?_
 ·obtain⟨j,s7⟩:=b;have M:j.length<=5 * i:=N;have S:=Y x
  refine⟨⟨[.dat (c6 ns),.dat (.int a),.dat (.int m),.dat (.int w),.dat (.int h),.dat (.int g),.own (j.map aB),.dat (.int (x:Int))],rfl,?_⟩,by show(j++f x).length<=5 * (i+1);rw [Qm];lia⟩
  refine(Fl (ds:=j.map aB) (es:=(f x).map aB) rfl ?_ (by rw [Qd,Qd];lia)).trans ?_
  ·have:=Hw (gi:=iT (aC (eV 4) aG)) (s:=bX 0) (t:=eB (aF iO (aR e8 (aC (eV 2) (aC (aF bM (aF bM (aF bM (eV 4) (eC (.int 3))) (aF cY (eC (.int 8)) (eV 1))) (eV 0)) (aC (eV 3) aG)))) (eC (.int 0))))
    (ge:=cH (aC (eV 1) (aC (eV 0) aG))) (inner:=[none,some 7,some 0,some 5,some 1]) (xs:=JZ h) (ρ:=[.dat (c6 ns),.dat (.int a),.dat (.int m),.dat (.int w),.dat (.int h),.dat (.int g),.own (j.map aB),.dat (.int (x:Int))])
    (fun(k:Nat)=>.int (k:Int)) (fun(y:Nat)=>dr ns (a+3+8 * (x:Int)+(y:Int)) g == 0) (fun(y:Nat)=>aB ((x:Int),(y:Int)))
    (fun ρ=>∃ v,ρ=[v,.dat (.int (x:Int)),.dat (c6 ns),.dat (.int g),.dat (.int a)]) (x3 (n:=h) rfl (Yl q (by decide))) (by rw [QM];exact Qr q (by decide)) ⟨.no,rfl⟩ (by
     rintro y hy ρ ⟨v,rfl⟩;have e:=(rA ns o (a+3+8 * (x:Int)+(y:Int)) g G).1;have J:cY (.int 8) (.int (x:Int))=some (.int (8 * (x:Int))):=kD (lS (by decide) (by decide))
     exact⟨[.dat (.int (y:Int)),.dat (.int (x:Int)),.dat (c6 ns),.dat (.int g),.dat (.int a)],rfl,⟨_,rfl⟩,oB (oo (bG (dO rfl (dO (oo (oo rfl (oo rfl rfl J) rfl) rfl rfl) rfl)) e) rfl rfl),fun _=>rfl⟩)
   refine this.trans ?_;rw [p,Q3];rfl
  ·show some (aQ.nx _)=some (aQ.nx _)
   rw [QX];rfl
 ·refine dV ?_;rw [AS,AR]
  have Z:(JZ w).flatMap f=(cells w h).filter fun c=>dr ns (a+3+8 * (c.1.toNat:Int)+(c.2.toNat:Int)) g == 0:=by
   rw [p];exact Tk w h fun x y=>dr ns (a+3+8 * (x:Int)+(y:Int)) g == 0
  rw [YD,Z];rfl
end My
namespace My
open PySem.SeqAt L2 DL SD SL EL DC
theorem B9:∀ l:List C,Zl (l.map aB)=true/\Zk (l.map aB)<=1
 | []=>⟨rfl,QR _⟩
 | c::l=>by
  obtain⟨b,a⟩:=B9 l
  refine⟨by rw [Qk,Zl,b];rfl,?_⟩
  rw [Qk,Zk];exact Nat.max_le.mpr ⟨Qj _,a⟩
theorem tF(l:List C):Zw (.list (l.map aB))=true:=by
 obtain⟨a,b⟩:=B9 l
 have:UA (.list (l.map aB))<=64:=by show Zk (l.map aB)+1<=64;lia
 simp [Zw,Z3,a,this]
theorem zSz(l:List C):Zw (.tuple (l.map aB))=true:=by
 obtain⟨a,b⟩:=B9 l
 have:UA (.tuple (l.map aB))<=64:=by show Zk (l.map aB)+1<=64;lia
 simp [Zw,Z3,a,this]
theorem xG(c:C):Zw (aB c)=true:=id rfl
theorem AH(a b:C):ZR (aB a) (aB b)=(a == b):=by
 show((a.1 == b.1) && ((a.2 == b.2) && true))=_
 rw [Bool.and_true];obtain⟨x,y⟩:=a;obtain⟨u,v⟩:=b;rfl
theorem AI:∀ l m:List C,Z1 (l.map aB) (m.map aB)=decide (l=m)
 | [],[]=>rfl
 | [],_::_=>rfl
 | _::_,[]=>rfl
 | a::l,b::m=>by
  show(ZR (aB a) (aB b) && Z1 (l.map aB) (m.map aB))=_
  rw [AI l m,AH]
  by_cases d:a=b <;> by_cases c:l=m <;> simp [d,c]
theorem Mr(l m:List C):iO (.list (l.map aB)) (.list (m.map aB))=some (.bool (decide (l=m))):=by
 unfold iO;rw [tF,tF]
 show some (J6 (Z1 (l.map aB) (m.map aB)))=_
 rw [AI]
theorem uK(l m:List C):cA (.list (l.map aB)) (.list (m.map aB))=some (.bool (!decide (l=m))):=by
 unfold cA;rw [tF,tF]
 show some (J6 (!PyData.eqvAll (l.map aB) (m.map aB)))=_
 rw [AI]
theorem Ew(l:List C)(c:C):((l.map aB).any fun y=>ZR y (aB c))=l.contains c:=by
 induction l with
 | nil=>rfl
 | cons a l b=>rw [Qk,Jy,b,AH,Ju,Bool.beq_comm]
theorem MH(a:Bool)(c:C)(l:List C):dG a (aB c) (.tuple (l.map aB))=some (.bool (if a then !l.contains c else l.contains c)):=by
 show(if(Zw (aB c) && Zw (.tuple (l.map aB)))=true then _ else _)=_
 rw [xG,zSz,JL,if_pos rfl,Ew]
theorem Dx(a:Bool)(c:C)(l:List C):dG a (aB c) (.list (l.map aB))=some (.bool (if a then !l.contains c else l.contains c)):=by
 show(if(Zw (aB c) && Zw (.list (l.map aB)))=true then _ else _)=_
 rw [xG,tF,JL,if_pos rfl,Ew]
def bB(w h:Nat)(W:C->Bool)(c:C):Bool:=dR w h c && W c
theorem Ay(w h:Nat)(W:C->Bool)(c:C):((cells w h).filter W).contains c=bB w h W c:=by
 rw [YE,QC,Q8,fP];unfold bB;rw [QF]
theorem u9(a:Bool)(c:C)(w h:Nat)(W:C->Bool):dG a (aB c) (lG w h W)=some (.bool (if a then !bB w h W c else bB w h W c)):=by
 unfold lG;rw [MH,Ay]
theorem Kq(i:Int):qV [.int i]=some (.bool true):=eE (dV rfl)
theorem Sf(c:C):sR [aB c]=some (.bool true):=eE (bR (gN rfl) (dV (M9 (bG rfl (Kq c.1)) (bG rfl (Kq c.2)))))
theorem Bd(w h:Nat)(W:C->Bool)(c:C):mF [aZ w h W,aB c]=some (.bool (dR w h c)):=by
 refine eE (bR (gN (oN (oB (bG rfl (Sf c))))) (dV ?_))
 show((if decide (0<=c.1)=true then some (J6 (decide (c.1<w)))else some (.bool false)).bind fun x=>(eJ x).bind fun k=>if k=true then(if decide (0<=c.2)=true then some (J6 (decide (c.2<h)))else some (.bool false))else some (.bool false))=_
 unfold dR
 cases decide (0<=c.1) <;> cases decide (c.1<w) <;> cases decide (0<=c.2) <;> cases decide (c.2<h) <;> rfl
theorem zSe{w h:Nat}{W:C->Bool}{c:C}(a:dR w h c=true):tP [aZ w h W,aB c]=some .none:=by
 have q:=Bd w h W c;rw [a]at q;exact Fu (gN (oN (oB (bG rfl q))))
theorem xK{w h:Nat}{W:C->Bool}{c:C}(a:dR w h c=true):i1 [aZ w h W,aB c]=some (.bool (W c)):=by
 have q:=u9 false c w h W;unfold bB at q;rw [a,Yz]at q;exact eE (bR (Ig (bG rfl (zSe a))) (dV (oo rfl rfl q)))
theorem Iw{w h:Nat}{W:C->Bool}{c:C}(b:dR w h c=true)(a:W c=false):n9 [aZ w h W,aB c]=some .none:=by
 have q:=xK (W:=W) b;rw [a]at q;exact Fu (gN (oB (bG rfl q)))
end My
namespace My
open PySem.SeqAt L2 DL SD SL EL DC
theorem zSb(w h:Nat)(g:0<h):((JZ (w * h)).map fun(i:Nat)=>(((i / h:Nat):Int),((i % h:Nat):Int)))=cells w h:=by
 refine By ?_ (kG w h) fun c=>?_
 ·unfold Up;rw [Yb];refine List.pairwise_lt_range.imp fun{a b} q=>?_;rw [pW];dsimp only;have j:a / h<=b / h:=Nat.div_le_div_right (Yr q);rcases Nat.lt_or_eq_of_le j with e | e
  ·exact .inl (Jj.mpr e)
  ·right
   have r:=Nat.div_add_mod a h;have s:=Nat.div_add_mod b h;rw [e]at r
   exact⟨by rw [e],Jj.mpr (by lia)⟩
 ·rw [fP,oP,QO];constructor
  ·rintro⟨i,p,rfl⟩
   have:=QP.mp p
   have j:i / h<w:=(Nat.div_lt_iff_lt_mul g).mpr this;have e:i % h<h:=Nat.mod_lt _ g
   exact⟨Y4 _,Jj.mpr j,Y4 _,Jj.mpr e⟩
  ·rintro⟨l,o,f,k⟩
   refine⟨c.1.toNat * h+c.2.toNat,QP.mpr ?_,?_⟩
   ·have this:c.1.toNat+1<=w:=(U0 l).mpr o;have n:=Nat.mul_le_mul_right h this;rw [Nat.succ_mul]at n;exact QJ (Nat.add_lt_add_left ((U0 f).mpr k) _) n
   ·have e:c.2.toNat<h:=(U0 f).mpr k
    have d:(c.1.toNat * h+c.2.toNat) / h=c.1.toNat:=by
     rw [Nat.mul_comm,Nat.mul_add_div g,Nat.div_eq_of_lt e,Nat.add_zero]
    have m:(c.1.toNat * h+c.2.toNat) % h=c.2.toNat:=by
     rw [Nat.mul_comm,Nat.mul_add_mod,Nat.mod_eq_of_lt e]
    rw [d,m];exact Jf (JK l) (JK f)
theorem Hv{w h:Nat}{W:C->Bool}(g:w<=5)(c:0<h)(b:h<=5):n6 [aZ w h W]=some (.list ((cells w h).map aB)):=by
 have a:w * h<=25:=YA g b
 have m:cY (.int w) (.int h)=some (.int ((w * h:Nat):Int)):=by rw [kD (lS (Int.lt_of_lt_of_le (by decide) (Y4 _)) (Int.lt_of_le_of_lt (Int.ofNat_le.mpr g) (by decide)))];rfl
 refine eE (dV (mQ (xs:=JZ (w * h)) (fun(k:Nat)=>.int (k:Int)) (fun _=>true) (fun(i:Nat)=>aB (((i / h:Nat):Int),((i % h:Nat):Int))) (fun e=>∃ f,e=[f,.dat (aZ w h W)]) (x3 (n:=w * h) ?_ (Yl a (by decide))) (by rw [QM];exact Qr a (by decide)) ⟨_,rfl⟩ ?_ ?_))
 ·exact dO (oo rfl rfl m) rfl
 ·rintro i _ e ⟨f,rfl⟩
  have d:k4 (.int (i:Int)) (.int h)=some (.int ((i / h:Nat):Int)):=by rw [AL (zH (Jj.mpr c) (Int.lt_of_le_of_lt (Int.ofNat_le.mpr b) (by decide)))];rfl
  have q:hJ (.int (i:Int)) (.int h)=some (.int ((i % h:Nat):Int)):=by rw [oV (Jj.mpr c)];rfl
  exact⟨[.dat (.int (i:Int)),.dat (aZ w h W)],rfl,⟨_,rfl⟩,rfl,fun _=>vC (oo rfl rfl d) (oo rfl rfl q)⟩
 ·rw [xV,<- zSb w h c,Q3];rfl
theorem Ev{w h:Nat}{W:C->Bool}(m:w<=5)(c:h<=5):n7 [aZ w h W]=some (.list ((cells w h).map aB)):=by
 obtain⟨f,g⟩:∃ f:Nat->List C,f=fun(x:Nat)=>(JZ h).map fun(y:Nat)=>((x:Int),(y:Int)):=⟨_,rfl⟩;refine eE ?_;unfold AX;rw [show cE 3 [aZ w h W]=[.dat (aZ w h W),.no,.no]from rfl];refine bR (ρ':=[.dat (aZ w h W),.own [],.no]) rfl ?_
 refine bR (Ij (n:=w) rfl (Yl m (by decide)) (rE (fun(k:Nat)=>.int (k:Int)) (fun(b:List C × Sl)=>[.dat (aZ w h W),.own (b.1.map aB),b.2])
  (fun b x=>(b.1++f x,.dat (.int (x:Int)))) (fun i b=>b.1.length<=5 * i) 5 (JZ w) 0 ([],.no) (by rw [QM,Nat.zero_add];exact m) (Qj _) fun x r i b s o=>?_)) ?_
 ·obtain⟨a,p⟩:=b;have d:a.length<=5 * i:=o
  have e:(f x).length<=5:=by rw [g,Qd,QM];exact c
  refine⟨⟨[.dat (aZ w h W),.own (a.map aB),.dat (.int (x:Int))],rfl,?_⟩,by show(a++f x).length<=5 * (i+1);rw [Qm];exact Nat.add_le_add d e⟩
  refine(Fl (ds:=a.map aB) (es:=(f x).map aB) rfl (mQ (xs:=JZ h) (fun(k:Nat)=>.int (k:Int)) (fun _=>true) (fun(y:Nat)=>aB ((x:Int),(y:Int))) (fun j=>∃ l,j=[l,.dat (.int (x:Int))]) (x3 (n:=h) rfl (Yl c (by decide))) (by rw [QM];exact Qr c (by decide)) ⟨.no,rfl⟩ ?_ ?_) (by rw [Qd,Qd];lia)).trans ?_
  ·rintro y q j ⟨l,rfl⟩
   exact⟨[.dat (.int (y:Int)),.dat (.int (x:Int))],rfl,⟨_,rfl⟩,rfl,fun _=>rfl⟩
  ·rw [xV,g,Q3];rfl
  ·show some (aQ.nx _)=some (aQ.nx _)
   rw [QX];rfl
 ·refine dV ?_;rw [AS,AR,YD,g];rfl
theorem wZ:∀ l:List C,qF (l.map aB)=some (l.map row)
 | []=>rfl
 | c::l=>by
  show(dJ [.int c.1,.int c.2]).bind (fun b=>(qF (l.map aB)).bind fun a=>some (b::a))=_
  rw [wZ l];rfl
theorem nW{a b:C}(q:row a=row b):a=b:=by
 unfold row at q
 injection q with q1 q2
 injection q2 with q2 _
 exact Jf q1 q2
theorem uL{l:List C}(h:l.Nodup):(l.map row).Nodup:=by
 rw [UL,Yb];exact h.imp fun{a b} q r=>q (nW r)
theorem Fg(l:List C)(c:C):(l.map row).contains (row c)=l.contains c:=by
 rw [YE,QC,QC,QO];constructor
 ·rintro⟨d,a,e⟩;rw [<- nW e];exact a
 ·intro h;exact⟨c,h,rfl⟩
theorem Iv{w h:Nat}{W:C->Bool}(d:w<=5)(a:h<=5):j8 [aZ w h W]=some (.list (((cells w h).filter fun c => !W c).map aB)):=by
 have g:(cells w h).length<=25:=by rw [j9];exact YA d a
 have m:=Q7 W (cells w h);have l:=Q7 (fun c => !W c) (cells w h)
 have f:sI [.list ((cells w h).map aB)]=some ((cells w h).map row):=by
  show(if _ then _ else _)=_
  rw [if_pos (by rw [Qd];lia),wZ,Qc,if_pos (by rw [vX _ (uL (l6 (kG w h))),Qd];lia)]
 have e:sI [lG w h W]=some (((cells w h).filter W).map row):=by
  show(if _ then _ else _)=_
  rw [if_pos (by rw [Qd];lia),wZ,Qc,if_pos (by rw [vX _ (uL (l6 (l5 (kG w h) W))),Qd];lia)]
 have j:((cells w h).map row).filter (fun k => !(((cells w h).filter W).map row).contains k)=((cells w h).filter fun c => !W c).map row:=by
  rw [List.filter_map];congr 1;refine Jk fun c i=>?_
  show(!(((cells w h).filter W).map row).contains (row c))=_
  rw [Fg,Ay];unfold bB;rw [fP.mp i,Yz]
 have b:=l5 (kG w h) fun c => !W c;refine eE (dV ?_);unfold k7 AD jU;rw [dO (bG rfl (Ev (W:=W) d a)) rfl,Qc,f,Qc,show aC (aF aO (eV 0) (eC (.int 2))) aG (List.map frz (cE 1 [aZ w h W]))=some [lG w h W]from rfl,Qc,e,Qc];rw [if_pos (by rw [Qd];lia),Qc,j,vX _ (uL (l6 b)),w5];exact Br (l6 b) (by lia) b fun c=>Iff.rfl
def nM(l:List C):D:=.dict (l.map fun c=>(aB c,.bool true))
theorem mJ(c:C):cS (aB c)=some (row c):=id rfl
theorem Ff(l:List C)(c:C):fS (l.map fun c=>(aB c,J6 true)) (row c)=l.contains c:=by
 unfold fS;rw [List.any_map]
 induction l with
 | nil=>rfl
 | cons a l b=>
  rw [Jy,b,Ju];congr 1
  show(cS (aB a) == some (row c))=_
  rw [mJ,YE,beq_iff_eq,beq_iff_eq];constructor
  ·intro q;exact(nW (QA q)).symm
  ·intro q;rw [q]
theorem Tl(l:List C):eU (l.map fun c=>(aB c,J6 true))=true:=by
 unfold eU;rw [List.all_map,QT];intro c _;rfl
theorem AB(a:Bool)(c:C)(l:List C):fF a (aB c) (nM l)=some (.bool (if a then !l.contains c else l.contains c)):=by
 show(cS (aB c)).bind (fun k=>if eU (l.map fun c=>(aB c,J6 true))=true then some (J6 (if a then !fS (l.map fun c=>(aB c,J6 true)) k else fS (l.map fun c=>(aB c,J6 true)) k))else none)=_
 rw [mJ,Qc,Tl,if_pos rfl,Ff]
theorem ID:∀ l:List C,jO (l.map fun c=>ZG [aB c,.bool true])=some (l.map fun c=>(row c,.bool true))
 | []=>rfl
 | c::l=>by
  show(p8 (.tuple [aB c,.bool true])).bind (fun p=>(jO (l.map fun c=>ZG [aB c,.bool true])).bind fun a=>some (p::a))=_
  rw [ID l];rfl
theorem Wi(l:List C)(c:C)(h:c∉l):fJ (l.map fun c=>(aB c,J6 true)) (row c) (.bool true)=(l++[c]).map fun c=>(aB c,J6 true):=by
 unfold fJ;rw [Ff,if_neg (by rw [QC];exact h),QX];rfl
theorem Ga:∀(l acc:List C),(acc++l).Nodup->(l.map fun c=>(row c,J6 true)).foldl (fun kvs p=>fJ kvs p.1 p.2) (acc.map fun c=>(aB c,J6 true))=(acc++l).map fun c=>(aB c,J6 true)
 | [],acc,_=>by rw [QG];rfl
 | c::l,acc,h=>by
  have a:c∉acc:=by
   rw [YJ]at h;exact fun q=>h.2.2 c q c Qh rfl
  rw [Qk,Ym]
  show(l.map _).foldl _ (fJ _ (row c) (.bool true))=_
  rw [Wi acc c a,Ga l (acc++[c]) (by rw [Qw];exact h),Qw];rfl
theorem GQ{l:List C}{d:D}(g:jJ d=some (l.map aB))(b:l.length<=1000)(f:l.Nodup):iD [d]=some (nM l):=by
 refine eE (dV (bG (ds:=[.list (l.map fun c=>ZG [aB c,.bool true])]) ?_ ?_))
 ·have e:=mQ (gi:=eM (eV 0)) (s:=bX 0) (t:=eT) (ge:=cH (aC (eV 0) (aC (eC (.bool true)) aG))) (inner:=[none]) (ρ:=(cE 1 [d]).map frz) (xs:=l) aB (fun _=>true) (fun c=>ZG [aB c,.bool true]) (fun ρ=>∃ a,ρ=[a]) (kB rfl g) b ⟨_,rfl⟩ (by
   rintro c _ ρ ⟨a,rfl⟩
   exact⟨[.dat (aB c)],rfl,⟨_,rfl⟩,rfl,fun _=>rfl⟩) (by rw [xV])
  exact dO e rfl
 ·show(if _ then _ else _)=_
  rw [if_pos (by rw [Qd];exact b),ID,Qc]
  have:=Ga l [] (by simpa using f)
  rw [YD]at this;unfold mK nM;rw [<- this];rfl
theorem GP{w h:Nat}{W:C->Bool}(c:w<=5)(a:h<=5):iD [lG w h W]=some (nM ((cells w h).filter W)):=by
 have b:(cells w h).length<=25:=by rw [j9];exact YA c a
 have d:=Q7 W (cells w h);exact GQ rfl (by lia) (l6 (l5 (kG w h) W))
def eO(w h:Nat)(W:C->Bool):D:=nM ((cells w h).filter W)
theorem Sz(a:Bool)(c:C)(w h:Nat)(W:C->Bool):fF a (aB c) (eO w h W)=some (.bool (if a then !bB w h W c else bB w h W c)):=by
 unfold eO;rw [AB,Ay]
end My
namespace My
open PySem.SeqAt L2 DL SD SL EL DC
structure WS where
 gx:Int
 gy:Int
 cs:List C
 s9:Sl
 s10:Sl
def zA(a b:C)(f e d c:Int)(s:WS):aA:=[.dat (aB a),.dat (aB b),.dat (.int f),.dat (.int e),.dat (.int d),.dat (.int c),.dat (.int s.gx),.dat (.int s.gy),.own (s.cs.map aB),s.s9,s.s10]
def wB(b a:Int)(s:WS):Bool:=decide (s.gx<b) || decide (s.gy<a)
def pF(b a:Int)(s:WS):Int:=if(2 * s.gx+1) * a<=(2 * s.gy+1) * b then s.gx+1 else s.gx
def r8(b a:Int)(s:WS):Int:=if(2 * s.gy+1) * b<=(2 * s.gx+1) * a then s.gy+1 else s.gy
def wC(a:C)(c b e d:Int)(s:WS):WS:=⟨pF c b s,r8 c b s,s.cs++[(a.1+e * pF c b s,a.2+d * r8 c b s)],.dat (.int ((2 * s.gx+1) * b)),.dat (.int ((2 * s.gy+1) * c))⟩
theorem Hi(a:C)(d b i f:Int):∀(n:Nat) (s:WS) (st:List C),yH d b n s.gx s.gy=some st->∃ s',uE (wB d b) (wC a d b i f) n s=some s'/\s'.cs=s.cs++st.map fun g=>(a.1+i * g.1,a.2+f * g.2)
 | 0,_,_,h=>by cases h
 | n+1,s,st,h=>by
  unfold yH at h;unfold uE;by_cases c:s.gx<d ∨ s.gy<b
  ·rw [if_pos c]at h;obtain⟨r,e,h⟩:=aE h;cases h;rw [if_pos (by unfold wB;rw [JO,decide_eq_true_eq,decide_eq_true_eq];exact c)];obtain⟨s',k,j⟩:=Hi a d b i f n (wC a d b i f s) r e
   refine⟨s',k,?_⟩
   rw [j]
   show(s.cs++[_])++_=_
   rw [Qw];rfl
  ·rw [if_neg c]at h;cases h;rw [if_neg (by unfold wB;rw [JO,decide_eq_true_eq,decide_eq_true_eq];exact c)]
   exact⟨s,rfl,by simp⟩
theorem Sg{a b:C}(n:rK a b):sQ [aB a,aB b]=some (.list ((line a b).map aB)):=by
 have O:=n.ok;obtain⟨t,e,h⟩:=aE O.some
 have sg:∀ x,-100<dZ x/\dZ x<100:=fun x=>by unfold dZ;split <;> decide
 have F:=sg (b.1-a.1);have E:=sg (b.2-a.2);clear sg;obtain⟨J,I,H,G⟩:=n
 have r:∀ x,-4<=x->x<=4->0<=dX x/\dX x<100:=fun x h U=>by unfold dX;split <;> lia
 have N:=r _ J I;have M:=r _ H G;clear r
 have B:t.length<=8:=by
  have:=O.len
  rw [<- QA h,Qo,Qd]at this;lia
 have p:∀ x y:Int,(if decide (x<y)=true then some (J0 1)else some (.int (-1)))=some (.int (dZ (y-x))):=fun x y=>by
  unfold dZ;by_cases c:x<y
  ·rw [if_pos (decide_eq_true c),if_pos (by lia)]
  ·rw [if_neg (by simpa using c),if_neg (by lia)]
 have A:=p a.1 b.1;have w:=p a.2 b.2;clear p;obtain⟨u,K,q⟩:=Hi a (dX (b.1-a.1)) (dX (b.2-a.2)) (dZ (b.1-a.1)) (dZ (b.2-a.2)) 900 ⟨0,0,[a],.no,.no⟩ t e
 have j:line a b=u.cs:=by
  rw [q];unfold line;rw [<- QA h,Qk,Q3]
  show _::_=_::_
  congr 1;exact Jf (by show a.1+0=a.1;lia) (by show a.2+0=a.2;lia)
 rw [j];refine eE ?_;unfold AZ;refine bR (fM (d:=.int (dX (b.1-a.1))) rfl) (bR (fM (d:=.int (dX (b.2-a.2))) rfl) (bR (fM A) (bR (fM w) (bR (fM rfl) (bR (fM rfl) (bR (ρ':=zA a b (dX (b.1-a.1)) (dX (b.2-a.2)) (dZ (b.1-a.1)) (dZ (b.2-a.2)) ⟨0,0,[a],.no,.no⟩) rfl ?_))))));generalize dX (b.1-a.1)=f at *;generalize dX (b.2-a.2)=g at *;generalize dZ (b.1-a.1)=m at *;generalize dZ (b.2-a.2)=l at *;clear A w;have o:∀ k,-100<k/\k<100->∀ i:Int,cY (.int k) (.int i)=some (.int (k * i)):=fun k h i=>kD (lS (by lia) (by lia));have v:∀ k,0<=k/\k<100->∀ i:Int,cY (.int i) (.int k)=some (.int (i * k)):=fun k h i=>kD (DJ (by lia) (by lia));refine bR (Kp (zA a b f g m l) (wB f g) (wC a f g m l) (fun n s=>s.cs.length+n<=901) (fun n s Q=>?_) (fun n s Q T=>⟨?_,?_⟩) 900 ⟨0,0,[a],.no,.no⟩ u (by show 1+900<=901;decide) K) (dV rfl)
 ·show(if decide (s.gx<f)=true then some true else some (decide (s.gy<g)))=some (decide (s.gx<f) || decide (s.gy<g))
  cases decide (s.gx<f) <;> rfl
 ·have S:(s.cs.map aB).length<1000:=by rw [Qd];lia
  refine bR (fM (oo (oo (oo rfl rfl (o 2 (by decide) s.gx)) rfl rfl) rfl (v g M _))) (bR (fM (oo (oo (oo rfl rfl (o 2 (by decide) s.gy)) rfl rfl) rfl (v f N _))) ?_);refine bR (ρ':=[.dat (aB a),.dat (aB b),.dat (.int f),.dat (.int g),.dat (.int m),.dat (.int l),.dat (.int (pF f g s)),.dat (.int s.gy),.own (s.cs.map aB),.dat (.int ((2 * s.gx+1) * g)),.dat (.int ((2 * s.gy+1) * f))]) ?_ ?_
  ·unfold pF;by_cases c:(2 * s.gx+1) * g<=(2 * s.gy+1) * f
   ·rw [if_pos c]
    exact nZ (b:=true) (congrArg some (decide_eq_true c)) (fun _=>rfl) fun z=>by cases z
   ·rw [if_neg c];exact gN (congrArg some (decide_eq_false c))
  refine bR (ρ':=[.dat (aB a),.dat (aB b),.dat (.int f),.dat (.int g),.dat (.int m),.dat (.int l),.dat (.int (pF f g s)),.dat (.int (r8 f g s)),.own (s.cs.map aB),.dat (.int ((2 * s.gx+1) * g)),.dat (.int ((2 * s.gy+1) * f))]) ?_ ?_
  ·unfold r8;by_cases c:(2 * s.gy+1) * f<=(2 * s.gx+1) * g
   ·rw [if_pos c]
    exact nZ (b:=true) (congrArg some (decide_eq_true c)) (fun _=>rfl) fun z=>by cases z
   ·rw [if_neg c];exact gN (congrArg some (decide_eq_false c))
  refine(Ie (ds:=s.cs.map aB) (d:=aB (a.1+m * pF f g s,a.2+l * r8 f g s)) rfl ?_ S).trans ?_
  ·unfold cH;rw [dO (oo rfl (oo rfl rfl (o m F _)) rfl) (dO (oo rfl (oo rfl rfl (o l E _)) rfl) rfl)];rfl
  ·unfold zA wC;rw [QX];rfl
 ·show(s.cs++[_]).length+n<=901
  rw [Qm,Yo];lia
end My
namespace My
open PySem.SeqAt L2 DL SD SL EL DC
abbrev Cp:=C × C
def hF(p:Cp):D:=.tuple [aB p.1,aB p.2]
def kU(p q:C):Cp:=if nL q p=true then(q,p)else(p,q)
def lU(p:Cp):Cp:=kU (p.1.1,p.2.2) (p.2.1,p.1.2)
def lV(l:List C):List Cp:=((l.zip l.tail).filter fun p=>gI p.1 p.2).map lU
theorem zTg(S:C->Bool)(p q:C):(S (kU p q).1 && S (kU p q).2)=(S p && S q):=by
 unfold kU;split
 ·exact Bool.and_comm _ _
 ·rfl
theorem HP(S:C->Bool):∀ l:List C,(lV l).all (fun p => !(S p.1 && S p.2))=nV S l
 | []=>rfl
 | [a]=>rfl
 | a::b::l=>by
  have c:=HP S (b::l);unfold lV at c ⊢;rw [WC]
  show((((a,b)::(b::l).zip (b::l).tail).filter fun p=>gI p.1 p.2).map lU).all _=_
  rw [List.filter_cons];dsimp only
  cases gI a b with
  | true=>
   rw [if_pos rfl,Qk,List.all_cons,c];congr 1
   show(!(S (kU (a.1,b.2) (b.1,a.2)).1 && S (kU (a.1,b.2) (b.1,a.2)).2))=_
   rw [zTg];rfl
  | false=>rw [if_neg Qv,c];rfl
theorem XU(p q:C):k6 [.list [aB p,aB q]]=some (.list [aB (kU p q).1,aB (kU p q).2]):=by
 have:=tH (l:=[row p,row q]) (by intro k a;rcases Ql.mp a with rfl | a;rfl;rcases Ql.mp a with rfl | a;rfl;cases a) (by show 2<=63;decide)
 refine this.trans ?_
 show some (ZD ((if HT.lexLt (row q) (row p)=true then [row q,row p]else [row p,row q]).map eZ))=_
 unfold kU nL
 split <;> rfl
theorem Lk:∀ l m:List C,List.zipWith (fun x y=>ZG [x,y]) (l.map aB) (m.map aB)=(l.zip m).map hF
 | [],_=>rfl
 | _::_,[]=>rfl
 | a::l,b::m=>by rw [Qk,Qk,List.zipWith_cons_cons,Lk l m];rfl
theorem Rm(l:List C):cutD (l.map aB) (some 1) none=l.tail.map aB:=by
 cases l with
 | nil=>rfl
 | cons a l=>
  unfold DL.cutD
  have b:HT.sIx ((a::l).map aB).length 0 (some 1)=1:=by
   have:=HT.sIx_nat ((a::l).map aB).length 0 1
   rw [show((1:Nat):Int)=1 from rfl]at this;rw [this,Qd,Qo];lia
  rw [b,HT.sIx_none];simp;exact Jt (by simp)
theorem Si(l:List C):cutD (l.map aB) none (some (-1))=l.dropLast.map aB:=by
 unfold DL.cutD;rw [HT.sIx_none]
 have a:HT.sIx (l.map aB).length (l.map aB).length (some (-1))=l.length-1:=by
  unfold HT.sIx;simp;lia
 rw [a,U9,Nat.sub_zero,List.dropLast_eq_take,List.map_take]
theorem PB(l:List C)(r:l.length<=500):qT [.list (l.map aB)]=some (.list ((lV l).map hF)):=by
 have o:(l.zip l.tail).length<=500:=by rw [List.length_zip];lia
 refine eE ?_;unfold AY;rw [show cE 4 [.list (l.map aB)]=[.dat (.list (l.map aB)),.no,.no,.no]from rfl];refine bR (ρ':=[.dat (.list (l.map aB)),.own [],.no,.no]) rfl ?_
 have g:rZ (aC (eV 0) (aC (pC (eV 0) (oE (eC (.int 1))) pG) aG)) [.dat (.list (l.map aB)),.own [],.no,.no]=some ((l.zip l.tail).map hF):=by
  show some (List.zipWith (fun x y=>ZG [x,y]) (l.map aB) (cutD (l.map aB) (some 1) none))=_
  rw [Rm,Lk]
 refine bR (nY g (rE hF (fun(b:List Cp × Sl × Sl)=>[.dat (.list (l.map aB)),.own (b.1.map hF),b.2.1,b.2.2]) (fun b p=>(if gI p.1 p.2=true then b.1++[lU p]else b.1,.dat (aB p.1),.dat (aB p.2))) (fun i b=>b.1.length<=i) 500 (l.zip l.tail) 0 ([],.no,.no) (by lia) (Qj _) fun p _ i b s k=>?_)) ?_
 ·obtain⟨a,n,m⟩:=b;have j:a.length<=i:=k
  have f:(a.map hF).length<1000:=by rw [Qd];lia
  refine⟨⟨[.dat (.list (l.map aB)),.own (a.map hF),.dat (aB p.1),.dat (aB p.2)],rfl,?_⟩,?_⟩
  ·have t:jT (eB (aF cA (aF aO (eV 2) (eC (.int 0))) (aF aO (eV 3) (eC (.int 0))))) (eB (aF cA (aF aO (eV 2) (eC (.int 1))) (aF aO (eV 3) (eC (.int 1))))) [.dat (.list (l.map aB)),.dat (.list (a.map hF)),.dat (aB p.1),.dat (aB p.2)]=some (gI p.1 p.2):=by
    show(if(!(p.1.1 == p.2.1))=true then some (!(p.1.2 == p.2.2))else some false)=some (!(p.1.1 == p.2.1) && !(p.1.2 == p.2.2))
    cases p.1.1 == p.2.1 <;> rfl
   dsimp only
   cases q:gI p.1 p.2 with
   | true=>
    rw [q]at t
    refine(nZ (b:=true) t (fun _=>Ie (ds:=a.map hF) (d:=hF (lU p)) rfl (bG (dO (bG rfl (XU (p.1.1,p.2.2) (p.2.1,p.1.2))) rfl) rfl) f) fun z=>by cases z).trans ?_
    rw [if_pos rfl,QX];rfl
   | false=>
    rw [q]at t;exact gN t
  ·show(if gI p.1 p.2=true then a++[lU p]else a).length<=i+1
   split
   ·rw [Qm,Yo];lia
   ·lia
 ·have e:∀(c:List Cp) (b:List Cp × Sl × Sl),(c.foldl (fun(b:List Cp × Sl × Sl) p=>(if gI p.1 p.2=true then b.1++[lU p]else b.1,Sl.dat (aB p.1),Sl.dat (aB p.2))) b).1=b.1++(c.filter fun p=>gI p.1 p.2).map lU:=by
   intro c
   induction c with
   | nil=>intro b;simp
   | cons z c h=>
    intro b;rw [Ym,h,List.filter_cons];dsimp only
    cases gI z.1 z.2 with
    | true=>rw [if_pos rfl,if_pos rfl,Qk,Qw];rfl
    | false=>rw [if_neg Qv,if_neg Qv]
  refine dV ?_
  show some (ZD (((l.zip l.tail).foldl (fun(b:List Cp × Sl × Sl) p=>(if gI p.1 p.2=true then b.1++[lU p]else b.1,Sl.dat (aB p.1),Sl.dat (aB p.2))) ([],.no,.no)).1.map hF))=_
  rw [e];rfl
theorem HD{w h:Nat}{W:C->Bool}{a b:C}(n:rK a b):n8 [eO w h W,aB a,aB b]=some (.bool (clear (bB w h W) a b)):=by
 have E:(line a b).length<=9:=by unfold line;rw [Qd];exact n.ok.len
 have F:(line a b).dropLast.length<=9:=by rw [List.length_dropLast];lia
 refine eE ?_;unfold A2;rw [show cE 7 [eO w h W,aB a,aB b]=[.dat (eO w h W),.dat (aB a),.dat (aB b),.no,.no,.no,.no]from rfl];refine bR (fM (bG rfl (Sg n))) ?_;have d:∀ c,fF false (aB c) (eO w h W)=some (.bool (bB w h W c)):=fun c=>Sz false c w h W
 have m:=AT (s:=bX 4) (g:=dY (eB (aF (fF false) (eV 4) (eV 0))) (cJ (eC (.bool false))) fX) aB (fun f=>∃ e,f=[.dat (eO w h W),.dat (aB a),.dat (aB b),.dat (.list ((line a b).map aB)),e,.no,.no]) (bB w h W) (.bool false) (line a b).dropLast [.dat (eO w h W),.dat (aB a),.dat (aB b),.dat (.list ((line a b).map aB)),.no,.no,.no] ⟨_,rfl⟩ (by
  rintro c _ f ⟨e,rfl⟩
  refine⟨[.dat (eO w h W),.dat (aB a),.dat (aB b),.dat (.list ((line a b).map aB)),.dat (aB c),.no,.no],rfl,?_⟩
  cases q:bB w h W c with
  | true=>rw [if_pos rfl];exact nZ (b:=true) (oB (oo rfl rfl (by rw [d,q]))) (fun _=>rfl) fun z=>by cases z
  | false=>rw [if_neg Qv];exact⟨_,gN (oB (oo rfl rfl (by rw [d,q]))),⟨_,rfl⟩⟩)
 have x:eM (pC (eV 3) pG (oE (jV jD (eC (.int 1))))) [.dat (eO w h W),.dat (aB a),.dat (aB b),.dat (.list ((line a b).map aB)),.no,.no,.no]=some ((line a b).dropLast.map aB):=by
  show some (cutD ((line a b).map aB) none (some (-1)))=_
  rw [Si]
 unfold clear;by_cases j:(line a b).dropLast.any (bB w h W)=true
 ·rw [if_pos j]at m
  refine(BU (nY x m)).trans ?_
  have:(line a b).dropLast.all (fun c => !bB w h W c)=false:=by
   rw [Jp];simp only [Bool.not_not];rw [j];rfl
  rw [this];rfl
 ·rw [if_neg j]at m;obtain⟨o,A,e,rfl⟩:=m;refine bR (nY x A) ?_
  have B:(line a b).dropLast.all (fun c => !bB w h W c)=true:=by
   rw [Jp];simp only [Bool.not_not];rw [JG]at j;rw [j];rfl
  rw [B,Yz,<- HP]
  have l:=AT (s:=kW 2 (gF (bX 5) (gF (bX 6) j2))) (g:=dY (jT (eB (aF (fF false) (eV 5) (eV 0))) (eB (aF (fF false) (eV 6) (eV 0)))) (cJ (eC (.bool false))) fX) hF (fun f=>∃ t r,f=[.dat (eO w h W),.dat (aB a),.dat (aB b),.dat (.list ((line a b).map aB)),e,t,r]) (fun p=>bB w h W p.1 && bB w h W p.2) (.bool false) (lV (line a b)) [.dat (eO w h W),.dat (aB a),.dat (aB b),.dat (.list ((line a b).map aB)),e,.no,.no] ⟨_,_,rfl⟩ (by
   rintro p _ f ⟨t,r,rfl⟩
   refine⟨[.dat (eO w h W),.dat (aB a),.dat (aB b),.dat (.list ((line a b).map aB)),e,.dat (aB p.1),.dat (aB p.2)],rfl,?_⟩
   cases k:bB w h W p.1 <;> cases u:bB w h W p.2
   ·exact⟨_,gN (DF (oB (oo rfl rfl (by rw [d,k])))),⟨_,_,rfl⟩⟩
   ·exact⟨_,gN (DF (oB (oo rfl rfl (by rw [d,k])))),⟨_,_,rfl⟩⟩
   ·exact⟨_,gN (DH (oB (oo rfl rfl (by rw [d,k]))) (oB (oo rfl rfl (by rw [d,u])))),⟨_,_,rfl⟩⟩
   ·show dY _ _ _ _=_
    exact nZ (b:=true) (DH (oB (oo rfl rfl (by rw [d,k]))) (oB (oo rfl rfl (by rw [d,u])))) (fun _=>rfl) fun z=>by cases z)
  have v:eM (aR qT (aC (eV 3) aG)) [.dat (eO w h W),.dat (aB a),.dat (aB b),.dat (.list ((line a b).map aB)),e,.no,.no]=some ((lV (line a b)).map hF):=
   kB (bG rfl (PB _ (by lia))) rfl
  by_cases i:(lV (line a b)).any (fun p=>bB w h W p.1 && bB w h W p.2)=true
  ·rw [if_pos i]at l
   refine(BU (nY v l)).trans ?_
   have:(lV (line a b)).all (fun p => !(bB w h W p.1 && bB w h W p.2))=false:=by
    rw [Jp];simp only [Bool.not_not];rw [i];rfl
   rw [this]
  ·rw [if_neg i]at l;obtain⟨o,y,t,r,rfl⟩:=l;refine bR (nY v y) ?_
   have:(lV (line a b)).all (fun p => !(bB w h W p.1 && bB w h W p.2))=true:=by
    rw [Jp];simp only [Bool.not_not];rw [JG]at i;rw [i];rfl
   rw [this];exact dV rfl
theorem G3{w h:Nat}(c:w<=5)(e:h<=5){a b:C}(g:dR w h a=true)(f:dR w h b=true):rK a b:=by
 obtain⟨s,r,o,m⟩:=oP.mp g;obtain⟨l,k,j,i⟩:=oP.mp f
 have d:∀{n:Nat}{x y:Int},n<=5->0<=x->x<n->0<=y->y<n->-4<=y-x/\y-x<=4:=fun A z v u t=>by lia
 have p:=d c s r l k;have q:=d e o m j i
 exact⟨p.1,p.2,q.1,q.2⟩
section
variable {w h:Nat}{W:C->Bool}(hw:w<=5)(hh:h<=5)
include hw hh
theorem BY{c:C}(a:dR w h c=true):bB w h W c=W c:=by unfold bB;rw [a,Yz]
theorem Rl{a:C}(i:dR w h a=true)(j:W a=false):qU [aZ w h W,aB a]=some (.list (((cells w h).filter fun b=>fT (bB w h W) a b).map aB)):=by
 have m:iD [lG w h W]=some (eO w h W):=GP hw hh;refine eE ?_;unfold A1;rw [show cE 3 [aZ w h W,aB a]=[.dat (aZ w h W),.dat (aB a),.no]from rfl];refine bR (Ig (bG rfl (Iw i j))) (bR (fM (bG rfl m)) ?_);refine dV (mQ (xs:=(cells w h).filter fun c => !W c) aB (fun b=>clear (bB w h W) a b) aB (fun f=>∃ g,f=[g,.dat (eO w h W),.dat (aB a)]) (kB (bG rfl (Iv hw hh)) rfl) (Qr (Q7 _ _) (by rw [j9];exact Qr (YA hw hh) (by decide))) ⟨_,rfl⟩ ?_ ?_)
 ·rintro b d f ⟨g,rfl⟩;have e:=HD (w:=w) (h:=h) (W:=W) (G3 hw hh i (fP.mp (Q8.mp d).1))
  exact⟨[.dat (aB b),.dat (eO w h W),.dat (aB a)],rfl,⟨_,rfl⟩,oB (bG rfl e),fun _=>rfl⟩
 ·rw [Jv];congr 1;refine Jk fun b d=>?_;unfold fT;rw [BY hw hh (fP.mp d),Bool.and_comm]
theorem AU{a:C}(f:dR w h a=true)(g:W a=false):gW [aZ w h W,aB a]=some (.list (((cells w h).filter fun b=>clear (bB w h W) a b).map aB)):=by
 have m:iD [lG w h W]=some (eO w h W):=GP hw hh;refine eE ?_;unfold Av;rw [show cE 3 [aZ w h W,aB a]=[.dat (aZ w h W),.dat (aB a),.no]from rfl];refine bR (by(simp only [dn,reduceIte,Nat.reduceAdd,Nat.reduceSub,Nat.reduceLeDiff,Iw f g] <;> rfl)) ?_;refine bR (by(simp only [dn,reduceIte,Nat.reduceAdd,Nat.reduceSub,Nat.reduceLeDiff,zB,m] <;> rfl)) ?_;refine dV (mQ (xs:=cells w h) aB (fun b=>clear (bB w h W) a b) aB (fun c=>∃ d,c=[d,.dat (eO w h W),.dat (aB a)]) (kB (bG rfl (Ev hw hh)) rfl) (by rw [j9];exact Qr (YA hw hh) (by decide)) ⟨_,rfl⟩ ?_ rfl);rintro b i c ⟨d,rfl⟩;have e:=HD (w:=w) (h:=h) (W:=W) (G3 hw hh f (fP.mp i))
 exact⟨[.dat (aB b),.dat (eO w h W),.dat (aB a)],rfl,⟨_,rfl⟩,by simp only [dn,reduceIte,Nat.reduceAdd,Nat.reduceSub,Nat.reduceLeDiff,e],fun _=>rfl⟩
end
end My
namespace My
open PySem.SeqAt L2 DL SD SL EL DC
theorem M6(a b:C):cA (aB a) (aB b)=some (.bool (!(a == b))):=by
 unfold cA;rw [xG,xG,AH];rfl
theorem tN{w h:Nat}(a:w<=5)(b:h<=5)(W:C->Bool):((cells w h).filter W).length<=25:=
 Qr (Q7 _ _) (by rw [j9];exact YA a b)
section
variable {g g1 g2 rest:aA->Option aQ}{ρ ρ':aA}{I:aA->Prop}{t:aA->Option Bool}
end
theorem Mb{ga:aA->Option D}{ρ:aA}{d:D}(h:ga ρ=some d):aC ga aG ρ=some [d]:=by
 unfold aC;rw [h];rfl
end My
namespace My
open PySem.SeqAt L2 DL SD SL EL DC
def bE(w h:Nat)(W:C->Bool):List C:=(cells w h).filter fun c => !W c
theorem iV{w h:Nat}{W:C->Bool}{c:C}:c∈bE w h W ↔ dR w h c=true/\W c=false:=by
 unfold bE;rw [Q8,fP,JB]
theorem zTm(w h:Nat)(W:C->Bool):Up (bE w h W):=l5 (kG w h) _
theorem BA{w h:Nat}(a:w<=5)(b:h<=5)(W:C->Bool):(bE w h W).length<=25:=
 Qr (Q7 _ _) (by rw [j9];exact YA a b)
theorem V6{w h:Nat}{W:C->Bool}(a:w<=5)(g:0<h)(b:h<=5):sO [aZ w h W]=some (.list ((bE w h W).map aB)):=by
 refine eE (dV (mQ (xs:=cells w h) aB (fun c => !bB w h W c) aB (fun d=>∃ e,d=[e,.dat (aZ w h W)]) (kB (bG rfl (Hv a g b)) rfl) (by rw [j9];exact Qr (YA a b) (by decide)) ⟨_,rfl⟩ ?_ ?_))
 ·rintro c _ d ⟨e,rfl⟩
  exact⟨[.dat (aB c),.dat (aZ w h W)],rfl,⟨_,rfl⟩,oB (oo rfl rfl (u9 true c w h W)),fun _=>rfl⟩
 ·unfold bE;congr 1;refine Jk fun c f=>?_;rw [BY a b (fP.mp f)]
def dW(l:List C)(f:C->D):List (D × D):=l.map fun c=>(aB c,f c)
abbrev fE(l:List C)(f:C->Int):List (D × D):=dW l fun c=>.int (f c)
theorem B6(a c:C):(cS (aB a) == some (row c))=(a == c):=by
 rw [mJ,YE,beq_iff_eq,beq_iff_eq]
 exact⟨fun q=>nW (QA q),fun q=>by rw [q]⟩
theorem Fe(l:List C)(f:C->D)(c:C):fS (dW l f) (row c)=l.contains c:=by
 unfold fS dW;rw [List.any_map]
 induction l with
 | nil=>rfl
 | cons a l b=>
  rw [Jy,b,Ju];congr 1
  show(cS (aB a) == some (row c))=_
  rw [B6,YE,beq_iff_eq,beq_iff_eq]
  exact⟨Eq.symm,Eq.symm⟩
theorem AN(l:List C)(f:C->D):eU (dW l f)=true:=by
 unfold eU dW;rw [List.all_map,QT];intro c _;rfl
theorem FH{l:List C}(f:C->D){c:C}(h:c∈l):getD (dW l f) (row c)=some (f c):=by
 unfold getD dW
 induction l with
 | nil=>cases h
 | cons a l b=>
  rw [Qk,YX,B6];by_cases e:a=c
  ·subst e;simp
  ·rw [beq_eq_false_iff_ne.mpr e];exact b ((Ql.mp h).resolve_left fun z=>e z.symm)
def o8(f:C->Int)(c:C):C->Int:=fun x=>if x=c then f c+1 else f x
theorem Wh{l:List C}(f:C->Int){c:C}(h:c∈l):fJ (fE l f) (row c) (.int (f c+1))=fE l (o8 f c):=by
 unfold fJ;rw [Fe,if_pos (QC.mpr h)];unfold fE dW;rw [Q3];refine List.map_congr_left fun a _=>?_
 show(if(cS (aB a) == some (row c))=true then(aB a,J0 (f c+1))else(aB a,.int (f a)))=_
 rw [B6];unfold o8;dsimp only;by_cases e:a=c
 ·rw [if_pos (beq_iff_eq.mpr e),if_pos e]
 ·rw [if_neg (by simpa using e),if_neg e]
theorem IC(f:C->D):∀ l:List C,jO (l.map fun c=>ZG [aB c,f c])=some (l.map fun c=>(row c,f c))
 | []=>rfl
 | c::l=>by
  show(p8 (.tuple [aB c,f c])).bind (fun p=>(jO (l.map fun c=>ZG [aB c,f c])).bind fun a=>some (p::a))=_
  rw [IC f l];rfl
theorem Wj(l:List C)(f:C->D)(c:C)(h:c∉l):fJ (dW l f) (row c) (f c)=dW (l++[c]) f:=by
 unfold fJ;rw [Fe,if_neg (by rw [QC];exact h)];unfold dW;rw [QX];rfl
theorem FZ(f:C->D):∀(l acc:List C),(acc++l).Nodup->(l.map fun c=>(row c,f c)).foldl (fun kvs p=>fJ kvs p.1 p.2) (dW acc f)=dW (acc++l) f
 | [],acc,_=>by rw [QG];rfl
 | c::l,acc,h=>by
  have a:c∉acc:=by
   rw [YJ]at h;exact fun q=>h.2.2 c q c Qh rfl
  rw [Qk,Ym]
  show(l.map _).foldl _ (fJ _ (row c) (f c))=_
  rw [Wj acc f c a,FZ f l (acc++[c]) (by rw [Qw];exact h),Qw];rfl
theorem Sr(l:List C)(f:C->D):sH (.dict (dW l f))=some (l.map aB):=by
 show(if((dW l f).all fun e=>zC e.1)=true then some ((dW l f).map (·.1))else none)=_
 unfold dW;rw [if_pos (by rw [List.all_map,QT];intro c _;rfl),Q3];rfl
theorem MQ{l:List C}(f:C->D){c:C}(h:c∈l):y9 (.dict (dW l f)) (aB c)=some (f c):=by
 show((cS (aB c)).bind fun k=>if eU (dW l f)=true then getD (dW l f) k else none)=_
 rw [mJ,Qc,AN,if_pos rfl,FH f h]
theorem SV{ga:aA->Option D}{ρ:aA}{d:D}{l:List D}(b:ga ρ=some d)(a:sH d=some l):u7 ga ρ=some l:=by
 unfold u7;rw [b];exact a
def sK(b:(C->Int) × Sl)(o:C):(C->Int) × Sl:=(o8 b.1 o,.dat (aB o))
theorem KJ(c:C):∀(l:List C) (b:(C->Int) × Sl),(l.foldl sK b).1 c=b.1 c+(l.count c:Nat)
 | [],b=>by simp
 | o::l,b=>by
  rw [Ym,KJ c l]
  show o8 b.1 o c+_=_
  unfold o8;rw [List.count_cons];by_cases e:c=o
  ·subst e;simp;lia
  ·rw [if_neg e,if_neg (by simpa using fun z=>e z.symm)];simp
section
variable (fld:C->List C)
def Af(b:(C->Int) × Sl × Sl)(a:C):(C->Int) × Sl × Sl:=(((fld a).foldl sK (b.1,b.2.2)).1,.dat (aB a),((fld a).foldl sK (b.1,b.2.2)).2)
theorem KL(c:C):∀(l:List C) (b:(C->Int) × Sl × Sl),(l.foldl (Af fld) b).1 c=b.1 c+((l.map fun a=>(fld a).count c).sum:Nat)
 | [],b=>by simp
 | a::l,b=>by
  rw [Ym,KL c l]
  show((fld a).foldl sK (b.1,b.2.2)).1 c+_=_
  rw [KJ];simp;lia
end
theorem Wl{i:Nat}{gk a:aA->Option D}{ρ:aA}{l:List C}{f:C->Int}{c:C}(j:ρ[i]?=some (.ownD (fE l f)))(h:a ρ=some (.int (f c+1)))(g:gk ρ=some (aB c))(e:c∈l)(d:l.length<1000)(b:sB i ρ=true):
  sD i gk a ρ=some (.nx (ρ.set i (.ownD (fE l (o8 f c))))):=by
 unfold sD;rw [j]
 show(a ρ).bind _=_
 rw [h,Qc,g,Qc,mJ,Qc,AN,if_pos (by rw [b];simp [fE,dW,d]),Wh f e]
theorem W8{i:Nat}{gk:aA->Option D}{ρ:aA}{l:List C}{f:C->Int}{c:C}(d:ρ[i]?=some (.ownD (fE l f)))(b:gk ρ=some (aB c))(a:c∈l):t8 i gk ρ=some (.int (f c)):=by
 unfold t8;rw [d]
 show(gk ρ).bind _=_
 rw [b,Qc,mJ,Qc,AN,if_pos rfl,FH (fun c=>.int (f c)) a]
end My
namespace My
open PySem.SeqAt L2 DL SD SL EL DC
section
variable {w h:Nat}{W:C->Bool}(hw:w<=5)(hh:h<=5)
include hw hh
theorem To{a:C}:∀ c∈(cells w h).filter (fun b=>fT (bB w h W) a b),c∈bE w h W:=fun c d=>by
 rw [Q8,fP]at d;refine iV.mpr ⟨d.1,?_⟩
 have:=d.2
 unfold fT at this;rw [BY hw hh d.1,QF,JB]at this;exact this.1
theorem Tm{a c:C}(e:dR w h c=true):((cells w h).filter fun b=>fT (bB w h W) a b).count c=if fT (bB w h W) a c=true then 1 else 0:=by
 have d:=l6 (l5 (kG w h) fun b=>fT (bB w h W) a b);by_cases s:fT (bB w h W) a c=true
 ·rw [if_pos s,List.Nodup.count d,if_pos (Q8.mpr ⟨fP.mpr e,s⟩)]
 ·rw [if_neg s,List.Nodup.count d,if_neg (fun z=>s (Q8.mp z).2)]
theorem Xs{cs:List C}(m:∀ a∈cs,a∈bE w h W)(I:cs.length<=900):∃ f:C->Int,(∀ c∈bE w h W,f c=(cs.countP fun a=>fT (bB w h W) a c:Nat))/\tS [aZ w h W,.list (cs.map aB)]=some (.dict (fE (bE w h W) f)):=by
 obtain⟨O,p⟩:∃ O,O=bE w h W:=⟨_,rfl⟩;obtain⟨g,k⟩:∃ g:C->List C,g=fun a=>(cells w h).filter fun b=>fT (bB w h W) a b:=⟨_,rfl⟩
 have E:j8 [aZ w h W]=some (.list (O.map aB)):=by rw [p];exact Iv hw hh
 have M:O.length<=25:=by rw [p];exact BA hw hh W
 have B:O.Nodup:=by rw [p];exact l6 (zTm w h W)
 have z:∀ a∈cs,qU [aZ w h W,aB a]=some (.list ((g a).map aB)):=fun a u=>by
  obtain⟨K,J⟩:=iV.mp (m a u);rw [k];exact Rl hw hh K J
 have x:∀ a,∀ c∈g a,c∈O:=fun a c m=>by rw [k]at m;rw [p];exact To hw hh c m
 have y:∀ a,(g a).length<=25:=fun a=>by rw [k];exact Qr (Q7 _ _) (by rw [j9];exact YA hw hh)
 refine⟨(cs.foldl (Af g) ((fun _=>0),.no,.no)).1,fun c r=>?_,eE ?_⟩
 ·rw [KL];have i:=(iV.mp r).1;rw [k,Int.zero_add];refine congrArg (fun n:Nat=>(n:Int)) ?_;clear m I z x y k
  induction cs with
  | nil=>rfl
  | cons a cs G=>
   rw [Qk,List.sum_cons,G,List.countP_cons,Tm hw hh i];lia
 ·unfold Aw;rw [show cE 5 [aZ w h W,.list (cs.map aB)]=[.dat (aZ w h W),.dat (.list (cs.map aB)),.no,.no,.no]from rfl,<- p]
  have A:xA 2 (aC (fR (fU (eM (aR j8 (aC (eV 0) aG))) (bX 0) eT (cH (aC (eV 0) (aC (eC (.int 0)) aG))) [none])) aG) [.dat (aZ w h W),.dat (.list (cs.map aB)),.no,.no,.no]=some (.nx [.dat (aZ w h W),.dat (.list (cs.map aB)),.ownD (fE O fun _=>0),.no,.no]):=by
   have F:=mQ (gi:=eM (aR j8 (aC (eV 0) aG))) (s:=bX 0) (t:=eT) (ge:=cH (aC (eV 0) (aC (eC (.int 0)) aG))) (inner:=[none]) (ρ:=[.dat (aZ w h W),.dat (.list (cs.map aB)),.no,.no,.no]) (xs:=O) aB (fun _=>true) (fun c=>ZG [aB c,.int 0]) (fun ρ=>∃ v,ρ=[v]) (kB (bG rfl E) rfl) (by lia) ⟨_,rfl⟩ (by
    rintro c _ ρ ⟨v,rfl⟩
    exact⟨[.dat (aB c)],rfl,⟨_,rfl⟩,rfl,fun _=>rfl⟩) (by rw [xV])
   unfold xA;rw [Mb F]
   show(if _ then _ else _)=_
   rw [if_pos (by rw [Qd];lia),IC (fun _=>.int 0),Qc]
   have:=FZ (fun _=>.int 0) O [] (by simpa using B)
   rw [YD]at this;unfold mK;rw [show([]:List (D × D))=fE [] fun _=>0 from rfl,this];rfl
  refine bR A (bR (nY (kB (d:=.list (cs.map aB)) rfl rfl) (rE aB (fun(b:(C->Int) × Sl × Sl)=>[.dat (aZ w h W),.dat (.list (cs.map aB)),.ownD (fE O b.1),b.2.1,b.2.2]) (Af g) (fun _ _=>True) 900 cs 0 ((fun _=>0),.no,.no) (by lia) trivial fun a u i b _ _=>⟨⟨[.dat (aZ w h W),.dat (.list (cs.map aB)),.ownD (fE O b.1),.dat (aB a),b.2.2],rfl,?_⟩,trivial⟩)) ?_)
  ·refine(nY (kB (bG rfl (z a u)) rfl) (rE aB (fun(b:(C->Int) × Sl)=>[.dat (aZ w h W),.dat (.list (cs.map aB)),.ownD (fE O b.1),.dat (aB a),b.2]) sK (fun _ _=>True) 25 (g a) 0 (b.1,b.2.2) (by have:=y a;lia) trivial fun o H i q _ _=>⟨⟨[.dat (aZ w h W),.dat (.list (cs.map aB)),.ownD (fE O q.1),.dat (aB a),.dat (aB o)],rfl,?_⟩,trivial⟩)).trans rfl
   have j:=x a o H
   refine(Wl (l:=O) (f:=q.1) (c:=o) rfl ?_ rfl j (by lia) rfl).trans rfl
   have e:=W8 (i:=2) (gk:=eV 4) (ρ:=[.dat (aZ w h W),.dat (.list (cs.map aB)),.ownD (fE O q.1),.dat (aB a),.dat (aB o)]) (f:=q.1) rfl rfl j;simp only [Ex,e,Do,Da,Et]
  ·exact dV rfl
theorem PR{cs:List C}(j:∀ a∈cs,a∈bE w h W)(i:cs.length<=900):tQ [aZ w h W,.list (cs.map aB)]=some (.list (((bE w h W).filter fun c=>cs.any fun a=>fT (bB w h W) a c).map aB)):=by
 obtain⟨f,l,k⟩:=Xs hw hh j i;have m:=BA hw hh W;refine eE ?_;unfold Au;rw [show cE 3 [aZ w h W,.list (cs.map aB)]=[.dat (aZ w h W),.dat (.list (cs.map aB)),.no]from rfl];refine bR (fM (bG rfl k)) ?_;refine dV (mQ (xs:=bE w h W) aB (fun c=>decide (0<f c)) aB (fun e=>∃ g,e=[g,.dat (.dict (fE (bE w h W) f))]) (SV (d:=.dict (fE (bE w h W) f)) rfl (Sr _ fun c=>.int (f c))) (by lia) ⟨_,rfl⟩ ?_ ?_)
 ·rintro c b e ⟨g,rfl⟩
  exact⟨[.dat (aB c),.dat (.dict (fE (bE w h W) f))],rfl,⟨_,rfl⟩,oB (oo (oo rfl rfl (MQ (fun c=>.int (f c)) b)) rfl rfl),fun _=>rfl⟩
 ·refine congrArg (List.map aB) (Jk fun c b=>?_);rw [l c b,YE,decide_eq_true_eq,List.any_eq_true];rw [show(0<((cs.countP fun a=>fT (bB w h W) a c:Nat):Int)) ↔ 0<cs.countP fun a=>fT (bB w h W) a c from by lia,List.countP_pos_iff]
end
end My
namespace My
def eQ:List Nat:=[110,101,115,119]
def q9(x:Nat):C:=if x=110 then(0,-1)else if x=101 then(1,0)else if x=115 then(0,1)else(-1,0)
def eY(x:Nat):Nat:=if x=110 then 115 else if x=101 then 119 else if x=115 then 110 else 101
def bH(a:C)(x:Nat):C:=(a.1+(q9 x).1,a.2+(q9 x).2)
theorem yI{x:Nat}(h:x∈eQ):x=110 ∨ x=101 ∨ x=115 ∨ x=119:=by
 unfold eQ at h
 simpa using h
theorem Ix{x:Nat}(h:x∈eQ)(a:C):eY x∈eQ/\bH (bH a x) (eY x)=a:=by
 obtain⟨p,q⟩:=a;rcases yI h with rfl | rfl | rfl | rfl
 ·exact⟨by decide,Jf (show p+0+0=p by lia) (show q + -1+1=q by lia)⟩
 ·exact⟨by decide,Jf (show p+1 + -1=p by lia) (show q+0+0=q by lia)⟩
 ·exact⟨by decide,Jf (show p+0+0=p by lia) (show q+1 + -1=q by lia)⟩
 ·exact⟨by decide,Jf (show p + -1+1=p by lia) (show q+0+0=q by lia)⟩
def vis:C->List Nat->List C
 | s,[]=>[s]
 | s,x::u=>s::vis (bH s x) u
def fin:C->List Nat->C
 | s,[]=>s
 | s,x::u=>fin (bH s x) u
theorem rD:∀(s:C) (u:List Nat) (x:Nat),fin s (u++[x])=bH (fin s u) x
 | _,[],_=>rfl
 | s,y::u,x=>rD (bH s y) u x
theorem qK:∀(s:C) (u:List Nat) (x:Nat),vis s (u++[x])=vis s u++[bH (fin s u) x]
 | _,[],_=>rfl
 | s,y::u,x=>congrArg (s::·) (qK (bH s y) u x)
theorem wL:∀(s:C) (u:List Nat),(vis s u).length=u.length+1
 | _,[]=>rfl
 | s,y::u=>by show(vis (bH s y) u).length+1=_;rw [wL];rfl
theorem Cv:∀(s:C) (u:List Nat),∃ l,vis s u=l++[fin s u]
 | s,[]=>⟨[],rfl⟩
 | s,y::u=>by
  obtain⟨l,e⟩:=Cv (bH s y) u
  exact⟨s::l,congrArg (s::·) e⟩
theorem Fn(s:C)(u:List Nat):fin s u∈vis s u:=by
 obtain⟨l,e⟩:=Cv s u;rw [e];exact Qz _ (Qy.mpr rfl)
theorem Bs(s:C)(u:List Nat):s∈vis s u:=by
 cases u <;> exact Qh
structure Pt(G:List C)(s:C)(u:List Nat)(c:C):Prop where
 w:∀ x∈u,x∈eQ
 e:fin s u=c
 i:∀ x∈vis s u,x∈G
theorem Pt.nil{G:List C}{s:C}(h:s∈G):Pt G s [] s:=⟨fun _ h=>(nomatch h),rfl,fun x a=>by rw [Qy.mp a];exact h⟩
theorem Pt.snoc{G:List C}{s a:C}{u:List Nat}{x:Nat}(p:Pt G s u a)(c:x∈eQ)(h:bH a x∈G):Pt G s (u++[x]) (bH a x):=by
 refine⟨fun y b=>?_,by rw [rD,p.e],fun y b=>?_⟩
 ·rcases QE.mp b with b | b
  ·exact p.w y b
  ·rw [Qy.mp b];exact c
 ·rw [qK,p.e]at b;rcases QE.mp b with b | b
  ·exact p.i y b
  ·rw [Qy.mp b];exact h
theorem Pt.start{G:List C}{s c:C}{u:List Nat}(p:Pt G s u c):s∈G:=p.i s (Bs s u)
theorem Pt.stop{G:List C}{s c:C}{u:List Nat}(p:Pt G s u c):c∈G:=by rw [<- p.e];exact p.i _ (Fn s u)
def back(u:List Nat):List Nat:=(u.map eY).reverse
theorem Cu:∀(s:C) (u:List Nat),(∀ x∈u,x∈eQ)->fin (fin s u) (back u)=s/\vis (fin s u) (back u)=(vis s u).reverse
 | s,[],_=>⟨rfl,rfl⟩
 | s,x::u,h=>by
  obtain⟨a,c⟩:=Cu (bH s x) u fun y b=>h y (Qg _ b)
  have e:back (x::u)=back u++[eY x]:=by unfold back;simp
  have o:=(Ix (h x Qh) s).2;constructor
  ·show fin (fin (bH s x) u) (back (x::u))=s
   rw [e,rD,a,o]
  ·show vis (fin (bH s x) u) (back (x::u))=(s::vis (bH s x) u).reverse
   rw [e,qK,a,c,o,List.reverse_cons]
theorem VQ(u:List Nat):u=[] ∨ ∃ v x,u=v++[x]:=by
 rcases List.eq_nil_or_concat u with h | ⟨v,x,h⟩
 ·exact .inl h
 ·exact .inr ⟨v,x,by simpa using h⟩
end My
namespace My
open PySem.SeqAt L2 DL SD SL EL DC TB TX
def ws(x:Nat):Str:=⟨#[x]⟩
def bZ(u:List Nat):Str:=⟨u.toArray⟩
theorem Bw:jP=eQ.map fun x=>(ws x,aB (q9 x)):=by
 have d:(Zr "n")=ws 110:=by decide
 have c:(Zr "e")=ws 101:=by decide
 have b:(Zr "s")=ws 115:=by decide
 have a:(Zr "w")=ws 119:=by decide
 unfold jP;rw [d,c,b,a];rfl
theorem Cc{x:Nat}(h:x∈eQ):(eQ.map fun x=>(ws x,aB (q9 x))).lookup (ws x)=some (aB (q9 x)):=by
 rcases yI h with rfl | rfl | rfl | rfl <;> rfl
theorem zSr{a:List (Str × D)}{ga:aA->Option D}{ρ:aA}{x:Str}{d:D}(c:ga ρ=some (.str x))(b:a.lookup x=some d):pE a ga ρ=some d:=by
 unfold pE;rw [c];exact b
theorem EB{a:C}{x:Nat}(h:x∈eQ):sP [aB a,.str (ws x)]=some (aB (bH a x)):=by
 have b:=Cc h;rw [<- Bw]at b;refine eE (dV ?_);have t:pE jP (eV 1) ((cE 2 [aB a,.str (ws x)]).map frz)=some (aB (q9 x)):=zSr rfl b;exact vC (oo rfl (oo t rfl rfl) rfl) (oo rfl (oo t rfl rfl) rfl)
end My
namespace My
open PySem.SeqAt L2 DL OB SD SL EL DC
section
variable {B:Type}{ρ ρ':aA}{Ω Ω1 Ω2:List B}{d x y:D}{ds:List D}{ga gb:GX B D}{gr:GX B (List D)}{t u:GX B Bool}{g g1 g2:GS B}{j i:Nat}{b:B}
theorem rP{b:Type}{a:b}{g:aA->Option b}(h:g ρ=some a):xP g ρ Ω=some (a,Ω):=by
 unfold xP;rw [h];rfl
theorem mW{G:GM B}{gr:aA->Option (List D)}{r:D × B}(d:gr ρ=some ds)(c:Ω[j]?=some b)(a:G (none::ds.map some) b=some r):cO j G gr ρ Ω=some (r.1,Ω.set j r.2):=by
 unfold cO;rw [d,Qc,c,Qc,a];rfl
theorem NO{G:GM B}{gr:aA->Option (List (Option D))}{os:List (Option D)}{r:D × B}(d:gr ρ=some os)(c:Ω[j]?=some b)(a:G os b=some r):iC j G gr ρ Ω=some (r.1,Ω.set j r.2):=by
 unfold iC;rw [d,Qc,c,Qc,a];rfl
theorem jI{f:D->D->Option D}(c:ga ρ Ω=some (x,Ω1))(b:gb ρ Ω1=some (y,Ω2))(a:f x y=some d):cU f ga gb ρ Ω=some (d,Ω2):=by
 unfold cU;rw [c,Qc];dsimp only;rw [b,Qc];dsimp only;rw [a];rfl
theorem rB{k:Bool}(h:ga ρ Ω=some (.bool k,Ω1)):xB ga ρ Ω=some (k,Ω1):=by
 unfold xB;rw [h];rfl
theorem DN{r:Option (Bool × List B)}(h:t ρ Ω=some (false,Ω1))(a:u ρ Ω1=r):sL t u ρ Ω=r:=by
 unfold sL;rw [h];exact a
theorem iW(h:ga ρ Ω=some (d,Ω1))(a:gr ρ Ω1=some (ds,Ω2)):dM ga gr ρ Ω=some (d::ds,Ω2):=by
 unfold dM;rw [h,Qc];dsimp only;rw [a];rfl
theorem cQ{r:Option (kM B)}(h:g1 ρ Ω=some (.nx ρ' Ω1))(a:g2 ρ' Ω1=r):bP g1 g2 ρ Ω=r:=by
 unfold bP;rw [h];exact a
theorem e7(h:ga ρ Ω=some (d,Ω1)):b9 i ga ρ Ω=some (.nx (ρ.set i (.dat d)) Ω1):=by
 unfold b9;rw [h];rfl
theorem j3(h:ga ρ Ω=some (d,Ω1)):cL ga ρ Ω=some (.rt d Ω1):=by
 unfold cL;rw [h];rfl
theorem lF(h:t ρ Ω=some (false,Ω1)):cV t g1 eW ρ Ω=some (.nx ρ Ω1):=by
 unfold cV;rw [h];rfl
theorem An{r:Option (kM B)}(h:t ρ Ω=some (true,Ω1))(a:g1 ρ Ω1=r):cV t g1 g2 ρ Ω=r:=by
 unfold cV;rw [h];exact a
theorem OS{r:Option (kM B)}(h:t ρ Ω=some (false,Ω1))(a:g2 ρ Ω1=r):cV t g1 g2 ρ Ω=r:=by
 unfold cV;rw [h];exact a
theorem Am{gi:aA->Option (List D)}{xs:List D}{r:Option (kM B)}(h:gi ρ=some xs)(a:lI i g xs ρ Ω=r):pN gi i g ρ Ω=r:=by
 unfold pN;rw [h];exact a
theorem oO{n:Nat}{os:List (Option D)}{a:B}{Ω:List B}(c:os[j]?=some none)(h:g (fB n os) [b]=some (.rt d (a::Ω))):jF j n g os b=some (d,a):=by
 unfold jF;rw [c];dsimp only;rw [h]
end
theorem VD{d:D}(h:Zw d=true):cA d d=some (.bool false):=by
 unfold cA;rw [h,SeqAt.eqv_refl d (SeqAt.canLay_of_shaped h)];rfl
end My
namespace My
open PySem.SeqAt L2 DL OB SD SL EL DC TB TX KP
section
variable {B:Type}{ρ ρ':aA}{Ω Ω1:List B}{d:D}{ds:List D}{ga:GX B D}{gr:GX B (List D)}{g:GS B}{i j:Nat}{b b':B}
theorem wM{c:Type}(item:c->D)(St:List c->aA->List B->Prop):∀(xs pre:List c) (ρ:aA) (Ω:List B),(∀ pre' x post ρ Ω,pre++xs=pre'++x::post->St pre' ρ Ω->∃ ρ' Ω',g (ρ.set i (.dat (item x))) Ω=some (.nx ρ' Ω')/\St (pre'++[x]) ρ' Ω')->St pre ρ Ω->∃ ρ' Ω',lI i g (xs.map item) ρ Ω=some (.nx ρ' Ω')/\St (pre++xs) ρ' Ω'
 | [],pre,ρ,Ω,_,h=>⟨ρ,Ω,rfl,by rw [QG];exact h⟩
 | x::xs,pre,ρ,Ω,hs,h=>by
  obtain⟨b,f,m,k⟩:=hs pre x xs ρ Ω rfl h;obtain⟨a,d,l,j⟩:=wM item St xs (pre++[x]) b f (fun pre' y post ρ Ω e=>hs pre' y post ρ Ω (by rw [<- e,Qw];rfl)) k
  refine⟨a,d,?_,by rw [Qw]at j;exact j⟩
  rw [Qk];unfold lI;rw [m];exact l
theorem qC{get:B->Option D}(c:Ω[j]?=some b)(a:get b=some d):gO j get ρ Ω=some (d,Ω):=by
 unfold gO;rw [c,Qc,a];rfl
theorem BO{G:List D->Option D}(b:gr ρ Ω=some (ds,Ω1))(a:G ds=some d):mB G gr ρ Ω=some (d,Ω1):=by
 unfold mB;rw [b,Qc];dsimp only;rw [a];rfl
end
theorem Pw(d:List C)(b:C):aO (.list ((d++[b]).map aB)) (.int (-1))=some (aB b):=by
 show L2.atI ((d++[b]).map aB) (-1)=_
 unfold L2.atI L2.ixN;rw [if_neg (by decide),Qd,Qm,Yo];rw [if_pos (by lia)];rw [show((-1:Int)+((d.length+1:Nat):Int)).toNat=d.length by lia];simp
theorem Pu(a:C)(u:List Nat):aO (.list ((vis a u).map aB)) (.int (-1))=some (aB (fin a u)):=by
 obtain⟨l,e⟩:=Cv a u;rw [e];exact Pw l _
theorem Ol(u:List Nat):Ag (.str (bZ u))=some (u.map fun x=>.str (ws x)):=by
 show some ((u.toArray.toList.map fun c=>(⟨#[c]⟩:Str)).map J8)=_
 rw [Q3];rfl
theorem SW{ga:aA->Option D}{ρ:aA}{d:D}{l:List D}(b:ga ρ=some d)(a:Ag d=some l):u8 ga ρ=some l:=by
 unfold u8;rw [b];exact a
def at0(l:List C)(k:Nat):C:=l.getD k (0,0)
theorem DB{l:List C}{i:Int}(c:0<=i)(b:i<l.length):aO (.list (l.map aB)) (.int i)=some (aB (at0 l i.toNat))/\at0 l i.toNat∈l:=by
 have a:i.toNat<l.length:=by lia
 have e:at0 l i.toNat=l[i.toNat]:=by unfold at0;simp [List.getD,a]
 constructor
 ·show L2.atI (l.map aB) i=_
  unfold L2.atI L2.ixN;rw [Qd,if_pos c,if_pos b,e]
  simp [a]
 ·rw [e];exact Ys a
theorem LR(l m:List C)(h:l.length+m.length<=1000):bM (.list (l.map aB)) (.list (m.map aB))=some (.list ((l++m).map aB)):=by
 show(if(l.map aB).length+(m.map aB).length<=1000 then some (ZD (l.map aB++m.map aB))else none)=_
 rw [if_pos (by rw [Qd,Qd];exact h),QX]
theorem M8{i:Int}(b:0<=i)(a:i<4):∃ x∈eQ,gS (.str "nesw") (.int i)=some (.str (ws x)):=by
 have e:(Zr "nesw")=⟨#[110,101,115,119]⟩:=by decide
 rw [e]
 have:i=0 ∨ i=1 ∨ i=2 ∨ i=3:=by lia
 rcases this with rfl | rfl | rfl | rfl
 ·exact⟨110,by decide,rfl⟩
 ·exact⟨101,by decide,rfl⟩
 ·exact⟨115,by decide,rfl⟩
 ·exact⟨119,by decide,rfl⟩
theorem Hz{u:List Nat}(h:u.length<=100):mI [.str (bZ u)]=some (.int (u.length:Int)):=by
 show(if decide ((bZ u).length<=1000000)=true then some (J0 ((bZ u).length:Int))else none)=_
 have e:(bZ u).length=u.length:=by unfold bZ Str.length;simp
 rw [e,if_pos (decide_eq_true (by lia))]
def hU:List C->List C
 | []=>[]
 | a::r=>if a∈r then hU r else a::hU r
theorem uJ{c:C}:∀{l:List C},c∈hU l ↔ c∈l
 | []=>Iff.rfl
 | a::r=>by
  unfold hU;by_cases e:a∈r
  ·rw [if_pos e,uJ,Ql]
   exact⟨.inr,fun q=>q.elim (fun z=>by rw [z];exact e) id⟩
  ·rw [if_neg e,Ql,Ql,uJ]
theorem yF:∀ l:List C,(hU l).Nodup
 | []=>Y8
 | a::r=>by
  unfold hU;by_cases e:a∈r
  ·rw [if_pos e];exact yF r
  ·rw [if_neg e,Q9,uJ];exact⟨e,yF r⟩
theorem Hy:∀ l:List C,(hU l).length<=l.length
 | []=>Qj _
 | a::r=>by
  have:=Hy r
  unfold hU;split
  ·rw [Qo];lia
  ·rw [Qo,Qo];lia
theorem vY:∀ l:List C,dd (l.map row)=(hU l).map row
 | []=>rfl
 | a::r=>by
  rw [Qk];unfold dd hU
  have:row a∈r.map row ↔ a∈r:=by
   rw [<- QC,Fg,QC]
  by_cases e:a∈r
  ·rw [if_pos (this.mpr e),if_pos e,vY r]
  ·rw [if_neg (fun z=>e (this.mp z)),if_neg e,vY r,Qk]
end My
namespace My
open PySem.SeqAt L2 DL OB SD SL EL DC TB TX KP
theorem AM:∀(s:C) (u v:List Nat),fin s (u++v)=fin (fin s u) v
 | _,[],_=>rfl
 | s,x::u,v=>AM (bH s x) u v
theorem Ct:∀(s:C) (u v:List Nat),∀ y∈vis s u,y∈vis s (u++v)
 | s,[],v,y,h=>by
  rw [Qy.mp h];exact Bs s v
 | s,x::u,v,y,h=>by
  rcases Ql.mp h with e | h
  ·rw [e];exact Qh
  ·exact Qg _ (Ct (bH s x) u v y h)
section
variable {w h:Nat}{W:C->Bool}
def vw(w h:Nat)(W:C->Bool)(a:C):List C:=(cells w h).filter fun b=>clear (bB w h W) a b
def kS(w h:Nat)(W:C->Bool)(c:List C)(a:C):List C:=c++(vw w h W a).filter fun b => !c.contains b
def bV(w h:Nat)(W:C->Bool)(s:C)(u:List Nat):List C:=(vis s u).foldl (kS w h W) []
theorem pY{a b:C}:b∈vw w h W a ↔ dR w h b=true/\clear (bB w h W) a b=true:=by
 unfold vw;rw [Q8,fP]
theorem VO(s:C):bV w h W s []=vw w h W s:=by
 show []++(vw w h W s).filter _=_
 rw [YD];exact List.filter_eq_self.mpr fun _ _=>rfl
theorem Ht(s:C)(u:List Nat)(x:Nat):bV w h W s (u++[x])=kS w h W (bV w h W s u) (bH (fin s u) x):=by
 unfold bV;rw [qK,List.foldl_append];rfl
theorem GW{d:List C}{a b:C}:b∈kS w h W d a ↔ b∈d ∨ b∈vw w h W a:=by
 unfold kS;rw [QE,Q8];constructor
 ·rintro(q | q)
  ·exact .inl q
  ·exact .inr q.1
 ·intro q;by_cases c:b∈d
  ·exact .inl c
  ·exact .inr ⟨q.resolve_left c,by rw [JB,<- JG,QC];exact c⟩
theorem GU:∀(l acc:List C) (b:C),b∈l.foldl (kS w h W) acc ↔ b∈acc ∨ ∃ a∈l,b∈vw w h W a
 | [],acc,b=>by simp
 | a::l,acc,b=>by
  rw [Ym,GU l,GW];constructor
  ·rintro((q | q) | ⟨c,d,f⟩)
   ·exact .inl q
   ·exact .inr ⟨a,Qh,q⟩
   ·exact .inr ⟨c,Qg _ d,f⟩
  ·rintro(q | ⟨c,d,f⟩)
   ·exact .inl (.inl q)
   ·rcases Ql.mp d with e | d
    ·exact .inl (.inr (e ▸ f))
    ·exact .inr ⟨c,d,f⟩
theorem lC{s:C}{u:List Nat}{b:C}:b∈bV w h W s u ↔ ∃ a∈vis s u,b∈vw w h W a:=by
 unfold bV;rw [GU]
 exact⟨fun q=>q.resolve_left (fun z=>nomatch z),.inr⟩
theorem Cj(a:C):(vw w h W a).Nodup:=l6 (l5 (kG w h) _)
theorem G1{b:List C}(f:b.Nodup)(a:C):(kS w h W b a).Nodup:=by
 unfold kS;rw [YJ]
 refine⟨f,(Cj a).sublist List.filter_sublist,fun x d y c e=>?_⟩
 subst e
 have:=(Q8.mp c).2
 rw [JB,<- JG,QC]at this;exact this d
theorem G0:∀(l acc:List C),acc.Nodup->(l.foldl (kS w h W) acc).Nodup
 | [],_,h=>h
 | a::l,acc,h=>G0 l _ (G1 h a)
theorem Ch(s:C)(u:List Nat):(bV w h W s u).Nodup:=G0 _ _ Y8
theorem B8{s:C}{u:List Nat}{b:C}(q:b∈bV w h W s u):dR w h b=true:=by
 obtain⟨a,_,q⟩:=lC.mp q
 exact(pY.mp q).1
theorem Bu:∀{l m:List C},l.Nodup->(∀ c∈l,c∈m)->l.length<=m.length
 | [],m,_,_=>QR _
 | a::l,m,hn,hs=>by
  have b:=hs a Qh
  have:=Bu (l:=l) (m:=m.erase a) (Q9.mp hn).2 fun c d=>by
   have f:c≠a:=fun e=>(Q9.mp hn).1 (e ▸ d)
   exact(List.mem_erase_of_ne f).mpr (hs c (Qg _ d))
  rw [List.length_erase_of_mem b]at this
  have:=List.length_pos_of_mem b
  rw [Qo];lia
theorem Hs(a:w<=5)(b:h<=5)(s:C)(u:List Nat):(bV w h W s u).length<=25:=by
 refine Qr (Bu (m:=cells w h) (Ch s u) fun c d=>fP.mpr (B8 d)) ?_;rw [j9];exact YA a b
theorem XJ{a:C}(b:a∈bE w h W):bB w h W a=false:=by
 obtain⟨d,c⟩:=iV.mp b;unfold bB;rw [d,c];rfl
theorem zSu{a:C}(b:a∈bE w h W):a∈vw w h W a:=by
 refine pY.mpr ⟨(iV.mp b).1,R5 ?_ (XJ b)⟩;unfold dX
 split <;> split <;> lia
theorem VN{s:C}{u v:List Nat}{b:C}(q:b∈bV w h W s u):b∈bV w h W s (u++v):=by
 obtain⟨a,d,c⟩:=lC.mp q;exact lC.mpr ⟨a,Ct s u v a d,c⟩
end
end My
namespace My
open PySem.SeqAt L2 DL OB SD SL EL DC TB TX KP EX
section
variable {B:Type}{ρ ρ':aA}{Ω Ω1:List B}{t:GX B Bool}{g:GS B}{i j:Nat}
theorem Na{t u:aA->Option Bool}{ρ:aA}(h:t ρ=some true):hW t u ρ=some true:=by
 unfold hW;rw [h];rfl
theorem Ed{d:Type}{ge:aA->Option D}(item:d->D)(p:d->Bool)(f:d->D)(I:aA->Prop):∀(xs:List d) (ρ:aA),I ρ->
  (∀ a∈xs,∀ ρ,I ρ->I (ρ.set i (.dat (item a)))/\t (ρ.set i (.dat (item a))) Ω=some (p a,Ω)/\(p a=true->ge (ρ.set i (.dat (item a)))=some (f a)))->pO i t ge (xs.map item) ρ Ω=some ((xs.filter p).map f,Ω)
 | [],_,_,_=>rfl
 | a::xs,ρ,h0,hs=>by
  obtain⟨k,j,h⟩:=hs a Qh ρ h0;have e:=Ed item p f I xs _ k fun b g=>hs b (Qg _ g);rw [Qk,List.filter_cons];unfold pO;rw [j,Qc]
  cases c:p a with
  | true=>rw [if_pos rfl,h c,Qc,e,if_pos rfl];rfl
  | false=>rw [if_neg Qv,e,if_neg Qv]
theorem Bf{b:Type}{gi:GX B (List D)}{ge:aA->Option D}{inner:List (Option Nat)}{xs:List b}(item:b->D)(p:b->Bool)(f:b->D)(I:aA->Prop)(d:gi ρ Ω=some (xs.map item,Ω1))(c:xs.length<=1000)(e:I (fV inner ρ))
  (hs:∀ a∈xs,∀ ρ,I ρ->I (ρ.set i (.dat (item a)))/\t (ρ.set i (.dat (item a))) Ω1=some (p a,Ω1)/\(p a=true->ge (ρ.set i (.dat (item a)))=some (f a))):kH gi i t ge inner ρ Ω=some (.list ((xs.filter p).map f),Ω1):=by
 unfold kH;rw [d,Qc,Ed item p f I xs _ e hs,Qc,if_pos ⟨by rw [Qd];exact Qr (Q7 _ _) c,rfl⟩]
theorem zN{ga:GX B D}{d:D}{l:List D}(h:ga ρ Ω=some (d,Ω1))(a:jJ d=some l):l4 ga ρ Ω=some (l,Ω1):=by
 unfold l4;rw [h,Qc,a];rfl
theorem OT{n:Nat}{G:List D->Option B}{gr:aA->Option (List D)}{ds:List D}{b:B}(e:gr ρ=some ds)(d:G ds=some b)(c:Ω.length=n)(a:i<ρ.length):vS i n G gr ρ Ω=some (.nx (ρ.set i .no) (Ω++[b])):=by
 unfold vS;rw [e,Qc,d,Qc,if_pos ⟨c,a⟩]
theorem Ts{n:Nat}{ds:List D}{d:D}(h:g (cE n ds) []=some (.rt d Ω)):rX n g ds=some d:=by
 unfold rX;rw [h]
theorem Dw{b:Type}{s:D->aA->Option aA}(item:b->D)(I:aA->Prop):∀(xs:List b) (ρ:aA),I ρ->(∀ a∈xs,∀ ρ,I ρ->∃ ρ1 ρ2,s (item a) ρ=some ρ1/\g ρ1 Ω=some (.nx ρ2 Ω)/\I ρ2)->∃ ρ',pT s g (xs.map item) ρ Ω=some (.nx ρ' Ω)/\I ρ'
 | [],ρ,h0,_=>⟨ρ,rfl,h0⟩
 | x::xs,ρ,h0,h=>by
  obtain⟨ρ1,ρ2,f,e,c⟩:=h x Qh ρ h0;rw [Qk];unfold pT;rw [f,Qc,e,Qc];exact Dw item I xs ρ2 c fun a d=>h a (Qg _ d)
end
theorem FT:∀ l:List C,oI (l.map aB)=some (l.map row)
 | []=>rfl
 | c::l=>by
  rw [Qk];unfold oI;rw [mJ,Qc,FT l];rfl
theorem Rg(l:List C):((l.map row).map fun k=>jE (.inl k))=l.map aB:=by
 rw [Q3];rfl
theorem Ho:∀ l:List C,mP (l.map fun c=>(aB c,J6 true))=some (l.map row)
 | []=>rfl
 | c::l=>by
  rw [Qk];unfold mP;rw [mJ,Qc,show eJ (.bool true)=some true from rfl,Qc,if_pos rfl,Ho l];rfl
section
variable {w h:Nat}{W:C->Bool}(hw:w<=5)(hh:h<=5)
def wk(w h:Nat)(W:C->Bool)(s:C)(u:List Nat):W3:=(aZ w h W,(vis s u).map aB,(bV w h W s u).map row)
def kc(w h:Nat)(W:C->Bool)(s:C)(u:List Nat):List C:=(cells w h).filter fun c=>(bV w h W s u).contains c
theorem Ce{s c:C}{u:List Nat}:c∈kc w h W s u ↔ c∈bV w h W s u:=by
 unfold kc;rw [Q8,QC,fP]
 exact⟨fun q=>q.2,fun q=>⟨B8 q,q⟩⟩
theorem Kg(s:C)(u:List Nat):Up (kc w h W s u):=l5 (kG w h) _
theorem Cy(s:C)(u:List Nat):j6 [none] (wk w h W s u)=some (aB (fin s u),wk w h W s u):=by
 refine oO (Ω:=[]) rfl (j3 ?_);have e:rO aO (nN 0 Cw) (OB.rP (jV jD (eC (.int 1)))) (fB 1 [none]) [wk w h W s u]=some (aB (fin s u)):=Pu s u;unfold Aq;rw [e];rfl
theorem zTw(s:C)(u:List Nat):qR [none] (wk w h W s u)=some (.list ((vis s u).map aB),wk w h W s u):=oO (Ω:=[]) rfl (j3 rfl)
theorem Kr(s:C)(u:List Nat):l7 (wk w h W s u)=some (nM (bV w h W s u)):=by
 show some (PyData.dict (((bV w h W s u).map row).map fun k=>(jE (.inl k),.bool true)))=_
 rw [Q3];rfl
theorem Mz{n:Nat}{g:aA->Option aQ}{ds:List D}{d:D}(h:g (cE n ds)=some (.rt d)):nG n g ds=some (.inl d):=by
 unfold nG;rw [h]
theorem Mx{n:Nat}{g:aA->Option aQ}{ds:List D}{x:Str}{ρ:aA}(h:g (cE n ds)=some (.ex x ρ)):nG n g ds=some (.inr x):=by
 unfold nG;rw [h]
theorem zSp{g1 a:aA->Option aQ}{ρ ρ':aA}{x:Str}(h:g1 ρ=some (.ex x ρ')):bK g1 a ρ=some (.ex x ρ'):=by
 unfold bK;rw [h];rfl
def xF:List Int:=[-1,0,1,2,3,4,5]
theorem zSi:(xF.all fun a=>xF.all fun b=>qE (aB (a,b)))=true:=by decide +kernel
theorem KG{a:C}{x:Nat}(d:x∈eQ)(g:bH a x∈bE w h W):j7 [aZ w h W,aB a,.str (ws x)]=some (.inl (aB (bH a x))):=by
 obtain⟨e,i⟩:=iV.mp g;have f:=Bd w h W (bH a x);rw [e]at f;have b:=xK (W:=W) e;rw [i]at b;have c:=Cc d;rw [<- Bw]at c;refine Mz ?_;unfold xW;rw [show cE 4 [aZ w h W,aB a,.str (ws x)]=[.dat (aZ w h W),.dat (aB a),.dat (.str (ws x)),.no]from rfl];refine bR (gN (oB ?_)) (bR (fM (bG rfl (EB d))) (bR (gN (zF (oN (oB (bG rfl f))) (oB (bG rfl b)))) (dV rfl)))
 show((jP.lookup (ws x)).bind fun _=>some (J6 false))=_
 rw [c];rfl
theorem X4{a:C}{x:Nat}(b:x∈eQ)(c:bH a x∈bE w h W):v6 [aZ w h W,aB a,.str (ws x)]=some (aB (bH a x)):=by
 show pL j7 _=_
 unfold pL;rw [KG b c]
theorem X0(u:w<=5)(v:h<=5){a:C}{x:Nat}(s:dR w h a=true)(e:x∈eQ)(r:bH a x∉bE w h W):j7 [aZ w h W,aB a,.str (ws x)]=some (.inr "NoStep"):=by
 have g:=Cc e;rw [<- Bw]at g
 have o:qE (aB (bH a x))=true:=by
  obtain⟨n,l,k,j⟩:=oP.mp s
  have m:∀ i:Int,-1<=i->i<6->i∈xF:=fun i A y=>by
   unfold xF;simp only [Ql,JH,or_false];lia
  have d:-1<=(bH a x).1/\(bH a x).1<6/\-1<=(bH a x).2/\(bH a x).2<6:=by
   obtain⟨p,q⟩:=a;have n:0<=p:=n;have l:p<w:=l;have k:0<=q:=k;have j:q<h:=j;rcases yI e with rfl | rfl | rfl | rfl
   ·show -1<=p+0/\p+0<6/\-1<=q + -1/\q + -1<6;lia
   ·show -1<=p+1/\p+1<6/\-1<=q+0/\q+0<6;lia
   ·show -1<=p+0/\p+0<6/\-1<=q+1/\q+1<6;lia
   ·show -1<=p + -1/\p + -1<6/\-1<=q+0/\q+0<6;lia
  exact QT.mp (QT.mp zSi _ (m _ d.1 d.2.1)) _ (m _ d.2.2.1 d.2.2.2)
 have c:=Bd w h W (bH a x)
 have t:hW (kQ (eB (aR mF (aC (eV 0) (aC (eV 3) aG))))) (eB (aR i1 (aC (eV 0) (aC (eV 3) aG)))) [.dat (aZ w h W),.dat (aB a),.dat (.str (ws x)),.dat (aB (bH a x))]=some true:=by
  cases q:dR w h (bH a x)with
  | false=>rw [q]at c;exact Na (oN (oB (bG rfl c)))
  | true=>
   rw [q]at c;have f:=xK (W:=W) q
   have:W (bH a x)=true:=by
    cases z:W (bH a x)with
    | true=>rfl
    | false=>exact absurd (iV.mpr ⟨q,z⟩) r
   rw [this]at f;exact zF (oN (oB (bG rfl c))) (oB (bG rfl f))
 refine Mx (ρ:=[.dat (aZ w h W),.dat (aB a),.dat (.str (ws x)),.dat (aB (bH a x))]) ?_;unfold xW;rw [show cE 4 [aZ w h W,aB a,.str (ws x)]=[.dat (aZ w h W),.dat (aB a),.dat (.str (ws x)),.no]from rfl];refine bR (gN (oB ?_)) (bR (fM (bG rfl (EB e))) (zSp (nZ (b:=true) t (fun _=>?_) fun z=>by cases z)))
 ·show((jP.lookup (ws x)).bind fun _=>some (J6 false))=_
  rw [g];rfl
 ·show(((if qE (aB (bH a x))=true then some ()else none).bind fun _=>some ()).bind fun _=>some (aQ.ex "NoStep" _))=_
  rw [o];rfl
include hw hh
theorem VP(s:C)(u:List Nat):fO [none] (wk w h W s u)=some (.list ((kc w h W s u).map aB),wk w h W s u):=by
 refine oO (Ω:=[]) rfl (j3 ?_);have e:=Br (l:=bV w h W s u) (m:=kc w h W s u) (Ch s u) (by have:=Hs (W:=W) hw hh s u;lia) (Kg s u) fun c=>Ce
 show((k6 [.list (((bV w h W s u).map row).map fun k=>jE (.inl k))]).bind fun d=>some (d,[wk w h W s u]))=_
 rw [Rg,e];rfl
theorem qL(a:C):(vw w h W a).length<=25:=tN hw hh _
theorem SF{c:C}(a:c∈bE w h W):qO [aZ w h W,aB c]=some (wk w h W c []):=by
 obtain⟨d,b⟩:=iV.mp a;have e:=AU hw hh (W:=W) d b;unfold qO
 show(gW [aZ w h W,aB c]).bind _=_
 rw [e,Qc]
 show(oI ((vw w h W c).map aB)).bind _=_
 rw [FT,Qc,if_pos ⟨uL (Cj c),by rw [Qd];have:=qL hw hh (W:=W) c;lia⟩];unfold wk;rw [VO];rfl
theorem X3{s:C}{u:List Nat}{x:Nat}(hs:s∈bE w h W)(v:x∈eQ)(i:bH (fin s u) x∈bE w h W)(E:u.length<990):mD [none,some (.str (ws x))] (wk w h W s u)=some (.list (((vw w h W (bH (fin s u) x)).filter fun b => !(bV w h W s u).contains b).map aB),wk w h W s (u++[x])):=by
 obtain⟨r,q⟩:=iV.mp i;have n:=AU hw hh (W:=W) r q;generalize ha:bH (fin s u) x=a at i r q n;have m:=X4 (a:=fin s u) v (ha ▸ i);rw [ha]at m;obtain⟨kn,f⟩:∃ kn,kn=bV w h W s u:=⟨_,rfl⟩;obtain⟨e,g⟩:∃ e,e=(vw w h W a).filter fun b => !kn.contains b:=⟨_,rfl⟩;have B:=Hs (W:=W) hw hh s u
 have G:e.length<=25:=by rw [g];exact Qr (Q7 _ _) (qL hw hh a)
 have A:e.Nodup:=by rw [g];exact(Cj a).sublist List.filter_sublist
 have mk:=GQ (l:=e) (d:=.list (e.map aB)) rfl (by lia) A;have t:=Cy (w:=w) (h:=h) (W:=W) s u;rw [<- f,<- g];refine oO (Ω:=[]) rfl ?_;unfold CA;rw [show fB 4 [none,some (J8 (ws x))]=[.no,.dat (.str (ws x)),.no,.no]from rfl];refine cQ (e7 (BO (iW (qC rfl rfl) (iW (mW rfl rfl t) (iW (rP rfl) rfl))) m)) ?_;refine cQ (e7 (d:=.list (e.map aB)) (Ω1:=[wk w h W s u]) ?_) ?_
 ·rw [g];refine Bf (xs:=vw w h W a) aB (fun b => !kn.contains b) aB (fun k=>∃ o,k=[o,.no]) (zN (BO (iW (qC rfl rfl) (iW (rP rfl) rfl)) n) rfl) (Qr (qL hw hh a) (by decide)) ⟨_,rfl⟩ ?_;rintro b F k ⟨o,rfl⟩
  refine⟨⟨_,rfl⟩,?_,fun _=>rfl⟩
  show((((some (aB b)).bind fun x=>(l7 (wk w h W s u)).bind fun y=>fF true x y)).bind fun d=>(eJ d).bind fun b=>some (b,[wk w h W s u]))=_
  rw [Qc,Kr,Qc,AB,f];rfl
 refine cQ (ρ':=[.no,.dat (.str (ws x)),.dat (aB a),.dat (.list (e.map aB))]) (Ω1:=[(aZ w h W,(vis s u).map aB++[aB a],kn.map row)]) ?_ ?_
 ·show(if((vis s u).map aB).length<1000 then some _ else none)=_
  rw [if_pos (by rw [Qd,wL];lia),f];rfl
 refine cQ (ρ':=[.no,.dat (.str (ws x)),.dat (aB a),.dat (.list (e.map aB))]) (Ω1:=[wk w h W s (u++[x])]) ?_ (j3 (rP rfl));unfold CJ;rw [show aR iD (aC (eV 3) aG) [Sl.no,.dat (.str (ws x)),.dat (aB a),.dat (.list (e.map aB))]=some (nM e)from bG rfl mk,Qc]
 show(mP (e.map fun c=>(aB c,J6 true))).bind _=_
 rw [Ho,Qc]
 show(if kn.map row≠[]/\(kn.map row++e.map row).Nodup/\(kn.map row++e.map row).length<=1000 then some _ else none)=_
 have p:kn++e=kS w h W kn a:=by rw [g];rfl
 have j:kn.map row≠[]/\(kn.map row++e.map row).Nodup/\(kn.map row++e.map row).length<=1000:=by
  refine⟨fun z=>?_,?_,?_⟩
  ·have:s∈kn:=by rw [f];exact lC.mpr ⟨s,Bs s u,zSu hs⟩
   rw [List.map_eq_nil_iff]at z;rw [z]at this;cases this
  ·rw [<- QX,p];exact uL (G1 (by rw [f];exact Ch s u) a)
  ·rw [Qm,Qd,Qd,f];lia
 rw [if_pos j];unfold wk;rw [Ht,ha,qK,ha,<- f,<- p,QX,QX];rfl
theorem Ey(s:C)(u:List Nat)(x:Nat):tI (fB 4 [none,some (.str (ws x))]) [wk w h W s u]=some ([aZ w h W,aB (fin s u),.str (ws x)],[wk w h W s u]):=
 iW (qC rfl rfl) (iW ((mW (ds:=[]) (b:=wk w h W s u) rfl rfl (Cy s u)).trans rfl) (iW (rP rfl) rfl))
theorem E9{s:C}{u:List Nat}{x:Nat}(hs:s∈bE w h W)(a:x∈eQ)(c:bH (fin s u) x∈bE w h W)(d:u.length<990):mE [none,some (.str (ws x))] (wk w h W s u)=some (.list (((vw w h W (bH (fin s u) x)).filter fun b => !(bV w h W s u).contains b).map aB),wk w h W s (u++[x])):=by
 have g:n5 [none,some (.str (ws x))] (wk w h W s u)=none:=by
  show(tI (fB 4 [none,some (.str (ws x))]) [wk w h W s u]).bind _=_
  rw [Ey hw hh s u x,Qc]
  show(j7 [aZ w h W,aB (fin s u),.str (ws x)]).bind _=_
  rw [KG a c];rfl
 unfold mE;dsimp only;rw [g];exact X3 hw hh hs a c d
theorem TF{s:C}{u:List Nat}{x:Nat}(c:fin s u∈bE w h W)(a:x∈eQ)(b:bH (fin s u) x∉bE w h W):mE [none,some (.str (ws x))] (wk w h W s u)=some (.none,wk w h W s u):=by
 have g:n5 [none,some (.str (ws x))] (wk w h W s u)=some (("NoStep":Str),wk w h W s u):=by
  show(tI (fB 4 [none,some (.str (ws x))]) [wk w h W s u]).bind _=_
  rw [Ey hw hh s u x,Qc]
  show(j7 [aZ w h W,aB (fin s u),.str (ws x)]).bind _=_
  rw [X0 hw hh (iV.mp c).1 a b];rfl
 unfold mE;dsimp only;rw [g];exact if_pos rfl
end
end My
namespace My
open PySem.SeqAt L2 DL OB SD SL EL DC TB TX KP EX
open Builtin Builtin.Str
theorem KA{l m:List C}{ga:aA->Option D}{ρ:aA}(b:l.length<=1000)(e:(hU l).length<=63)(a:Up m)(h:∀ c,c∈m ↔ c∈l)(d:ga ρ=some (.list (l.map aB))):k7 (jU (aC ga aG)) ρ=some (.list (m.map aB)):=by
 have s:sI [.list (l.map aB)]=some (l.map row):=by
  show(if _ then _ else _)=_
  rw [if_pos (by rw [Qd];exact b),wZ,Qc,vY,if_pos (by rw [Qd];lia)]
 unfold k7 jU;rw [dO d rfl,Qc,s,Qc,vY,w5];exact Br (yF l) e a fun c=>(h c).trans uJ.symm
theorem Sx:((JZ 12).all fun n=>strSliceIndices none none (-1) n == (JZ n).reverse)=true:=by decide +kernel
theorem Sw:((JZ 6).all fun n=>(JZ n).all fun x=>strSliceIndices (some ((x:Nat):Int)) (some (((x:Nat):Int)+1)) 1 n == [x])=true:=by decide +kernel
theorem oZ(u:List Nat):(bZ u).length=u.length:=by unfold bZ Str.length;simp
theorem IP:∀ u:List Nat,(JZ u.length).filterMap (fun(i:Nat)=>u[i]?)=u
 | []=>rfl
 | a::u=>by
  rw [Qo,List.range_succ_eq_map,YK]
  show a::_=_
  rw [List.filterMap_map];exact congrArg (a::·) (IP u)
theorem NY{u:List Nat}(h:u.length<=11):sC (bZ u)=bZ u.reverse:=by
 have e:=QT.mp Sx u.length (QP.mpr (by lia));rw [beq_iff_eq]at e;unfold sC;rw [oZ,e]
 have f:(fun(i:Nat)=>(bZ u).cps[i]?)=fun(i:Nat)=>u[i]?:=by
  funext i
  show(u.toArray)[i]?=_
  simp
 rw [f,List.filterMap_reverse,IP];rfl
theorem NX{u:List Nat}(h:u.length<=11):vV (.str (bZ u)) (some (-1))=some (.str (bZ u.reverse)):=by
 show(if decide ((bZ u).length<=1000000)=true then some (J8 (sC (bZ u)))else none)=_
 rw [oZ,if_pos (decide_eq_true (by lia)),NY h]
theorem XF{u:List Nat}{x:Nat}(b:x<u.length)(d:u.length<=5):Txt.slice (bZ u) (some ((x:Nat):Int)) (some (((x:Nat):Int)+1))=bZ [u[x]]:=by
 have e:=QT.mp (QT.mp Sw u.length (QP.mpr (by lia))) x (QP.mpr b);rw [beq_iff_eq]at e;unfold Txt.slice;rw [oZ,e];by_cases c:u.length=1
 ·have:x=0:=by lia
  subst this
  match u,c with
  | [a],_=>rfl
 ·rw [if_neg (by simp;lia)]
  have:(bZ u).cps[x]?=some u[x]:=by
   show(u.toArray)[x]?=_
   simp [b]
  simp only [YK,List.filterMap_nil,this];rfl
theorem Nb:(eQ.all fun x=>occurrences (Zr "nesw") (ws x) 0 (Zr "nesw").length 1 == [if x=110 then 0 else if x=101 then 1 else if x=115 then 2 else 3])=true:=by decide +kernel
theorem NF{x:Nat}(h:x∈eQ):∃ k:Nat,mH (.str "nesw") (.str (ws x))=some (.int (k:Int))/\gS (.str "swne") (.int (k:Int))=some (.str (ws (eY x))):=by
 have e:=QT.mp Nb x h;rw [beq_iff_eq]at e
 refine⟨if x=110 then 0 else if x=101 then 1 else if x=115 then 2 else 3,?_,?_⟩
 ·unfold mH;dsimp only;rw [e]
 ·rcases yI h with rfl | rfl | rfl | rfl <;> rfl
section
variable {w h:Nat}{W:C->Bool}(hw:w<=5)(hh:h<=5)
def sg(w h:Nat)(W:C->Bool)(s:C)(u:List Nat)(c:C):Nat:=if(bV w h W s u).contains c=true then(if W c=true then 35 else 46)else 63
theorem Xx{s c:C}{u:List Nat}(e:dR w h c=true):qQ [none,some (aB c)] (wk w h W s u)=some (.str (ws (sg w h W s u c)),wk w h W s u):=by
 have a:=xK (W:=W) e
 have t:sM (rO (fF true) (OB.rP (eV 1)) (nN 0 l7)) [.no,.dat (aB c)] [wk w h W s u]=some (!(bV w h W s u).contains c,[wk w h W s u]):=by
  show((((some (aB c)).bind fun x=>(l7 (wk w h W s u)).bind fun y=>fF true x y)).bind fun d=>(eJ d).bind fun b=>some (b,[wk w h W s u]))=_
  rw [Qc,Kr,Qc,AB];rfl
 refine oO (Ω:=[]) rfl ?_;unfold Cz;rw [show fB 2 [none,some (aB c)]=[.no,.dat (aB c)]from rfl];unfold sg
 cases q:(bV w h W s u).contains c with
 | false=>
  rw [q]at t;rw [if_neg Qv]
  have:bP (cV (sM (rO (fF true) (OB.rP (eV 1)) (nN 0 l7))) (cL (xP (eC (.str "?")))) eW) (cL (vQ (xB (mB i1 (dM (gO 0 iK) (dM (xP (eV 1)) gU)))) (xP (eC (.str "#"))) (xP (eC (.str "."))))) [.no,.dat (aB c)] [wk w h W s u]=some (.rt (.str "?") [wk w h W s u]):=by
   unfold bP;rw [An t (j3 (rP rfl))];rfl
  exact this.trans rfl
 | true=>
  rw [q]at t;rw [if_pos rfl];refine cQ (lF t) (j3 ?_);have b:xB (mB i1 (dM (gO 0 iK) (dM (xP (eV 1)) gU))) [.no,.dat (aB c)] [wk w h W s u]=some (W c,[wk w h W s u]):=rB (BO (iW (qC rfl rfl) (iW (rP rfl) rfl)) a);unfold vQ;rw [b]
  cases W c <;> rfl
theorem Gm{B:Type}{c:Type}{i:Nat}{ge:GX B D}{Ω:List B}(item f:c->D)(I:aA->Prop):∀(xs:List c) (ρ:aA),I ρ->(∀ a∈xs,∀ ρ,I ρ->I (ρ.set i (.dat (item a)))/\ge (ρ.set i (.dat (item a))) Ω=some (f a,Ω))->tO i ge (xs.map item) ρ Ω=some (xs.map f,Ω)
 | [],_,_,_=>rfl
 | a::xs,ρ,h0,hs=>by
  obtain⟨g,e⟩:=hs a Qh ρ h0;rw [Qk];unfold tO;rw [e,Qc,Gm item f I xs _ g fun b d=>hs b (Qg _ d)];rfl
theorem D9{B:Type}{b:Type}{i:Nat}{ge:GX B D}{gi:GX B (List D)}{inner:List (Option Nat)}{ρ:aA}{Ω Ω1:List B}{xs:List b}(item f:b->D)(I:aA->Prop)(d:gi ρ Ω=some (xs.map item,Ω1))(c:xs.length<=1000)(e:I (fV inner ρ))
  (hs:∀ a∈xs,∀ ρ,I ρ->I (ρ.set i (.dat (item a)))/\ge (ρ.set i (.dat (item a))) Ω1=some (f a,Ω1)):qM gi i ge inner ρ Ω=some (.list (xs.map f),Ω1):=by
 unfold qM;rw [d,Qc,Gm item f I xs _ e hs,Qc,if_pos ⟨by rw [Qd];exact c,rfl⟩]
theorem KM{b:Type}(f:b->Str)(l:List b):oW (l.map fun x=>J8 (f x))=some (l.map f):=by
 induction l with
 | nil=>rfl
 | cons a l c=>
  rw [Qk];unfold oW;rw [c];rfl
def fL(w h:Nat)(W:C->Bool)(s:C)(u:List Nat)(y:Nat):List Nat:=(JZ w).map fun(x:Nat)=>sg w h W s u ((x:Int),(y:Int))
theorem Hl:∀ l:List Nat,jN [] (l.map fun x=>[x])=l
 | []=>rfl
 | [a]=>rfl
 | a::b::r=>by
  show [a]++[]++jN [] ((b::r).map fun x=>[x])=_
  rw [Hl (b::r)];rfl
theorem Tg(l:List Nat):Txt.join "" (l.map ws)=bZ l:=by
 refine Ld ?_;rw [Bx,Q3]
 have:(tl ∘ ws)=fun x=>[x]:=rfl
 rw [this]
 show jN [] _=_
 rw [Hl];unfold tl bZ;simp
end
end My
namespace My
open PySem.SeqAt L2 DL OB SD SL EL DC TB TX KP EX
open Builtin Builtin.Str
theorem KT:∀ l:List Nat,((l.map ws).map (·.length)).sum=l.length
 | []=>rfl
 | a::l=>by
  rw [Qk,Qk,List.sum_cons,KT l,Qo]
  show 1+_=_
  lia
theorem KR{k:Nat}:∀{l:List Str},(∀ x∈l,x.length<=k)->(l.map (·.length)).sum<=l.length * k
 | [],_=>by simp
 | a::l,h=>by
  rw [Qk,List.sum_cons,Qo,Nat.succ_mul];have d:=h a Qh;have c:=KR (l:=l) fun x b=>h x (Qg _ b);lia
section
variable {w h:Nat}{W:C->Bool}(hw:w<=5)(hh:h<=5)
include hw hh
theorem zSl{s:C}{u:List Nat}{y:Nat}(l:y<h):qP [none,some (.int (y:Int))] (wk w h W s u)=some (.str (bZ (fL w h W s u y)),wk w h W s u):=by
 refine oO (Ω:=[]) rfl (j3 ?_);rw [show fB 2 [none,some (J0 (y:Int))]=[.no,.dat (.int (y:Int))]from rfl]
 have g:nQ (dM (cU aO (gO 0 iK) (xP (eC (.int 0)))) gU) [.no,.dat (.int (y:Int))] [wk w h W s u]=some ((JZ w).map fun(x:Nat)=>J0 (x:Int),[wk w h W s u]):=by
  have j:dM (cU aO (gO 0 iK) (xP (eC (.int 0)))) gU [.no,.dat (.int (y:Int))] [wk w h W s u]=some ([.int (w:Int)],[wk w h W s u]):=iW (jI (qC rfl rfl) (rP rfl) (Du w h W)) rfl;unfold nQ;rw [j,Qc]
  show(j0 [.int (w:Int)]).bind _=_
  rw [wY w (by lia)];rfl
 have k:=D9 (i:=0) (inner:=[none,some 0,some 1]) (ge:=cO 0 qQ (aC (cH (aC (eV 0) (aC (eV 2) aG))) aG)) (fun(x:Nat)=>J0 (x:Int)) (fun(x:Nat)=>J8 (ws (sg w h W s u ((x:Int),(y:Int))))) (fun a=>∃ c,a=[c,.no,.dat (.int (y:Int))]) g (by rw [QM];lia) ⟨_,rfl⟩ (by
  rintro x d a ⟨c,rfl⟩;have d:=QP.mp d;have f:dR w h ((x:Int),(y:Int))=true:=oP.mpr ⟨by show(0:Int)<=x;lia,by show(x:Int)<w;lia,by show(0:Int)<=y;lia,by show(y:Int)<h;lia⟩
  exact⟨⟨_,rfl⟩,(mW (ds:=[aB ((x:Int),(y:Int))]) (b:=wk w h W s u) rfl rfl (Xx f)).trans rfl⟩)
 refine jI (rP rfl) k ?_
 show(oW _).bind _=_
 rw [KM,Qc]
 have e:((JZ w).map fun(x:Nat)=>ws (sg w h W s u ((x:Int),(y:Int))))=(fL w h W s u y).map ws:=by unfold fL;rw [Q3];rfl
 rw [e,KT,Tg,if_pos];rw [QF,decide_eq_true_eq,decide_eq_true_eq,Qd]
 have:(fL w h W s u y).length<=5:=by unfold fL;rw [Qd,QM];exact hw
 exact⟨by lia,by decide⟩
def cM(w h:Nat)(W:C->Bool)(s:C)(u:List Nat):List Str:=(JZ h).map fun y=>bZ (fL w h W s u y)
theorem BR(s:C)(u:List Nat)(y:Nat):(fL w h W s u y).length=w:=by unfold fL;rw [Qd,QM]
theorem RI(s:C)(u:List Nat):qN [none] (wk w h W s u)=some (.str (Txt.join "\n" (cM w h W s u)),wk w h W s u):=by
 refine oO (Ω:=[]) rfl (j3 ?_);rw [show fB 1 [none]=[.no]from rfl]
 have g:nQ (dM (cU aO (gO 0 iK) (xP (eC (.int 1)))) gU) [.no] [wk w h W s u]=some ((JZ h).map fun(x:Nat)=>J0 (x:Int),[wk w h W s u]):=by
  have j:dM (cU aO (gO 0 iK) (xP (eC (.int 1)))) gU [.no] [wk w h W s u]=some ([.int (h:Int)],[wk w h W s u]):=iW (jI (qC rfl rfl) (rP rfl) (Dv w h W)) rfl;unfold nQ;rw [j,Qc]
  show(j0 [.int (h:Int)]).bind _=_
  rw [wY h (by lia)];rfl
 have m:=D9 (i:=0) (inner:=[none,some 0]) (ge:=cO 0 qP (aC (eV 0) aG)) (fun(x:Nat)=>J0 (x:Int)) (fun(y:Nat)=>J8 (bZ (fL w h W s u y))) (fun a=>∃ c,a=[c,.no]) g (by rw [QM];lia) ⟨_,rfl⟩ (by
  rintro y e a ⟨c,rfl⟩
  exact⟨⟨_,rfl⟩,(mW (ds:=[.int (y:Int)]) (b:=wk w h W s u) rfl rfl (zSl hw hh (QP.mp e))).trans rfl⟩)
 refine jI (rP rfl) m ?_
 show(oW _).bind _=_
 rw [KM,Qc,if_pos]
 ·rfl
 rw [QF,decide_eq_true_eq,decide_eq_true_eq]
 have d:=KR (k:=5) (l:=(JZ h).map fun y=>bZ (fL w h W s u y)) fun x f=>by
  obtain⟨y,_,rfl⟩:=QO.mp f;rw [oZ,BR hw hh];exact hw
 rw [Qd,QM]at d ⊢
 exact⟨by lia,by decide⟩
theorem zSo(i:0<h)(s:C)(u:List Nat):vW (.str (Txt.join "\n" (cM w h W s u))) (.str "\n")=some (.list ((cM w h W s u).map .str)):=by
 have g:∃ p ps,cM w h W s u=p::ps:=by
  unfold cM
  cases h with
  | zero=>lia
  | succ n=>rw [List.range_succ_eq_map,Qk];exact⟨_,_,rfl⟩
 have d:∀ p∈(cM w h W s u).map tl,10∉p:=by
  intro p c z;obtain⟨r,b,rfl⟩:=QO.mp c;obtain⟨y,_,rfl⟩:=QO.mp b
  have z:10∈fL w h W s u y:=by
   unfold tl bZ at z
   simpa using z
  obtain⟨x,_,e⟩:=QO.mp z;unfold sg at e
  split at e
  ·split at e <;> cases e
  ·cases e
 have f:(Txt.join "\n" (cM w h W s u)).length<=1000:=by
  rw [<- oY,Bx];refine Qr (Hk _ (B:=5) fun p c=>?_) ?_
  ·obtain⟨r,b,rfl⟩:=QO.mp c;obtain⟨y,_,rfl⟩:=QO.mp b;rw [oY,oZ,BR hw hh];exact hw
  ·rw [Qd];unfold cM;rw [Qd,QM]
   show h * (5+1)<=1000
   lia
 have a:tl (Zr "\n")=[10]:=by decide
 obtain⟨p,ps,e⟩:=g;rw [e]at d f ⊢
 show(if(decide (0<(Zr "\n").length) && decide ((Txt.join "\n" (p::ps)).length<=1000))=true then some (ZD ((Txt.split (Txt.join "\n" (p::ps)) "\n").map .str))else none)=_
 rw [if_pos (by rw [QF,decide_eq_true_eq,decide_eq_true_eq];exact⟨by decide,f⟩),XX (by decide) (by decide +kernel) (by rw [a];exact Fa d)]
end
end My
namespace My
open PySem.SeqAt L2 DL OB SD SL EL DC TB TX KP EX
theorem LS(u:List Nat)(x:Nat)(h:u.length<=1000):oG (.str (bZ u)) (.str (ws x))=some (.str (bZ (u++[x]))):=by
 show(if decide ((bZ u).length+(ws x).length<=1000000)=true then some (J8 (bZ u++ws x))else none)=_
 have a:(ws x).length=1:=rfl;rw [oZ,a,if_pos (decide_eq_true (by lia))]
 have:bZ u++ws x=bZ (u++[x]):=by
  show(⟨u.toArray++#[x]⟩:Str)=⟨(u++[x]).toArray⟩
  simp
 rw [this]
theorem OU{B:Type}{g1 a:GS B}{ρ:aA}{Ω Ω1:List B}{d:D}(h:g1 ρ Ω=some (.rt d Ω1)):bP g1 a ρ Ω=some (.rt d Ω1):=by
 unfold bP;rw [h];rfl
theorem EA(u:List Nat):back u=u.reverse.map eY:=by unfold back;rw [List.map_reverse]
section
variable {w h:Nat}{W:C->Bool}
theorem Tu{c:List C}{a:C}(q:∀ b∈vw w h W a,b∈c):((vw w h W a).filter fun b => !c.contains b)=[]:=by
 rw [List.filter_eq_nil_iff];intro b d;rw [QC.mpr (q b d)];simp
theorem Xu(s:C)(u:List Nat)(x:Nat):((vw w h W (bH (fin s u) x)).filter fun b => !(bV w h W s u).contains b)=(kc w h W s (u++[x])).filter fun b => !(kc w h W s u).contains b:=by
 unfold vw kc;rw [Jv,Jv];refine Jk fun b e=>?_;have a:=fP.mp e
 have f:((cells w h).filter fun c=>(bV w h W s u).contains c).contains b=(bV w h W s u).contains b:=by
  rw [YE,QC,QC];exact Ce
 rw [f]
 cases q:(bV w h W s u).contains b with
 | true=>rfl
 | false=>
  show(true && clear (bB w h W) (bH (fin s u) x) b)=(true && (bV w h W s (u++[x])).contains b)
  rw [Yz,Yz,YE,QC,Ht,GW]
  have d:b∉bV w h W s u:=fun z=>by rw [QC.mpr z]at q;cases q
  exact⟨fun z=>.inr (pY.mpr ⟨a,z⟩),fun z=>(pY.mp (z.resolve_left d)).2⟩
def j1(w h:Nat)(s:C)(u:List Nat):List C:=(cells w h).filter fun c=>(vis s u).contains c
def cZ(w h:Nat)(W:C->Bool)(s:C)(u:List Nat):List C:=(j1 w h s u).flatMap (vw w h W)
theorem yB{s c:C}{u:List Nat}(p:Pt (bE w h W) s u (fin s u)):c∈j1 w h s u ↔ c∈vis s u:=by
 unfold j1;rw [Q8,QC,fP]
 exact⟨fun q=>q.2,fun q=>⟨(iV.mp (p.i c q)).1,q⟩⟩
theorem Cf{s c:C}{u:List Nat}(p:Pt (bE w h W) s u (fin s u)):c∈cZ w h W s u ↔ c∈bV w h W s u:=by
 unfold cZ;rw [List.mem_flatMap,lC]
 exact⟨fun⟨a,h1,h2⟩=>⟨a,(yB p).mp h1,h2⟩,fun⟨a,h1,h2⟩=>⟨a,(yB p).mpr h1,h2⟩⟩
theorem Ez{s:C}{u v:List Nat}{t:List Nat}(p:Pt (bE w h W) s u (fin s u))(e:back u=v++t):fin s (u++v)∈vis s u:=by
 have:=(Cu s u p.w).2
 rw [AM,<- List.mem_reverse,<- this,e];exact Ct _ v t _ (Fn _ _)
theorem Hr{s:C}{u v t:List Nat}(p:Pt (bE w h W) s u (fin s u))(e:back u=v++t)(b:C):b∈bV w h W s (u++v) ↔ b∈bV w h W s u:=by
 refine⟨fun q=>?_,VN⟩
 obtain⟨a,i,g⟩:=lC.mp q
 have sub:∀(v t:List Nat),back u=v++t->∀ a∈vis s (u++v),a∈vis s u:=by
  intro v;generalize hn:v.length=n
  induction n generalizing v with
  | zero=>
   intro t _ a c
   have:v=[]:=List.length_eq_zero_iff.mp hn
   subst this;rw [QG]at c;exact c
  | succ n f=>
   intro t e a c;rcases VQ v with rfl | ⟨d,x,rfl⟩
   ·cases hn
   ·rw [<- Qw,qK]at c;rcases QE.mp c with c | c
    ·exact f d (by simpa using hn) (x::t) (by rw [e,Qw];rfl) a c
    ·rw [Qy.mp c,<- rD,Qw];exact Ez p e
 exact lC.mpr ⟨a,sub v t e a i,g⟩
end
def lA(ns:List Int)(w h:Nat)(W:C->Bool)(u:List Nat)(l k j i g f e d c b a:Sl):aA:=[.dat (c6 ns),.dat (aZ w h W),.dat (.list ((bE w h W).map aB)),.no,.dat (.str (bZ u)),l,k,j,i,g,f,e,d,c,b,a]
end My
namespace My
open PySem.SeqAt L2 DL OB SD SL EL DC TB TX KP EX
section
variable {ns:List Int}(hn:ns.length<=63){w h:Nat}{W:C->Bool}(hw:w<=5)(hh:h<=5){c:C}
theorem kx(w h:Nat)(W:C->Bool)(a:w<=5)(d:h<=5)(c:C)(u:List Nat)(ρ:aA):cO 0 fO aG ρ [wk w h W c u]=some (.list ((kc w h W c u).map aB),[wk w h W c u]):=(mW (ds:=[]) (b:=wk w h W c u) rfl rfl (VP a d c u)).trans rfl
theorem gx{c:C}{u:List Nat}{d:D}{a:W3}{x:Nat}{ga:aA->Option D}{ρ:aA}(f:ga ρ=some (.str (ws x)))(e:mE [none,some (.str (ws x))] (wk w h W c u)=some (d,a)):iC 0 jL (iA (hZ ga iQ)) ρ [wk w h W c u]=some (d,[a]):=by
 refine(NO (os:=[none,some (.str (ws x))]) (b:=wk w h W c u) (r:=(d,a)) ?_ rfl e).trans rfl
 unfold iA hZ;rw [f];rfl
inductive L1(ns:List Int)(w h:Nat)(W:C->Bool)(c:C)(n:Nat)(ρ:aA)(Ω:List W3):Prop
 | mk (u:List Nat) (s5 s6 s7 s8:Sl) (er:ρ=lA ns w h W u s5 s6 s7 s8 .no .no .no .no .no .no .no) (eo:Ω=[wk w h W c u]) (p:Pt (bE w h W) c u (fin c u)) (hl:u.length<=n):L1 ns w h W c n ρ Ω
include hn hw hh
theorem M0(n:Nat)(K:n<=10)(F:c∈bE w h W):∃ ρ' Ω',lI 5 (bP (b9 6 (xP (aF gS (eC (.str "nesw")) (aR e8 (aC (eV 0) (aC (aF bM (eC (.int 61)) (eV 5)) (aC (eC (.int 4)) aG)))))))
  (bP (b9 7 (cO 0 fO aG))
  (bP (b9 8 (iC 0 jL (iA (hZ (eV 6) iQ))))
  (cV (xP (eB (aF rV (eV 8) (eC .none)))) (cV (xB (cU cA (cO 0 fO aG) (xP (eV 7)))) (cL (xP (eC (.bool false)))) eW) (bP (b9 4 (xP (aF oG (eV 4) (eV 6))))
  (cV (xB (cU cA (xP (eV 8)) (kH (l4 (cO 0 fO aG)) 0 (xP (eB (aF (dG true) (eV 0) (eV 1)))) (eV 0) [none,some 7]))) (cL (xP (eC (.bool false)))) eW)))))) ((JZ n).map fun(k:Nat)=>J0 (k:Int)) (lA ns w h W [] .no .no .no .no .no .no .no .no .no .no .no) [wk w h W c []]=some (.nx ρ' Ω')/\L1 ns w h W c n ρ' Ω':=by
 obtain⟨ρ',Ω',e,l⟩:=wM (i:=5) (g:=(bP (b9 6 (xP (aF gS (eC (.str "nesw")) (aR e8 (aC (eV 0) (aC (aF bM (eC (.int 61)) (eV 5)) (aC (eC (.int 4)) aG)))))))
  (bP (b9 7 (cO 0 fO aG))
  (bP (b9 8 (iC 0 jL (iA (hZ (eV 6) iQ))))
  (cV (xP (eB (aF rV (eV 8) (eC .none)))) (cV (xB (cU cA (cO 0 fO aG) (xP (eV 7)))) (cL (xP (eC (.bool false)))) eW) (bP (b9 4 (xP (aF oG (eV 4) (eV 6))))
  (cV (xB (cU cA (xP (eV 8)) (kH (l4 (cO 0 fO aG)) 0 (xP (eB (aF (dG true) (eV 0) (eV 1)))) (eV 0) [none,some 7]))) (cL (xP (eC (.bool false)))) eW))))))) (fun(k:Nat)=>J0 (k:Int)) (fun o ρ z=>L1 ns w h W c o.length ρ z) (JZ n) [] (lA ns w h W [] .no .no .no .no .no .no .no .no .no .no .no) [wk w h W c []] (by
  rintro o k B ρ z N ⟨u,S,s,m,a,rfl,rfl,p,J⟩
  have T:o.length<=10:=by
   have:=congrArg ZO N
   rw [YD,QM,Qm]at this;lia
  obtain⟨O,q,I⟩:=rA ns hn (61+(k:Int)) 4 (by decide);obtain⟨x,v,M⟩:=M8 q I;have G:xP (aF gS (eC (.str "nesw")) (aR e8 (aC (eV 0) (aC (aF bM (eC (.int 61)) (eV 5)) (aC (eC (.int 4)) aG))))) (lA ns w h W u (.dat (.int (k:Int))) s m a .no .no .no .no .no .no .no) [wk w h W c u]=some (.str (ws x),[wk w h W c u]):=rP (oo rfl (bG rfl O) M);by_cases y:bH (fin c u) x∈bE w h W
  ·have g:=E9 hw hh F v y (by lia)
   have H:Pt (bE w h W) c (u++[x]) (fin c (u++[x])):=by rw [rD];exact p.snoc v y
   have Q:=Bf (t:=xP (eB (aF (dG true) (eV 0) (eV 1)))) (ge:=eV 0) (inner:=[none,some 7]) (i:=0) (ρ:=lA ns w h W (u++[x]) (.dat (.int (k:Int))) (.dat (.str (ws x))) (.dat (.list ((kc w h W c u).map aB))) (.dat (.list (((vw w h W (bH (fin c u) x)).filter fun b => !(bV w h W c u).contains b).map aB))) .no .no .no .no .no .no .no) (xs:=kc w h W c (u++[x])) (Ω1:=[wk w h W c (u++[x])]) aB (fun b => !(kc w h W c u).contains b) aB (fun ρ=>∃ A,ρ=[A,.dat (.list ((kc w h W c u).map aB))]) (zN (kx w h W hw hh c (u++[x]) _) rfl) (Qr (tN hw hh _) (by decide)) ⟨_,rfl⟩ (by
    rintro b _ ρ ⟨A,rfl⟩
    exact⟨⟨_,rfl⟩,rP (oB (oo rfl rfl (Dx true b (kc w h W c u)))),fun _=>rfl⟩)
   have E:=uK ((vw w h W (bH (fin c u) x)).filter fun b => !(bV w h W c u).contains b) ((kc w h W c (u++[x])).filter fun b => !(kc w h W c u).contains b);rw [decide_eq_true (Xu c u x)]at E
   refine⟨lA ns w h W (u++[x]) (.dat (.int (k:Int))) (.dat (.str (ws x))) (.dat (.list ((kc w h W c u).map aB))) (.dat (.list (((vw w h W (bH (fin c u) x)).filter fun b => !(bV w h W c u).contains b).map aB))) .no .no .no .no .no .no .no,[wk w h W c (u++[x])],?_,u++[x],_,_,_,_,rfl,rfl,H,by rw [Qm,Qm];exact Nat.add_le_add_right J _⟩
   have j:b9 6 (xP (aF gS (eC (.str "nesw")) (aR e8 (aC (eV 0) (aC (aF bM (eC (.int 61)) (eV 5)) (aC (eC (.int 4)) aG)))))) (lA ns w h W u (.dat (.int (k:Int))) s m a .no .no .no .no .no .no .no) [wk w h W c u]=some (.nx (lA ns w h W u (.dat (.int (k:Int))) (.dat (.str (ws x))) m a .no .no .no .no .no .no .no) [wk w h W c u]):=e7 G;have f:b9 7 (cO 0 fO aG) (lA ns w h W u (.dat (.int (k:Int))) (.dat (.str (ws x))) m a .no .no .no .no .no .no .no) [wk w h W c u]=some (.nx (lA ns w h W u (.dat (.int (k:Int))) (.dat (.str (ws x))) (.dat (.list ((kc w h W c u).map aB))) a .no .no .no .no .no .no .no) [wk w h W c u]):=e7 (kx w h W hw hh c u _);have d:b9 8 (iC 0 jL (iA (hZ (eV 6) iQ))) (lA ns w h W u (.dat (.int (k:Int))) (.dat (.str (ws x))) (.dat (.list ((kc w h W c u).map aB))) a .no .no .no .no .no .no .no) [wk w h W c u]=some (.nx (lA ns w h W u (.dat (.int (k:Int))) (.dat (.str (ws x))) (.dat (.list ((kc w h W c u).map aB))) (.dat (.list (((vw w h W (bH (fin c u) x)).filter fun b => !(bV w h W c u).contains b).map aB))) .no .no .no .no .no .no .no) [wk w h W c (u++[x])]):=e7 (gx rfl g);have r:b9 4 (xP (aF oG (eV 4) (eV 6))) (lA ns w h W u (.dat (.int (k:Int))) (.dat (.str (ws x))) (.dat (.list ((kc w h W c u).map aB))) (.dat (.list (((vw w h W (bH (fin c u) x)).filter fun b => !(bV w h W c u).contains b).map aB))) .no .no .no .no .no .no .no) [wk w h W c (u++[x])]=some (.nx (lA ns w h W (u++[x]) (.dat (.int (k:Int))) (.dat (.str (ws x))) (.dat (.list ((kc w h W c u).map aB))) (.dat (.list (((vw w h W (bH (fin c u) x)).filter fun b => !(bV w h W c u).contains b).map aB))) .no .no .no .no .no .no .no) [wk w h W c (u++[x])]):=e7 (rP (oo rfl rfl (LS u x (by lia))));exact cQ j (cQ f (cQ d (OS (Ω1:=[wk w h W c (u++[x])]) (rP (oB (oo rfl rfl rfl))) (cQ r (lF (rB (jI (rP rfl) Q E)))))))
  ·have g:=TF hw hh p.stop v y;have q:=uK (kc w h W c u) (kc w h W c u);rw [decide_eq_true rfl]at q
   refine⟨lA ns w h W u (.dat (.int (k:Int))) (.dat (.str (ws x))) (.dat (.list ((kc w h W c u).map aB))) (.dat .none) .no .no .no .no .no .no .no,[wk w h W c u],?_,u,_,_,_,_,rfl,rfl,p,by rw [Qm];lia⟩
   have j:b9 6 (xP (aF gS (eC (.str "nesw")) (aR e8 (aC (eV 0) (aC (aF bM (eC (.int 61)) (eV 5)) (aC (eC (.int 4)) aG)))))) (lA ns w h W u (.dat (.int (k:Int))) s m a .no .no .no .no .no .no .no) [wk w h W c u]=some (.nx (lA ns w h W u (.dat (.int (k:Int))) (.dat (.str (ws x))) m a .no .no .no .no .no .no .no) [wk w h W c u]):=e7 G;have f:b9 7 (cO 0 fO aG) (lA ns w h W u (.dat (.int (k:Int))) (.dat (.str (ws x))) m a .no .no .no .no .no .no .no) [wk w h W c u]=some (.nx (lA ns w h W u (.dat (.int (k:Int))) (.dat (.str (ws x))) (.dat (.list ((kc w h W c u).map aB))) a .no .no .no .no .no .no .no) [wk w h W c u]):=e7 (kx w h W hw hh c u _);have d:b9 8 (iC 0 jL (iA (hZ (eV 6) iQ))) (lA ns w h W u (.dat (.int (k:Int))) (.dat (.str (ws x))) (.dat (.list ((kc w h W c u).map aB))) a .no .no .no .no .no .no .no) [wk w h W c u]=some (.nx (lA ns w h W u (.dat (.int (k:Int))) (.dat (.str (ws x))) (.dat (.list ((kc w h W c u).map aB))) (.dat .none) .no .no .no .no .no .no .no) [wk w h W c u]):=e7 (gx rfl g)
   exact cQ j (cQ f (cQ d (An (Ω1:=[wk w h W c u]) (rP (oB (oo rfl rfl rfl))) (lF (rB (jI (kx w h W hw hh c u _) (rP rfl) q))))))) ⟨[],_,_,_,_,rfl,rfl,Pt.nil F,Qj _⟩
 rw [YD,QM]at l
 exact⟨ρ',Ω',e,l⟩
end
end My
namespace My
open PySem.SeqAt L2 DL OB SD SL EL DC TB TX KP EX
theorem Oj(w h:Nat)(W:C->Bool)(s:C)(u:List Nat)(c:C):Zw (.str (ws (sg w h W s u c)))=true:=by
 unfold sg;split
 ·split <;> decide +kernel
 ·decide +kernel
theorem Ca{f:C->List C}(b:∀ a,(f a).length<=25):∀ l:List C,(l.flatMap f).length<=l.length * 25
 | []=>QR _
 | a::l=>by
  rw [List.flatMap_cons,Qm,Qo,Nat.succ_mul]
  have:=b a
  have:=Ca b l
  lia
section
variable {ns:List Int}{w h:Nat}{W:C->Bool}(hw:w<=5)(hh:h<=5){c:C}
include hw hh
theorem M1{u:List Nat}(p:Pt (bE w h W) c u (fin c u))(m l k j d:Sl):∃ s11,lI 11 (b9 10 (xP (aF bM (eV 10) (aR gW (aC (eV 1) (aC (eV 11) aG)))))) ((j1 w h c u).map aB) (lA ns w h W u m l k j d (.dat (.list [])) .no .no .no .no .no) [wk w h W c u]=some (.nx (lA ns w h W u m l k j d (.dat (.list ((cZ w h W c u).map aB))) s11 .no .no .no .no) [wk w h W c u]):=by
 obtain⟨s,t,e,⟨s11,rfl⟩,rfl⟩:=wM (i:=11) (g:=b9 10 (xP (aF bM (eV 10) (aR gW (aC (eV 1) (aC (eV 11) aG)))))) aB (fun b o q=>(∃ s11,o=lA ns w h W u m l k j d (.dat (.list ((b.flatMap (vw w h W)).map aB))) s11 .no .no .no .no)/\q=[wk w h W c u]) (j1 w h c u) [] (lA ns w h W u m l k j d (.dat (.list [])) .no .no .no .no .no) [wk w h W c u] (by
  rintro b a r o q n ⟨⟨s11,rfl⟩,rfl⟩;rw [YD]at n
  have B:a∈j1 w h c u:=by rw [n];exact Qz _ Qh
  have A:=p.i a ((yB p).mp B);obtain⟨y,x⟩:=iV.mp A;have z:gW [aZ w h W,aB a]=some (.list ((vw w h W a).map aB)):=AU hw hh y x;have tl:(j1 w h c u).length<=25:=tN hw hh _
  have F:b.length<=25:=by rw [n,Qm]at tl;lia
  have H:=Ca (f:=vw w h W) (fun a=>qL hw hh a) b;have G:=qL hw hh (W:=W) a;have E:=LR (b.flatMap (vw w h W)) (vw w h W a) (by lia);have v:b9 10 (xP (aF bM (eV 10) (aR gW (aC (eV 1) (aC (eV 11) aG))))) (lA ns w h W u m l k j d (.dat (.list ((b.flatMap (vw w h W)).map aB))) (.dat (aB a)) .no .no .no .no) [wk w h W c u]=some (.nx (lA ns w h W u m l k j d (.dat (.list ((b.flatMap (vw w h W)++vw w h W a).map aB))) (.dat (aB a)) .no .no .no .no) [wk w h W c u]):=e7 (rP (oo rfl (bG rfl z) E))
  refine⟨_,_,v,⟨.dat (aB a),?_⟩,rfl⟩
  rw [List.flatMap_append,List.flatMap_singleton]) ⟨⟨.no,rfl⟩,rfl⟩
 exact⟨s11,e⟩
theorem M2{u:List Nat}(p:Pt (bE w h W) c u (fin c u))(N:u.length<=10)(o q n m l f d:Sl):∃ s6',lI 6 (cV (xB (cU cA (iC 0 jL (iA (hZ (aF gS (eC (.str "swne")) (aF mH (eC (.str "nesw")) (eV 6))) iQ))) (xP (gJ aG)))) (cL (xP (eC (.bool false)))) eW) (u.reverse.map fun x=>J8 (ws x)) (lA ns w h W u o q n m l f d .no .no .no .no) [wk w h W c u]=some (.nx (lA ns w h W u o s6' n m l f d .no .no .no .no) [wk w h W c (u++back u)]):=by
 obtain⟨B,E,e,⟨s6',rfl⟩,rfl⟩:=wM (i:=6) (g:=cV (xB (cU cA (iC 0 jL (iA (hZ (aF gS (eC (.str "swne")) (aF mH (eC (.str "nesw")) (eV 6))) iQ))) (xP (gJ aG)))) (cL (xP (eC (.bool false)))) eW) (fun x=>J8 (ws x)) (fun a y z=>(∃ q,y=lA ns w h W u o q n m l f d .no .no .no .no)/\z=[wk w h W c (u++a.map eY)]) u.reverse [] (lA ns w h W u o q n m l f d .no .no .no .no) [wk w h W c u] (by
  rintro a x j y z r ⟨⟨q,rfl⟩,rfl⟩;rw [YD]at r
  have bk:back u=(a.map eY++[eY x])++j.map eY:=by rw [EA,r,QX,Qk,Qw];rfl
  have t:back u=a.map eY++(eY x::j.map eY):=by rw [bk,Qw];rfl
  have F:x∈u:=by rw [<- List.mem_reverse,r];exact Qz _ Qh
  have A:=p.w x F;have s:=(Ix A c).1;have v:=Ez p bk;rw [<- Qw,rD]at v;have J:=p.i _ v
  have len:(u++a.map eY).length<990:=by
   have:=congrArg ZO r
   rw [List.length_reverse,Qm,Qo]at this;rw [Qm,Qd];lia
  have g:=E9 hw hh p.start s J len;rw [Tu fun b K=>(Hr p t b).mpr (lC.mpr ⟨_,v,K⟩)]at g;obtain⟨k,I,H⟩:=NF A;have G:=uK [] [];have M:iC 0 jL (iA (hZ (aF gS (eC (.str "swne")) (aF mH (eC (.str "nesw")) (eV 6))) iQ)) (lA ns w h W u o (.dat (.str (ws x))) n m l f d .no .no .no .no) [wk w h W c (u++a.map eY)]=some (.list (([]:List C).map aB),[wk w h W c (u++a.map eY++[eY x])]):=gx (oo rfl (oo rfl rfl I) H) g
  refine⟨lA ns w h W u o (.dat (.str (ws x))) n m l f d .no .no .no .no,[wk w h W c (u++a.map eY++[eY x])],lF (rB (jI M (rP rfl) G)),⟨_,rfl⟩,?_⟩
  rw [QX,Qw]
  rfl) ⟨⟨_,rfl⟩,by rw [List.map_nil,QG]⟩
 rw [YD,<- EA]at e
 exact⟨s6',e⟩
theorem zSm{s:C}{u:List Nat}{y:Nat}(a:y<h):aO (.list ((cM w h W s u).map J8)) (.int (y:Int))=some (.str (bZ (fL w h W s u y))):=by
 have e:((cM w h W s u).map J8)[y]?=some (.str (bZ (fL w h W s u y))):=by
  unfold cM;rw [QH,QH,List.getElem?_range a];rfl
 have b:((cM w h W s u).map J8).length=h:=by unfold cM;rw [Qd,Qd,QM]
 show L2.atI ((cM w h W s u).map J8) (y:Int)=_
 unfold L2.atI L2.ixN;rw [if_pos (by lia),if_pos (by rw [b];lia)]
 show((cM w h W s u).map J8)[((y:Int)).toNat]?=_
 rw [Je];exact e
theorem M3{u:List Nat}(p:Pt (bE w h W) c u (fin c u))(m l k j i a:Sl):∃ s13 s14 s15,pT (kW 2 (gF (bX 13) (gF (bX 14) j2))) (bP (b9 15 (xP (kP (eB (aF (dG true) (cH (aC (eV 13) (aC (eV 14) aG))) (eV 10))) (eC (.str "?")) (aF aO (gJ (aC (eC (.str ".")) (aC (eC (.str "#")) aG))) (aR nE (aC (aF (dG false) (cH (aC (eV 13) (aC (eV 14) aG))) (aF aO (eV 1) (eC (.int 2)))) aG))))))
  (cV (xP (hW (eB (aF cA (pD (aF aO (eV 12) (eV 14)) (oE (eV 13)) (oE (aF bM (eV 13) (eC (.int 1))))) (eV 15))) (eB (aF cA (aR mI (aC (aF aO (eV 12) (eV 14)) aG)) (aF aO (eV 1) (eC (.int 0))))))) (cL (xP (eC (.bool false)))) eW)) ((cells w h).map aB) (lA ns w h W u m l k j i (.dat (.list ((cZ w h W c u).map aB))) a (.dat (.list ((cM w h W c (u++back u)).map J8))) .no .no .no) [wk w h W c (u++back u)]=some (.nx (lA ns w h W u m l k j i (.dat (.list ((cZ w h W c u).map aB))) a (.dat (.list ((cM w h W c (u++back u)).map J8))) s13 s14 s15) [wk w h W c (u++back u)]):=by
 obtain⟨A,e,s13,s14,s15,rfl⟩:=Dw (Ω:=[wk w h W c (u++back u)]) (s:=kW 2 (gF (bX 13) (gF (bX 14) j2))) (g:=bP (b9 15 (xP (kP (eB (aF (dG true) (cH (aC (eV 13) (aC (eV 14) aG))) (eV 10))) (eC (.str "?")) (aF aO (gJ (aC (eC (.str ".")) (aC (eC (.str "#")) aG))) (aR nE (aC (aF (dG false) (cH (aC (eV 13) (aC (eV 14) aG))) (aF aO (eV 1) (eC (.int 2)))) aG))))))
  (cV (xP (hW (eB (aF cA (pD (aF aO (eV 12) (eV 14)) (oE (eV 13)) (oE (aF bM (eV 13) (eC (.int 1))))) (eV 15))) (eB (aF cA (aR mI (aC (aF aO (eV 12) (eV 14)) aG)) (aF aO (eV 1) (eC (.int 0))))))) (cL (xP (eC (.bool false)))) eW)) aB (fun ρ=>∃ s13 s14 s15,ρ=lA ns w h W u m l k j i (.dat (.list ((cZ w h W c u).map aB))) a (.dat (.list ((cM w h W c (u++back u)).map J8))) s13 s14 s15) (cells w h) (lA ns w h W u m l k j i (.dat (.list ((cZ w h W c u).map aB))) a (.dat (.list ((cM w h W c (u++back u)).map J8))) .no .no .no) ⟨_,_,_,rfl⟩ (by
   rintro b N ρ ⟨s13,s14,s15,rfl⟩;have z:=fP.mp N;obtain⟨Y,U,X,T⟩:=oP.mp z;obtain⟨x,M⟩:∃ x:Nat,b.1=(x:Int):=⟨b.1.toNat,by lia⟩;obtain⟨y,K⟩:∃ y:Nat,b.2=(y:Int):=⟨b.2.toNat,by lia⟩;have S:b=((x:Int),(y:Int)):=Jf M K;subst S
   have o:x<w:=by have:(x:Int)<w:=U;lia
   have B:y<h:=by have:(y:Int)<h:=T;lia
   obtain⟨due,f⟩:∃ due,due=sg w h W c (u++back u) ((x:Int),(y:Int)):=⟨_,rfl⟩;have v:=zSm hw hh (W:=W) (s:=c) (u:=u++back u) B;have J:=Dx true ((x:Int),(y:Int)) (cZ w h W c u);have I:=u9 false ((x:Int),(y:Int)) w h W
   have H:(bV w h W c (u++back u)).contains ((x:Int),(y:Int))=(cZ w h W c u).contains ((x:Int),(y:Int)):=by
    rw [YE,QC,QC,Cf p];exact Hr p (t:=[]) (by rw [QG]) _
   have Q:kP (eB (aF (dG true) (cH (aC (eV 13) (aC (eV 14) aG))) (eV 10))) (eC (.str "?")) (aF aO (gJ (aC (eC (.str ".")) (aC (eC (.str "#")) aG))) (aR nE (aC (aF (dG false) (cH (aC (eV 13) (aC (eV 14) aG))) (aF aO (eV 1) (eC (.int 2)))) aG))) (lA ns w h W u m l k j i (.dat (.list ((cZ w h W c u).map aB))) a (.dat (.list ((cM w h W c (u++back u)).map J8))) (.dat (.int (x:Int))) (.dat (.int (y:Int))) s15)=some (.str (ws due)):=by
    have t:=oB (oo (vC (ga:=eV 13) (gb:=eV 14) (ρ:=lA ns w h W u m l k j i (.dat (.list ((cZ w h W c u).map aB))) a (.dat (.list ((cM w h W c (u++back u)).map J8))) (.dat (.int (x:Int))) (.dat (.int (y:Int))) s15) rfl rfl) (gb:=eV 10) rfl J);have d:=bG (G:=nE) (dO (gr:=aG) (oo (vC (ga:=eV 13) (gb:=eV 14) (ρ:=lA ns w h W u m l k j i (.dat (.list ((cZ w h W c u).map aB))) a (.dat (.list ((cM w h W c (u++back u)).map J8))) (.dat (.int (x:Int))) (.dat (.int (y:Int))) s15) rfl rfl) (oo (ga:=eV 1) (gb:=eC (.int 2)) rfl rfl (zB w h W)) I) rfl) rfl;unfold kP;rw [t,Qc];rw [f];unfold sg;rw [H]
    cases q:(cZ w h W c u).contains ((x:Int),(y:Int))with
    | false=>rfl
    | true=>
     rw [if_neg (by simp),if_pos rfl]
     have E:bB w h W ((x:Int),(y:Int))=W ((x:Int),(y:Int)):=by unfold bB;rw [z,Yz]
     rw [if_neg Qv,E]at d
     refine(oo (ga:=gJ (aC (eC (.str ".")) (aC (eC (.str "#")) aG))) rfl d ?_)
     cases W ((x:Int),(y:Int)) <;> rfl
   have n:=BR hw hh (W:=W) c (u++back u) y
   have F:(fL w h W c (u++back u) y)[x]'(by rw [n];exact o)=due:=by
    rw [f];unfold fL;simp
   have r:=XF (u:=fL w h W c (u++back u) y) (x:=x) (by rw [n];exact o) (by rw [n];exact hw);rw [F]at r
   have O:pD (aF aO (eV 12) (eV 14)) (oE (eV 13)) (oE (aF bM (eV 13) (eC (.int 1)))) (lA ns w h W u m l k j i (.dat (.list ((cZ w h W c u).map aB))) a (.dat (.list ((cM w h W c (u++back u)).map J8))) (.dat (.int (x:Int))) (.dat (.int (y:Int))) (.dat (.str (ws due))))=some (.str (ws due)):=by
    unfold pD;rw [oo (ga:=eV 12) (gb:=eV 14) rfl rfl v,Qc]
    show(if decide ((bZ (fL w h W c (u++back u) y)).length<=1000000)=true then some (J8 (Txt.slice (bZ (fL w h W c (u++back u) y)) (some (x:Int)) (some ((x:Int)+1))))else none)=_
    rw [oZ,n,if_pos (decide_eq_true (by lia)),r];rfl
   refine⟨lA ns w h W u m l k j i (.dat (.list ((cZ w h W c u).map aB))) a (.dat (.list ((cM w h W c (u++back u)).map J8))) (.dat (.int (x:Int))) (.dat (.int (y:Int))) s15,lA ns w h W u m l k j i (.dat (.list ((cZ w h W c u).map aB))) a (.dat (.list ((cM w h W c (u++back u)).map J8))) (.dat (.int (x:Int))) (.dat (.int (y:Int))) (.dat (.str (ws due))),rfl,?_,_,_,_,rfl⟩
   refine cQ (e7 (rP Q)) (lF (rP (zF (oB (oo O rfl (VD (by rw [f];exact Oj _ _ _ _ _ _)))) (oB (oo (bG (dO (oo rfl rfl v) rfl) (Hz (by rw [n];lia))) (oo rfl rfl (Du w h W)) ?_)))));rw [zE,n,beq_self_eq_true]
   rfl)
 exact⟨s13,s14,s15,e⟩
end
end My
namespace My
open PySem.SeqAt L2 DL OB SD SL EL DC TB TX KP EX
section
variable {ns:List Int}{w h:Nat}{W:C->Bool}(hw:w<=5)(hh:h<=5){c:C}
theorem W5{u:List Nat}(p:Pt (bE w h W) c u (fin c u)):((kc w h W c u).filter fun b => !bB w h W b)=(bE w h W).filter fun b=>(vis c u).any fun a=>fT (bB w h W) a b:=by
 unfold kc bE;rw [Jv,Jv];refine Jk fun b i=>?_;have d:=fP.mp i
 have g:bB w h W b=W b:=by unfold bB;rw [d,Yz]
 rw [g,Bool.and_comm (x:=(vis c u).any _)]
 cases q:W b with
 | true=>rfl
 | false=>
  rw [UB,Yz,Yz,YE,QC,lC,List.any_eq_true];constructor
  ·rintro⟨a,f,e⟩
   refine⟨a,f,?_⟩
   unfold fT;rw [g,q,UB,Yz]
   exact(pY.mp e).2
  ·rintro⟨a,f,e⟩
   unfold fT at e;rw [QF]at e
   exact⟨a,f,pY.mpr ⟨d,e.2⟩⟩
end
theorem main(ns:List Int)(O:ns.length<=63):lK [.list (ns.map J0)]=some (.bool true):=by
 obtain⟨w,h,W,E,w1,g,Q,j⟩:=Tp ns O 0 5 (by decide) (by decide);have E:qS [c6 ns,.int 0,.int 5]=some (aZ w h W):=E;have lo:=V6 (W:=W) g Q j;have ol:=BA g j W;have F:=Mr (bE w h W) [];have Z:∀(d:D) (Y:List W3),rY (cE 16 [ZD (ns.map J0)]) []=some (.rt d Y)->lK [.list (ns.map J0)]=some d:=fun d Y q=>Ts q;by_cases X:bE w h W=[]
 ·rw [decide_eq_true X]at F;refine Z _ [] ?_;unfold rY;rw [show cE 16 [ZD (ns.map J0)]=[.dat (c6 ns),.no,.no,.no,.no,.no,.no,.no,.no,.no,.no,.no,.no,.no,.no,.no]from rfl];exact cQ (e7 (rP (bG rfl E))) (cQ (e7 (rP (bG rfl lo))) (OU (An (rP (oB (oo rfl rfl F))) (j3 (rP rfl)))))
 rw [decide_eq_false X]at F
 have o0:0<((bE w h W).length:Int):=by
  cases q:bE w h W with
  | nil=>exact absurd q X
  | cons a l=>rw [Qo];lia
 have ln:eK [.list ((bE w h W).map aB)]=some (.int ((bE w h W).length:Int)):=by rw [uF,Qd]
 obtain⟨U,p0,p1⟩:=rA ns O 60 ((bE w h W).length:Int) o0;obtain⟨vA,N⟩:=DB p0 p1;generalize at0 (bE w h W) (dr ns 60 ((bE w h W).length:Int)).toNat=c at vA N
 obtain⟨n,B,en⟩:∃ n:Nat,n<=10/\aC (aR Bi (aC (eC (.int 1)) (aC (aR Bj (aC (eC (.int 10)) (aC (aR eK (aC (eV 0) aG)) aG))) aG))) aG (lA ns w h W [] .no .no .no .no .no .no .no .no .no .no .no)=some [.int (n:Int)]:=by
  have ls:eK [c6 ns]=some (.int (ns.length:Int)):=by unfold c6;rw [uF,Qd]
  obtain⟨y,hy⟩:∃ y:Int,y=if(ns.length:Int)<10 then(ns.length:Int)else 10:=⟨_,rfl⟩
  obtain⟨z,hz⟩:∃ z:Int,z=if y > 1 then y else 1:=⟨_,rfl⟩
  have a2:y<=10/\0<=y:=by rw [hy];split <;> lia
  have a1:z<=10/\0<=z:=by rw [hz];split <;> lia
  refine⟨z.toNat,by lia,dO (bG (dO rfl (dO (bG (dO rfl (dO (bG rfl ls) rfl)) (show _=some (J0 y)from by rw [hy];rfl)) rfl)) (show _=some (J0 ((z.toNat:Nat):Int))from ?_)) rfl⟩
  rw [show((z.toNat:Nat):Int)=z by lia,hz];rfl
 obtain⟨a0,Ω1,e1,u,r,v,o,k,rfl,rfl,p,hu⟩:=M0 (W:=W) O g j n B N
 have A:u.length<=10:=by lia
 obtain⟨e,e2⟩:=M1 (ns:=ns) g j p r v o k (.dat (.list ((vis c u).map aB)));obtain⟨s,e3⟩:=M2 (ns:=ns) g j p A r v o k (.dat (.list ((vis c u).map aB))) (.dat (.list ((cZ w h W c u).map aB))) e;obtain⟨K,J,I,e4⟩:=M3 (ns:=ns) g j p r s o k (.dat (.list ((vis c u).map aB))) e;have vl:=wL c u;have tl:(j1 w h c u).length<=25:=tN g j _;have kl:=Ca (f:=vw w h W) (fun a=>qL g j a) (j1 w h c u);have T:(hU (vis c u)).length<=63:=Qr (Hy _) (by lia)
 have S:(hU (cZ w h W c u)).length<=63:=by
  refine Qr (Bu (m:=cells w h) (yF _) fun b hb=>fP.mpr (B8 ((Cf p).mp (uJ.mp hb)))) ?_;rw [j9];exact Qr (YA g j) (by decide)
 have wx:∀ ρ:aA,cO 0 qR aG ρ [wk w h W c u]=some (.list ((vis c u).map aB),[wk w h W c u]):=fun ρ=>(mW (ds:=[]) (b:=wk w h W c u) rfl rfl (zTw c u)).trans rfl
 have fb:fin c (u++back u)=c:=by rw [AM];exact(Cu c u p.w).1
 have hx:∀ ρ:aA,cO 0 j6 aG ρ [wk w h W c (u++back u)]=some (aB c,[wk w h W c (u++back u)]):=fun ρ=>by
  have:=Cy (w:=w) (h:=h) (W:=W) c (u++back u)
  rw [fb]at this
  exact(mW (ds:=[]) (b:=wk w h W c (u++back u)) rfl rfl this).trans rfl
 have dx:∀ ρ:aA,cO 0 qN aG ρ [wk w h W c (u++back u)]=some (.str (Txt.join "\n" (cM w h W c (u++back u))),[wk w h W c (u++back u)]):=fun ρ=>(mW (ds:=[]) (b:=wk w h W c (u++back u)) rfl rfl (RI g j c (u++back u))).trans rfl;have G:k7 (jU (aC (eV 10) aG)) (lA ns w h W u r v o k (.dat (.list ((vis c u).map aB))) (.dat (.list ((cZ w h W c u).map aB))) e .no .no .no .no)=some (.list ((kc w h W c u).map aB)):=KA (l:=cZ w h W c u) (by unfold cZ;lia) S (Kg c u) (fun b=>Ce.trans (Cf p).symm) rfl;have H:k7 (jU (aC (eV 9) aG)) (lA ns w h W u r v o k (.dat (.list ((vis c u).map aB))) (.dat (.list [])) .no .no .no .no .no)=some (.list ((j1 w h c u).map aB)):=KA (l:=vis c u) (by lia) T (l5 (kG w h) _) (fun b=>yB p) rfl;have k0:=uK (kc w h W c u) (kc w h W c u);rw [decide_eq_true rfl]at k0;have an:=PR g j (W:=W) (cs:=vis c u) (fun a ha=>p.i a ha) (by lia)
 have cm:=Bf (t:=xP (eB (aF (dG true) (eV 0) (aF aO (eV 1) (eC (.int 2)))))) (ge:=eV 0) (inner:=[none,some 1]) (i:=0) (ρ:=lA ns w h W u r v o k (.dat (.list ((vis c u).map aB))) (.dat (.list ((cZ w h W c u).map aB))) e .no .no .no .no) (xs:=kc w h W c u) (Ω1:=[wk w h W c u]) aB (fun b => !bB w h W b) aB (fun ρ=>∃ s0,ρ=[s0,.dat (aZ w h W)]) (zN (kx w h W g j c u _) rfl) (Qr (tN g j _) (by decide)) ⟨_,rfl⟩ (by
  rintro b _ ρ ⟨s0,rfl⟩
  exact⟨⟨_,rfl⟩,rP (oB (oo rfl (oo rfl rfl (zB w h W)) (u9 true b w h W))),fun _=>rfl⟩)
 have x:=uK ((kc w h W c u).filter fun b => !bB w h W b) ((bE w h W).filter fun b=>(vis c u).any fun a=>fT (bB w h W) a b);rw [decide_eq_true (W5 p)]at x
 have iz:aO (.list ((vis c u).map aB)) (.int 0)=some (aB c):=by
  have:=(DB (l:=vis c u) (Int.le_refl 0) (by lia)).1
  rw [this]
  cases u <;> rfl
 refine Z _ [wk w h W c (u++back u)] ?_;unfold rY;rw [show cE 16 [ZD (ns.map J0)]=[.dat (c6 ns),.no,.no,.no,.no,.no,.no,.no,.no,.no,.no,.no,.no,.no,.no,.no]from rfl];refine cQ (e7 (rP (bG rfl E))) (cQ (e7 (rP (bG rfl lo))) ?_);refine cQ (lF (rP (oB (oo rfl rfl F)))) ?_;refine cQ (OT (dO rfl (dO (oo rfl (bG (dO rfl (dO rfl (dO (bG rfl ln) rfl))) U) vA) rfl)) (SF g j N) rfl (by show 3<16;decide)) ?_;refine cQ (ρ':=lA ns w h W [] .no .no .no .no .no .no .no .no .no .no .no) (Ω1:=[wk w h W c []]) (e7 (rP rfl)) ?_;refine cQ (Am (x3 en (by lia)) e1) ?_;refine cQ (ρ':=lA ns w h W u r v o k (.dat (.list ((vis c u).map aB))) .no .no .no .no .no .no) (Ω1:=[wk w h W c u]) (e7 (wx _)) ?_;refine cQ (ρ':=lA ns w h W u r v o k (.dat (.list ((vis c u).map aB))) (.dat (.list [])) .no .no .no .no .no) (Ω1:=[wk w h W c u]) (e7 (rP rfl)) ?_;refine cQ (Am (kB H rfl) e2) ?_
 have lp:eK [.list ((vis c u).map aB)]=some (.int ((u.length+1:Nat):Int)):=by rw [uF,Qd,wL]
 have t1:xP (eB (aF cA (aR eK (aC (eV 9) aG)) (aF bM (aR mI (aC (eV 4) aG)) (eC (.int 1))))) (lA ns w h W u r v o k (.dat (.list ((vis c u).map aB))) (.dat (.list ((cZ w h W c u).map aB))) e .no .no .no .no) [wk w h W c u]=some (false,[wk w h W c u]):=by
  refine rP (oB (oo (bG rfl lp) (oo (bG rfl (Hz (by lia))) rfl rfl) ?_))
  show some (J6 (!(((u.length+1:Nat):Int) == (u.length:Int)+1)))=_
  rw [show((u.length+1:Nat):Int)=(u.length:Int)+1 by lia,beq_self_eq_true];rfl
 refine cQ (lF (DN t1 (rB (jI (kx w h W g j c u _) (rP G) k0)))) ?_;refine cQ (lF (rB (jI cm (rP (bG rfl an)) x))) ?_
 have rv:AG (eV 4) (oE (jV jD (eC (.int 1)))) (lA ns w h W u r v o k (.dat (.list ((vis c u).map aB))) (.dat (.list ((cZ w h W c u).map aB))) e .no .no .no .no)=some (.str (bZ u.reverse)):=by
  show vV (.str (bZ u)) (some (-1))=_
  exact NX (by lia)
 refine cQ (Am (SW rv (Ol _)) e3) ?_;refine cQ (ρ':=lA ns w h W u r s o k (.dat (.list ((vis c u).map aB))) (.dat (.list ((cZ w h W c u).map aB))) e (.dat (.list ((cM w h W c (u++back u)).map J8))) .no .no .no) (Ω1:=[wk w h W c (u++back u)]) (e7 (jI (dx _) (rP rfl) (zSo g j Q c (u++back u)))) ?_
 have M:cA (aB c) (aB c)=some (.bool false):=by rw [M6,beq_self_eq_true];rfl
 have t2:xP (eB (aF cA (aR eK (aC (eV 12) aG)) (aF aO (eV 1) (eC (.int 1))))) (lA ns w h W u r s o k (.dat (.list ((vis c u).map aB))) (.dat (.list ((cZ w h W c u).map aB))) e (.dat (.list ((cM w h W c (u++back u)).map J8))) .no .no .no) [wk w h W c (u++back u)]=some (false,[wk w h W c (u++back u)]):=by
  have lr:eK [.list ((cM w h W c (u++back u)).map J8)]=some (.int (h:Int)):=by
   rw [uF];unfold cM;rw [Qd,Qd,QM]
  refine rP (oB (oo (bG rfl lr) (oo rfl rfl (Dv w h W)) ?_));rw [zE,beq_self_eq_true];rfl
 refine cQ (lF (DN (rB (jI (hx _) (rP (oo rfl rfl iz)) M)) t2)) ?_;refine cQ (g1:=yJ _ _ _) (ρ':=lA ns w h W u r s o k (.dat (.list ((vis c u).map aB))) (.dat (.list ((cZ w h W c u).map aB))) e (.dat (.list ((cM w h W c (u++back u)).map J8))) K J I) (Ω1:=[wk w h W c (u++back u)]) ?_ (j3 (rP rfl));unfold yJ;rw [rP (kB (bG rfl (Hv (W:=W) g Q j)) rfl)];exact e4
end My
namespace My
open PySem.Spec PySem.SeqAt L2 CL DL OB SD ZL SL EL DC EX TX TB TX KP ST
theorem us1{p:List JS->Prop}{us:List JS}(h:us.length=1)(q:∀ a,p [a]):p us:=by
 rcases us with _ | ⟨a,_ | ⟨b,r⟩⟩
 ·cases h
 ·exact q a
 ·simp at h
theorem us2{p:List JS->Prop}{us:List JS}(h:us.length=2)(q:∀ a b,p [a,b]):p us:=by
 rcases us with _ | ⟨a,r⟩
 ·cases h
 ·exact us1 (p:=fun r=>p (a::r)) (us:=r) (by simpa using h) fun b=>q a b
theorem Al{p:List JS->Prop}{us:List JS}(h:us.length=3)(q:∀ a b c,p [a,b,c]):p us:=by
 rcases us with _ | ⟨a,r⟩
 ·cases h
 ·exact us2 (p:=fun r=>p (a::r)) (us:=r) (by simpa using h) fun b c=>q a b c
theorem us4{p:List JS->Prop}{us:List JS}(h:us.length=4)(q:∀ a b c d,p [a,b,c,d]):p us:=by
 rcases us with _ | ⟨a,r⟩
 ·cases h
 ·exact Al (p:=fun r=>p (a::r)) (us:=r) (by simpa using h) fun b c d=>q a b c d
theorem all_mk(main:∀ ns:List Int,ns.length<=63->lK [.list (ns.map J0)]=some (.bool true)){l:PySem.W.OpenLaw}{w:J1}{K:PySem.W.Frag}{I:Str->Option JS}{fa:YP}(a6:I "law"=some (.ref fa))(T:∃ a d ta e_NoStep,Txt K I a d w ta e_NoStep)(BN:∃ C b e,nB K I C/\y7 K C b e):
  ∃ fd:J5,(∀(s:JT) (v:JS),BindsTo s fd ⟨[v],[]⟩ [("_law_script",v)])/\∀ base:Heap,K.In base->base.Ns J4 I->aK l.prog w K I base aL 10 fa fd ["_law_script"] (xL K lK):=by
 obtain⟨a,d,ta,e_NoStep,T⟩:=T;obtain⟨C,b,ee,B,M⟩:=BN;have e:=T.F_qo.m.symm.trans a6;cases e;obtain⟨oc,od,kV,a8,pm,an,a9,ct,a7,e,_⟩:=T.F_qo.F.ex
 refine⟨d 24,fun s v=>by rw [e];exact .of_eq rfl,fun base _ _=>?_⟩
 have U:=Nt (P:=l.prog) (w:=w) (base:=base) T;have y:=Nr (P:=l.prog) (w:=w) (base:=base) T;have q:=Nz (P:=l.prog) (w:=w) (base:=base) T;have O:=Ny (P:=l.prog) (w:=w) (base:=base) T;have a3:=Nh (P:=l.prog) (w:=w) (base:=base) T;have N:=NA (P:=l.prog) (w:=w) (base:=base) T;have Y:=Nq (P:=l.prog) (w:=w) (base:=base) T;have E:=Nj (P:=l.prog) (w:=w) (base:=base) T;have a4:=Nf (P:=l.prog) (w:=w) (base:=base) T U;have A:=Nk (P:=l.prog) (w:=w) (base:=base) T y;have x:=Nu (P:=l.prog) (w:=w) (base:=base) T O a3;have z:=Nn (P:=l.prog) (w:=w) (base:=base) T Y;have Z:=No (P:=l.prog) (w:=w) (base:=base) T E;have u:=Nx (P:=l.prog) (w:=w) (base:=base) T a4;have a1:=Nl (P:=l.prog) (w:=w) (base:=base) T z;have a5:=Nd (P:=l.prog) (w:=w) (base:=base) T u;have r:=Nw (P:=l.prog) (w:=w) (base:=base) T a5;have G:=Ng (P:=l.prog) (w:=w) (base:=base) T r;have f:=TW (P:=l.prog) (w:=w) (base:=base) T N r u;have Q:=Tt (G':=v6) rfl f;have t:=Np (P:=l.prog) (w:=w) (base:=base) T G q y x;have S:=Nv (P:=l.prog) (w:=w) (base:=base) T G q A x;have a0:=Nm (P:=l.prog) (w:=w) (base:=base) T S A;have a2:=Ni (P:=l.prog) (w:=w) (base:=base) T a0;have H:=TZ (P:=l.prog) (w:=w) (base:=base) T;have o:=T4 (P:=l.prog) (w:=w) (base:=base) T B H t M.Fi;have c:=WR (P:=l.prog) (w:=w) (base:=base) T B M.«where».F;have g:=WQ (P:=l.prog) (w:=w) (base:=base) T B M.walked.F;have i:=T5 (P:=l.prog) (w:=w) (base:=base) T B M.knows.F;have k:=Vk (P:=l.prog) (w:=w) (base:=base) T B M.«where».m M.«where».b c Q t q M.step.F;have h:=Vl (P:=l.prog) (w:=w) (base:=base) T B M.«where».m M.«where».b c f M.step.F;have X:=TY (P:=l.prog) (w:=w) (base:=base) T B M.step.m M.step.b k h;have n:=T7 (P:=l.prog) (w:=w) (base:=base) T B r M.sign.F;have p:=T6 (P:=l.prog) (w:=w) (base:=base) T B M.sign.m M.sign.b n M.row.F;have j:=T3 (P:=l.prog) (w:=w) (base:=base) T B M.row.m M.row.b p M.drawn.F;have J:=NB (P:=l.prog) (w:=w) (base:=base) T B M a1 Z E a2 z t j i g c o X;exact MU J main
theorem fo1{K:PySem.W.Frag}{h:Heap}{m:Str->Option JS}{n:Str}{st:Zj}{e:List Str}{f:YP}{od j:Option YP}{o:Array (Option JS)}{q kV i g b ct:JS}(X:K.In h)(G:h.Ns J4 m)(s:e.length=1)(t:∀ x0,ZZ (PySem.W.fnOf n n (eA st) (cW st) (aS st) .none kV i g j b ct) ⟨[x0],[]⟩=pure (Z5 e [x0]))
  (a:PySem.W.nsIn K J4 n=some (some (.ref f))) (l:K.lookup f=some ⟨q,od,.func (PySem.W.fnOf n n (eA st) (cW st) (aS st) .none kV i g j b ct),o⟩) (c:PySem.W.codeIn K b n=true) (k:PySem.W.keepIn K (.ref f)=true):Fo K m n st e f (PySem.W.fnOf n n (eA st) (cW st) (aS st) .none kV i g j b ct):=
 ⟨rF l c k,PySem.W.mg_of X G a,.all fun d r=>us1 (p:=fun d=>ZZ _ ⟨d,[]⟩=pure (Z5 _ d)) (r.trans s) t⟩
theorem fo2{K:PySem.W.Frag}{h:Heap}{m:Str->Option JS}{n:Str}{st:Zj}{e:List Str}{f:YP}{od j:Option YP}{o:Array (Option JS)}{q kV i g b ct:JS}(X:K.In h)(G:h.Ns J4 m)(s:e.length=2)(t:∀ x0 x1,ZZ (PySem.W.fnOf n n (eA st) (cW st) (aS st) .none kV i g j b ct) ⟨[x0,x1],[]⟩=pure (Z5 e [x0,x1]))
  (a:PySem.W.nsIn K J4 n=some (some (.ref f))) (l:K.lookup f=some ⟨q,od,.func (PySem.W.fnOf n n (eA st) (cW st) (aS st) .none kV i g j b ct),o⟩) (c:PySem.W.codeIn K b n=true) (k:PySem.W.keepIn K (.ref f)=true):Fo K m n st e f (PySem.W.fnOf n n (eA st) (cW st) (aS st) .none kV i g j b ct):=
 ⟨rF l c k,PySem.W.mg_of X G a,.all fun d r=>us2 (p:=fun d=>ZZ _ ⟨d,[]⟩=pure (Z5 _ d)) (r.trans s) t⟩
theorem fo3{K:PySem.W.Frag}{h:Heap}{m:Str->Option JS}{n:Str}{st:Zj}{e:List Str}{f:YP}{od j:Option YP}{o:Array (Option JS)}{q kV i g b ct:JS}(X:K.In h)(G:h.Ns J4 m)(s:e.length=3)(t:∀ x0 x1 x2,ZZ (PySem.W.fnOf n n (eA st) (cW st) (aS st) .none kV i g j b ct) ⟨[x0,x1,x2],[]⟩=pure (Z5 e [x0,x1,x2]))
  (a:PySem.W.nsIn K J4 n=some (some (.ref f))) (l:K.lookup f=some ⟨q,od,.func (PySem.W.fnOf n n (eA st) (cW st) (aS st) .none kV i g j b ct),o⟩) (c:PySem.W.codeIn K b n=true) (k:PySem.W.keepIn K (.ref f)=true):Fo K m n st e f (PySem.W.fnOf n n (eA st) (cW st) (aS st) .none kV i g j b ct):=
 ⟨rF l c k,PySem.W.mg_of X G a,.all fun d r=>Al (p:=fun d=>ZZ _ ⟨d,[]⟩=pure (Z5 _ d)) (r.trans s) t⟩
def cn{a:Type}(x:a)(f:Nat->a):Nat->a
 | 0=>x
 | n+1=>f n
theorem tab_STEPS{K:PySem.W.Frag}{h:Heap}{mg:Str->Option JS}{w:J1}{j a5:Nat}{i:Int}{N:Tok}{d a0:Nat}{a4:Option YP}{T:Array (Option JS)}{r:Tok}{q:Tok}{g:Int}{M:Tok}{c Z:Nat}{a3:Option YP}{S:Array (Option JS)}{p:Tok}{o:Tok}{f:Int}{J:Tok}{b Y:Nat}{a2:Option YP}{Q:Array (Option JS)}{n:Tok}{m:Tok}{e:Int}{I:Tok}{a U:Nat}{a1:Option YP}{O:Array (Option JS)}{l:Tok}{k:Tok}(X:K.In h)(G:h.Ns J4 mg)(a7:PySem.W.nsIn K J4 "STEPS"=some (some (.ref j)))(a6:K.lookup j=some ⟨.type "dict",none,.dict #[⟨i,.str "n" N,.ref d⟩,⟨g,.str "e" M,.ref c⟩,⟨f,.str "s" J,.ref b⟩,⟨e,.str "w" I,.ref a⟩] a5,#[]⟩)(E:K.lookup d=some ⟨.type "tuple",a4,.seq #[.int 0 r,.int (-1) q] a0,T⟩)(y:i=PySem.hashStr w "n")(B:K.lookup c=some ⟨.type "tuple",a3,.seq #[.int 1 p,.int 0 o] Z,S⟩)(u:g=PySem.hashStr w "e")(A:K.lookup b=some ⟨.type "tuple",a2,.seq #[.int 0 n,.int 1 m] Y,Q⟩)(t:f=PySem.hashStr w "s")(z:K.lookup a=some ⟨.type "tuple",a1,.seq #[.int (-1) l,.int 0 k] U,O⟩)(s:e=PySem.hashStr w "w")(a8:(j == Zp)=false):∃ x,mg "STEPS"=some (.ref x)/\lP K w x jP/\(x == Zp)=false:=⟨_,PySem.W.mg_of X G a7,⟨_,_,a6,(jA.cons (v:=.ref d) y rfl (fun F H=>aM.tup (vs:=[.int 0,.int (-1)]) (.inr ⟨_,_,_,E,rfl,rfl,fW (show 2<=1000 by decide),(.cons ⟨_,rfl⟩ (.cons ⟨_,rfl⟩ .nil))⟩) (.cons (.int _) (.cons (.int _) .nil))) (jA.cons (v:=.ref c) u rfl (fun F H=>aM.tup (vs:=[.int 1,.int 0]) (.inr ⟨_,_,_,B,rfl,rfl,fW (show 2<=1000 by decide),(.cons ⟨_,rfl⟩ (.cons ⟨_,rfl⟩ .nil))⟩) (.cons (.int _) (.cons (.int _) .nil))) (jA.cons (v:=.ref b) t rfl (fun F H=>aM.tup (vs:=[.int 0,.int 1]) (.inr ⟨_,_,_,A,rfl,rfl,fW (show 2<=1000 by decide),(.cons ⟨_,rfl⟩ (.cons ⟨_,rfl⟩ .nil))⟩) (.cons (.int _) (.cons (.int _) .nil))) (jA.cons (v:=.ref a) s rfl (fun F H=>aM.tup (vs:=[.int (-1),.int 0]) (.inr ⟨_,_,_,z,rfl,rfl,fW (show 2<=1000 by decide),(.cons ⟨_,rfl⟩ (.cons ⟨_,rfl⟩ .nil))⟩) (.cons (.int _) (.cons (.int _) .nil))) jA.nil))))⟩,a8⟩
theorem xc_NoStep{K:PySem.W.Frag}{h:Heap}{c:Str->Option JS}{a:YP}(X:K.In h)(G:h.Ns J4 c)(b:PySem.W.nsIn K J4 "NoStep"=some (some (.ref a)))(e:PySem.W.excIn K a [.type "ValueError",.type "Exception",.type "BaseException",.type "object"] "ValueError.__new__"=true)(d:PySem.W.subIn K (.ref a) (.ref a)=some true)(f:PySem.W.subIn K (.ref a) (.type "BaseException")=some true):∃ e_NoStep,PySem.W.nsIn K J4 "NoStep"=some (some (.ref e_NoStep))/\PySem.W.excIn K e_NoStep [.type "ValueError",.type "Exception",.type "BaseException",.type "object"] "ValueError.__new__"=true/\c "NoStep"=some (.ref e_NoStep)/\PySem.W.subIn K (.ref e_NoStep) (.ref e_NoStep)=some true/\PySem.W.subIn K (.ref e_NoStep) (.type "BaseException")=some true:=⟨_,b,e,PySem.W.mg_of X G b,d,f⟩
theorem fm1{K:PySem.W.Frag}{n q:Str}{st:Zj}{e:List Str}{C f:YP}{od j:Option YP}{m:Array (Option JS)}{o kV h g b ct:JS}(s:e.length=1)(t:∀ x0,ZZ (PySem.W.fnOf n q (eA st) (cW st) (aS st) .none kV h g j b ct) ⟨[x0],[]⟩=pure (Z5 e [x0]))
  (a:PySem.W.findIn K (.ref C) n=some (some (.ref f))) (i:PySem.W.isFn K (.ref f)=true) (l:K.lookup f=some ⟨o,od,.func (PySem.W.fnOf n q (eA st) (cW st) (aS st) .none kV h g j b ct),m⟩) (c:PySem.W.codeIn K b q=true) (k:PySem.W.keepIn K (.ref f)=true):Fm K C n q st e f (PySem.W.fnOf n q (eA st) (cW st) (aS st) .none kV h g j b ct):=
 ⟨rF l c k,⟨a,i,k⟩,.all fun d r=>us1 (p:=fun d=>ZZ _ ⟨d,[]⟩=pure (Z5 _ d)) (r.trans s) t⟩
theorem fm2{K:PySem.W.Frag}{n q:Str}{st:Zj}{e:List Str}{C f:YP}{od j:Option YP}{m:Array (Option JS)}{o kV h g b ct:JS}(s:e.length=2)(t:∀ x0 x1,ZZ (PySem.W.fnOf n q (eA st) (cW st) (aS st) .none kV h g j b ct) ⟨[x0,x1],[]⟩=pure (Z5 e [x0,x1]))
  (a:PySem.W.findIn K (.ref C) n=some (some (.ref f))) (i:PySem.W.isFn K (.ref f)=true) (l:K.lookup f=some ⟨o,od,.func (PySem.W.fnOf n q (eA st) (cW st) (aS st) .none kV h g j b ct),m⟩) (c:PySem.W.codeIn K b q=true) (k:PySem.W.keepIn K (.ref f)=true):Fm K C n q st e f (PySem.W.fnOf n q (eA st) (cW st) (aS st) .none kV h g j b ct):=
 ⟨rF l c k,⟨a,i,k⟩,.all fun d r=>us2 (p:=fun d=>ZZ _ ⟨d,[]⟩=pure (Z5 _ d)) (r.trans s) t⟩
theorem fm3{K:PySem.W.Frag}{n q:Str}{st:Zj}{e:List Str}{C f:YP}{od j:Option YP}{m:Array (Option JS)}{o kV h g b ct:JS}(s:e.length=3)(t:∀ x0 x1 x2,ZZ (PySem.W.fnOf n q (eA st) (cW st) (aS st) .none kV h g j b ct) ⟨[x0,x1,x2],[]⟩=pure (Z5 e [x0,x1,x2]))
  (a:PySem.W.findIn K (.ref C) n=some (some (.ref f))) (i:PySem.W.isFn K (.ref f)=true) (l:K.lookup f=some ⟨o,od,.func (PySem.W.fnOf n q (eA st) (cW st) (aS st) .none kV h g j b ct),m⟩) (c:PySem.W.codeIn K b q=true) (k:PySem.W.keepIn K (.ref f)=true):Fm K C n q st e f (PySem.W.fnOf n q (eA st) (cW st) (aS st) .none kV h g j b ct):=
 ⟨rF l c k,⟨a,i,k⟩,.all fun d r=>Al (p:=fun d=>ZZ _ ⟨d,[]⟩=pure (Z5 _ d)) (r.trans s) t⟩
theorem mk_wal{K:PySem.W.Frag}{h:Heap}{a:Str->Option JS}{C l k j i g f d c:YP}{d0 t s r q p o n:J5}(X:K.In h)(G:h.Ns J4 a)(B:PySem.W.nsIn K J4 "Walker"=some (some (.ref C)))
  (w:PySem.W.plainGet K C Str.empty=true) (A:PySem.W.hasDictIn K C=true) (v:PySem.W.plainOver K C=true) (u:PySem.W.findIn K (.ref C) "__setattr__"=some (some (.builtin "object.__setattr__"))) (mk:PySem.W.makesIn K C=true) (kc:PySem.W.keepIn K (.ref C)=true)
  (z:PySem.W.findIn K (.ref C) "known"=some none) (y:PySem.W.findIn K (.ref C) "floor"=some none) (x:PySem.W.findIn K (.ref C) "path"=some none)
  (F0:Fm K C "__init__" "Walker.__init__" wF ["self","floor","cell"] l d0) (O:Fm K C "step" "Walker.step" qJ ["self","word"] k t) (N:Fm K C "where" "Walker.where" wJ ["self"] j s) (M:Fm K C "walked" "Walker.walked" wI ["self"] i r) (J:Fm K C "knows" "Walker.knows" wG ["self"] g q) (I:Fm K C "sign_at" "Walker.sign_at" wH ["self","cell"] f p) (H:Fm K C "row_drawn" "Walker.row_drawn" tL ["self","y"] d o) (E:Fm K C "drawn" "Walker.drawn" tK ["self"] c n):∃ C b e,nB K a C/\y7 K C b e:=
 ⟨C,(cn l (cn k (cn j (cn i (cn g (cn f (cn d (fun _=>c)))))))),(cn d0 (cn t (cn s (cn r (cn q (cn p (cn o (fun _=>n)))))))),⟨⟨w,A,v,u⟩,z,y,x,PySem.W.mg_of X G B⟩,⟨mk,F0.m.1,F0.m.2,kc⟩,F0.F,F0.b,O,N,M,J,I,H,E⟩
theorem mk_txt{K:PySem.W.Frag}{b:Str->Option JS}{w:J1}{f0 f1 f2 f3 f4 f5 f6 f7 f8 f9 s r q p o n m l k j i h g f e:YP}{d0 d1 d2 d3 d4 d5 d6 d7 d8 d9 N M J I H G F E B A z y v u t:J5}(F0:Fo K b "is_whole" zX ["thing"] f0 d0)(F1:Fo K b "all_cells" vL ["floor"] f1 d1)(F2:Fo K b "marked" sF ["things"] f2 d2)(F3:Fo K b "crossed" Ac ["one","other"] f3 d3)(F4:Fo K b "couples_beside" zS ["cells"] f4 d4)(F5:Fo K b "beside" Ad ["cell","word"] f5 d5)(F6:Fo K b "_law_cell" zW ["_law_script","_law_k"] f6 d6)(F7:Fo K b "_law_cells" vG ["_law_floor_here"] f7 d7)(F8:Fo K b "is_whole_couple" zQ ["thing"] f8 d8)(F9:Fo K b "open_cells" zU ["floor"] f9 d9)(b1:Fo K b "lets_see" zY ["solids","one","other"] s N)(b0:Fo K b "_law_drawn" zV ["_law_script","_law_k","_law_many"] r M)(a9:Fo K b "_law_open" vJ ["_law_floor_here"] q J)(a8:Fo K b "is_cell" Ab ["floor","thing"] p I)(a7:Fo K b "_law_floor" vH ["_law_script","_law_at","_law_most"] o H)(a6:Fo K b "refuse_off_floor" zP ["floor","cell"] n G)(a5:Fo K b "is_solid" zZ ["floor","cell"] m F)(a4:Fo K b "refuse_not_open" zR ["floor","cell"] l E)(a3:Fo K b "stepped" Aa ["floor","cell","word"] k B)(a2:Fo K b "seen_from" vK ["floor","cell"] j A)(a1:Fo K b "field_of" vM ["floor","cell"] i z)(a0:Fo K b "_law_gone" sE ["_law_walker","_law_word"] h y)(Z:Fo K b "times_seen" vI ["floor","cells"] g v)(Y:Fo K b "seen_by_any" vF ["floor","cells"] f u)(X:Fo K b "law" sG ["_law_script"] e t)(z0:b "isinstance"=none)(z1:b "int"=none)(z2:b "bool"=none)(z3:b "range"=none)(z4:b "dict"=none)(z5:b "abs"=none)(z6:b "zip"=none)(z7:b "sorted"=none)(z8:b "tuple"=none)(z9:b "len"=none)(T:b "set"=none)(S:b "max"=none)(Q:b "min"=none)(O:b "list"=none)(t0:∃ x,b "STEPS"=some (.ref x)/\lP K w x jP/\(x == Zp)=false)(c:∃ e_NoStep,PySem.W.nsIn K J4 "NoStep"=some (some (.ref e_NoStep))/\PySem.W.excIn K e_NoStep [.type "ValueError",.type "Exception",.type "BaseException",.type "object"] "ValueError.__new__"=true/\b "NoStep"=some (.ref e_NoStep)/\PySem.W.subIn K (.ref e_NoStep) (.ref e_NoStep)=some true/\PySem.W.subIn K (.ref e_NoStep) (.type "BaseException")=some true):∃ a d ta e_NoStep,Txt K b a d w ta e_NoStep:=by
 obtain⟨x0,u0,v0,U⟩:=t0;obtain⟨e_NoStep,qn,qe,qm,qt,qb⟩:=c
 exact⟨(cn f0 (cn f1 (cn f2 (cn f3 (cn f4 (cn f5 (cn f6 (cn f7 (cn f8 (cn f9 (cn s (cn r (cn q (cn p (cn o (cn n (cn m (cn l (cn k (cn j (cn i (cn h (cn g (cn f (fun _=>e))))))))))))))))))))))))),(cn d0 (cn d1 (cn d2 (cn d3 (cn d4 (cn d5 (cn d6 (cn d7 (cn d8 (cn d9 (cn N (cn M (cn J (cn I (cn H (cn G (cn F (cn E (cn B (cn A (cn z (cn y (cn v (cn u (fun _=>t))))))))))))))))))))))))),(fun _=>x0),e_NoStep,F0,F1,F2,F3,F4,F5,F6,F7,F8,F9,b1,b0,a9,a8,a7,a6,a5,a4,a3,a2,a1,a0,Z,Y,X,z0,z1,z2,z3,z4,z5,z6,z7,z8,z9,T,S,Q,O,u0,v0,U,qn,qe,qm,qt,qb⟩
theorem walkZ{q:JY}{b:List Str}{s:(Str->Option JS)->Heap->Prop}{K:Params->PySem.W.Frag}{as:List YP}{n t:Nat}{r:PySem.W.RowW}{d:DefRec}{i:List (Str × Expr)}{run:JS->List JS->Sem JS}(e:∀ P,as=(K P).map (·.1))
  (h:PySem.W.WalkO q b s (fun w h=>(K w.params).In h) r d i run):PySem.W.WalkX q b s (PySem.W.X.obsZ as) (PySem.W.X.valZ K n t) r d i run:=
 fun w g f v x G y a o u H m F kV z B l E k A j c p L=>h w g f v x G (PySem.W.InK.keeps w _ _ (PySem.W.X.z_facts e y).2.1 L.keeps) a o u H m F kV z B l E k A j c p
theorem walk{l:PySem.W.OpenLaw}{q:JY}{b:List Str}{p:(Str->Option JS)->Heap->Prop}{e:J1->Heap->Prop}{d:DefRec}{K:Params->PySem.W.Frag}(i:l.most=some 63)(c:d.params.defaults=[])
  (m:∀(w:J1) (h:Heap),e w h->(K w.params).In h)
  (F:∀(w:J1) (mg:Str->Option JS) (fa:YP) (h:Heap),(K w.params).In h->h.Ns J4 mg->mg d.name=some (.ref fa)->
   ∃ fd:J5,(∀(s:JT) (u:JS),BindsTo s fd ⟨[u],[]⟩ [("_law_script",u)])/\∀ base:Heap,(K w.params).In base->base.Ns J4 mg->aK l.prog w (K w.params) mg base aL 10 fa fd ["_law_script"] (xL (K w.params) lK)):
  PySem.W.WalkO q b p e l.row.toRowW d [] (fun f vs=>PySem.call f vs):=
 L2.walk_of (n:=63) (k:=10) (x:="_law_script") (CX:=fun _=>aL) (sp:=fun w=>xL (K w.params) lK) i (by decide) c ⟨rfl,by decide,by decide,rfl⟩ m F (fun _ _ a g j _ o=>⟨a,g,rfl,o,j,fun _=>rfl⟩) fun _ _ _ _ _ z=>z
end My
open PySem.W
namespace PySem.W.Fast
def tw8637803348494299692:=0
def tw16700932999511190248:=0
def tw15198305717991586723:=0
def tw10531475637635157291:=0
def tw920684374074698819:=0
def tw7528153697960752078:=0
def tw11479526253033287763:=0
def tw16661169682694656348:=0
def tw6956149188159461654:=0
def tw16483608781776442914:=0
def tw7902246199058927302:=0
def tw4123228053915125745:=0
def tw4628390162804495852:=0
def tw12753345774888528598:=0
def tw10770702800333068820:=0
def tw10092718155604429548:=0
def tw13741535484155528138:=0
def tw15596694716230892415:=0
def tw18222168003340043902:=0
def tw15286059769560666078:=0
def tw13877589045337566587:=0
def tw9805772654221965056:=0
def tw9586037639446371215:=0
def tw3727803751426815894:=0
def tw1614754529588833884:=0
def tw4108889559785125178:=0
def tw6617962342442920846:=0
def tw7180428268346142359:=0
def tw15789715219214104201:=0
def tw6925994770528651354:=0
def tw2388417187606071783:=0
def tw8092254478943576069:=0
def tw1151903342766706492:=0
def tw2653556757951792648:=0
def tw8812801134331440438:=0
def tw16320293806592486053:=0
def tw12489022158860404221:=0
def tw16686692352447297319:=0
def tw13693700976881901721:=0
def tw1245933784361379815:=0
def tw428460994103149016:=0
def tw7355218772192406398:=0
def tw11132011962047160008:=0
def tw6504742414755054720:=0
def tw2223189260004115858:=0
def tw14900446952324142821:=0
def tw9992755166308094025:=0
def tw8705973408886901052:=0
def tw18145570415018727062:=0
def tw3042113436973060370:=0
def tw13943254499693284883:=0
def tw36488825829579582:=0
def tw10511971995058798764:=0
def tw18291371118335160582:=0
def tw6374324868297867783:=0
def tw13762418397605411557:=0
def tw12322754457429516490:=0
def tw7030672056305796444:=0
def tw9154609205842869587:=0
def tw15214315080702442413:=0
def tw795191309339092330:=0
def tw8239695662246432546:=0
def tw3449846469939769041:=0
def tw2593260921249803955:=0
def tw4680145567547454100:=0
def tw16746885805971217789:=0
def tw12510079352870570735:=0
def tw12373854382069626174:=0
def tw16180904756158932031:=0
def tw16967226565784944254:=0
def tw12804161129481222667:=0
def tw16191323513380088521:=0
def tw8850145133823946071:=0
def tw14830510765832989103:=0
def tw16248028182674126260:=0
def tw2089479238504114736:=0
def tw10924858448188802545:=0
def tw5066611338461010226:=0
def tw9802457029943904671:=0
def tw6396228374886804149:=0
def tw8665921103796093597:=0
def tw16549152807001074915:=0
def tw14517580961344586755:=0
def tw3487670694390967817:=0
def tw2157789808073857533:=0
def tw13322475649645025967:=0
def tw13638010222172548870:=0
def tw9903516764802829889:=0
def tw8722419904541117671:=0
def tw13765085864001182957:=0
def tw129471615871305519:=0
def tw5990189083057439530:=0
def tw5994535427128712678:=0
def tw798939315519375012:=0
def tw5417628950475678111:=0
def tw2338836624365123023:=0
def tw10500635293173290273:=0
def tw9066849430503822421:=0
def tw8990319777859076458:=0
def tw16479206185729502205:=0
def tw12631708091388036870:=0
def tw18350297359925484241:=0
def tw16208656141576023923:=0
def tw155254950100700681:=0
def tw460350054878217185:=0
def tw3178614792074467922:=0
def tw3381857373346326834:=0
def tw10923638831027199850:=0
def tw5366279650394213974:=0
def tw16328532905388551835:=0
def tw12001358327622389438:=0
def tw7589455772152827911:=0
def tw6904527320933199546:=0
def tw15131229558497809653:=0
def tw11137205804921621739:=0
def tw3314156862861193869:=0
def tw8191201569316231850:=0
def tw13584297801964260530:=0
def tw5179829153104331461:=0
def tw2429184874589289052:=0
def tw4715046109820319959:=0
def tw14174475604179932356:=0
def tw8433602067609245833:=0
def tw2941917893513306275:=0
def tw11250195097827099207:=0
def tw5975039305086290361:=0
def tw8740969294557060384:=0
def tw6109711410676418409:=0
def tw2599587837325610014:=0
def tw18117948086917741980:=0
def tw11241346184696863899:=0
def tw14931386509243930993:=0
def tw2531509742660330614:=0
def tw7285444331492115542:=0
def tw5535573885810519152:=0
def tw15229559935267233258:=0
def tw9501996821534843885:=0
def tw10401105203366240472:=0
def tw16593757218871639934:=0
def tw15804273697188120046:=0
def tw4879261276185219682:=0
def tw13421989242835949562:=0
def tw4661165252024588965:=0
def tw14222097474688207872:=0
def tw874920903722327824:=0
def tw12564964102077676460:=0
def tw15588335971547625515:=0
def tw15908518085251303609:=0
def tw12785119158310786714:=0
def tw16504666641185475939:=0
def tw3807323556383303530:=0
def tw16069093940509648736:=0
def tw16038570472367095389:=0
def tw16582351939775461660:=0
def tw1135485896825674789:=0
def tw5134785895465744351:=0
def tw13804963555911080582:=0
def tw13215961984934589554:=0
def tw6799522859795846112:=0
def tw14540394967807736817:=0
def tw13259608873054984879:=0
def tw1137372503812207953:=0
def tw5461789936832690571:=0
def tw16772034162564435360:=0
def tw5129867673665121963:=0
def tw8882118995699847682:=0
def tw467041603984251110:=0
def tw16546079332212810639:=0
def tw8526787071919419202:=0
def tw8624312333977087266:=0
def tw4564108600498755406:=0
def tw2577246955481471983:=0
def tw3452146720305525569:=0
def tw9748631570745416673:=0
def tw3588268102607327307:=0
def tw9048597848361792972:=0
def tw14685373528066186009:=0
def tw17620718554567061770:=0
def tw3785265210038241008:=0
def tw14868623019635709221:=0
def tw5402324443330781781:=0
def tw6224009151031350091:=0
def tw8149758823986052356:=0
def tw10004246581485656216:=0
def tw3883093499633931024:=0
def tw14892539601251684919:=0
def tw6277617533974984018:=0
def tw357645893094567358:=0
def tw15911800677112821336:=0
def tw15737928059531935894:=0
def tw17809810963827094101:=0
def tw1363953629883433525:=0
def tw17270231467204714030:=0
def tw9558780883825881264:=0
def tw9755747802095887840:=0
def tw17305681407006014418:=0
def tw11685355174247689692:=0
def tw11586429777030825374:=0
def tw479187472080370759:=0
def tw5459124722223234521:=0
def tw10637808679796818037:=0
def tw18026557401727122310:=0
def tw13393011273203809865:=0
def tw6149194779114055:=0
def tw7922127144924265184:=0
def tw240172339122578186:=0
def tw1972577587086920656:=0
def tw8227407237788521251:=0
def tw16636989461543671680:=0
def tw4440148163845185692:=0
def tw16611615642595798991:=0
def tw2216231917388455810:=0
def tw14745509257028123991:=0
def tw442530019856429274:=0
def tw17058788773873217599:=0
def tw2867147984394582019:=0
def tw16849954827378649434:=0
def tw1079437852303392295:=0
def tw17172663210229735028:=0
def tw13339465665464737438:=0
def tw1233439633330485602:=0
def tw3082924448147809968:=0
def tw1941802792274884002:=0
def tw3978331183954725019:=0
def tw1117091184901079321:=0
def tw11252180312953417829:=0
def tw15513403607798370680:=0
def tw479894697451150592:=0
def tw16183769158995651812:=0
def tw15092116184549127124:=0
def tw16707255319912264281:=0
def tw3532465391690740152:=0
def tw13887033910938223348:=0
def tw7556088857644079429:=0
def tw5877428206823119308:=0
def tw5167734698441331899:=0
def tw9145587660416601695:=0
def tw13577079495664047960:=0
def tw13626263216761084822:=0
def tw6843267864238505607:=0
def tw7651202601652415702:=0
def tw9049321249727114828:=0
def tw5361810524820807276:=0
def tw3183238814233869283:=0
def tw3641077549692666475:=0
def tw13650337180298936759:=0
def tw9070869347985059310:=0
def tw1308100730469891095:=0
def tw6961857185677183480:=0
def tw5699626966771087806:=0
def tw771584601076328013:=0
def tw11171098286351050380:=0
def tw4914808213341058069:=0
def tw10292966695341748807:=0
def tw8102427241856290531:=0
def tw13321238077493158484:=0
def tw3383043993691129623:=0
def tw2589867436080230314:=0
def tw7534032288924030278:=0
def tw15134587163496266013:=0
def tw3591521362233977188:=0
def tw7746057294089121180:=0
def tw16826071181479812787:=0
def tw1029935509930489822:=0
def tw12173805728868472880:=0
def tw2807117048586359750:=0
def tw7961365855841012520:=0
def tw10146540191218373690:=0
def tw11741732575691784786:=0
def tw5055628161246610782:=0
def tw11535250155718368055:=0
def tw8671505356599667278:=0
def tw15477107469015784842:=0
def tw11265804667656808140:=0
def tw8093353853641916864:=0
def tw8161319739652378069:=0
def tw17869351017385097597:=0
def tw4512914528875598550:=0
end PySem.W.Fast
set_option maxRecDepth 100000 in
set_option maxHeartbeats 0 in
theorem PySem.Challenge.cw_lampfloor_k71_whole_walker_holds : PySem.Challenge.rw_lampfloor_k71_whole_walker.Holds := by
 w_on;o_law;z_head;(case hw=>w_witness2)
 k_fill
 refine My.walkZ (fun _=>rfl) (My.walk (l:=PySem.Challenge.rw_lampfloor_k71_whole_walker) rfl rfl (fun w h Y=>Y) ?F)
 case F=>
  intro w mg fa h KX G hmg
  refine' My.all_mk My.main hmg (My.mk_txt (My.fo1 KX G rfl (fun _=>rfl) ?_ ?_ ?_ ?_) (My.fo1 KX G rfl (fun _=>rfl) ?_ ?_ ?_ ?_) (My.fo1 KX G rfl (fun _=>rfl) ?_ ?_ ?_ ?_) (My.fo2 KX G rfl (fun _ _=>rfl) ?_ ?_ ?_ ?_) (My.fo1 KX G rfl (fun _=>rfl) ?_ ?_ ?_ ?_) (My.fo2 KX G rfl (fun _ _=>rfl) ?_ ?_ ?_ ?_) (My.fo2 KX G rfl (fun _ _=>rfl) ?_ ?_ ?_ ?_) (My.fo1 KX G rfl (fun _=>rfl) ?_ ?_ ?_ ?_) (My.fo1 KX G rfl (fun _=>rfl) ?_ ?_ ?_ ?_) (My.fo1 KX G rfl (fun _=>rfl) ?_ ?_ ?_ ?_) (My.fo3 KX G rfl (fun _ _ _=>rfl) ?_ ?_ ?_ ?_) (My.fo3 KX G rfl (fun _ _ _=>rfl) ?_ ?_ ?_ ?_) (My.fo1 KX G rfl (fun _=>rfl) ?_ ?_ ?_ ?_) (My.fo2 KX G rfl (fun _ _=>rfl) ?_ ?_ ?_ ?_) (My.fo3 KX G rfl (fun _ _ _=>rfl) ?_ ?_ ?_ ?_) (My.fo2 KX G rfl (fun _ _=>rfl) ?_ ?_ ?_ ?_) (My.fo2 KX G rfl (fun _ _=>rfl) ?_ ?_ ?_ ?_) (My.fo2 KX G rfl (fun _ _=>rfl) ?_ ?_ ?_ ?_) (My.fo3 KX G rfl (fun _ _ _=>rfl) ?_ ?_ ?_ ?_) (My.fo2 KX G rfl (fun _ _=>rfl) ?_ ?_ ?_ ?_) (My.fo2 KX G rfl (fun _ _=>rfl) ?_ ?_ ?_ ?_) (My.fo2 KX G rfl (fun _ _=>rfl) ?_ ?_ ?_ ?_) (My.fo2 KX G rfl (fun _ _=>rfl) ?_ ?_ ?_ ?_) (My.fo2 KX G rfl (fun _ _=>rfl) ?_ ?_ ?_ ?_) (My.fo1 KX G rfl (fun _=>rfl) ?_ ?_ ?_ ?_) (mg_none_of KX G ?_) (mg_none_of KX G ?_) (mg_none_of KX G ?_) (mg_none_of KX G ?_) (mg_none_of KX G ?_) (mg_none_of KX G ?_) (mg_none_of KX G ?_) (mg_none_of KX G ?_) (mg_none_of KX G ?_) (mg_none_of KX G ?_) (mg_none_of KX G ?_) (mg_none_of KX G ?_) (mg_none_of KX G ?_) (mg_none_of KX G ?_) (My.tab_STEPS KX G ?_ ?_ ?_ ?_ ?_ ?_ ?_ ?_ ?_ ?_ ?_) (My.xc_NoStep KX G ?_ ?_ ?_ ?_)) (My.mk_wal KX G ?_ ?_ ?_ ?_ ?_ ?_ ?_ ?_ ?_ ?_ (My.fm3 rfl (fun _ _ _=>rfl) ?_ ?_ ?_ ?_ ?_) (My.fm2 rfl (fun _ _=>rfl) ?_ ?_ ?_ ?_ ?_) (My.fm1 rfl (fun _=>rfl) ?_ ?_ ?_ ?_ ?_) (My.fm1 rfl (fun _=>rfl) ?_ ?_ ?_ ?_ ?_) (My.fm1 rfl (fun _=>rfl) ?_ ?_ ?_ ?_ ?_) (My.fm2 rfl (fun _ _=>rfl) ?_ ?_ ?_ ?_ ?_) (My.fm2 rfl (fun _ _=>rfl) ?_ ?_ ?_ ?_ ?_) (My.fm1 rfl (fun _=>rfl) ?_ ?_ ?_ ?_ ?_))
  any_goals k_is
  any_goals k_exc
  all_goals rfl
