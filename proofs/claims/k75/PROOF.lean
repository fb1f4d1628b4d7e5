import PyProof.Rows.All
import Wide.All
import OpenK.AllK
import Wide.FinOn
import PySem.Challenge.RW_lampfloor_k75_whole_tours
noncomputable section
open PySem renaming wpAny_bind->Qa,wpAny_pure->Qb,wpAny_setState_of->QV,wpAny_holding->Yb,sizeLine_eq->Yo,wpAny_call_entry->Yq,wpAny_newObj_type->Yv,wpAny_truthy_bool->YH,codeAny_builtin->YM,wpAny_callSpecial?_slot->YQ,wpAny_forIn_list->YY,wpAny_typeOf->Y1,wpAny_typeNameOfWhole_keyiter->Y2,wpAny_dictEntries->Y4,wpAny_mono->Y5,plainId_quiet->Ja,wpAny_isInstance->Jc,wpAny_Call_Name_kw->Je,wpAny_rule->Jg,wpAny_passesOwn->Jk,wpAny_pyIter_list->Jn,wpAny_storeSet_of->Jo,putSet_of->Jr,codeAny_mono->Jw,wpAny_specialOf->JC,wpAny_seqItems->JL,wpAny_setEntries_of->JS,wpAny_dictEpoch->JX
open List renaming getElem?_eq_some_iff->Qc,mem_cons_of_mem->Qf,mem_cons_self->Qg,getElem?_eq_getElem->Qi,length_append->Qj,length_map->Qo,mem_singleton->Qp,mem_cons->Qq,getElem?_set_ne->Qr,map_cons->Qs,length_cons->Qt,contains_iff_mem->Qv,mem_append_right->Qw,getElem?_set_self->Qy,mem_append->QA,append_assoc->QD,size_toArray->QJ,getElem?_append_right->QK,mem_append_left->QL,getElem?_map->QN,mem_of_getElem?->QO,append_nil->QP,length_take->QQ,getElem?_append_left->QR,lookup_cons->QS,mem_map->QT,mem_range->QU,getD_eq_getElem?_getD->QY,take_append_drop->QZ,length_filter_le->Q0,getElem?_of_mem->Q3,map_append->Q6,mem_filter->Q9,pairwise_append->Ya,drop_eq_getElem_cons->Yc,length_singleton->Yd,all_eq_true->Yi,map_map->Yj,length_drop->Yk,pairwise_map->Ym,length_range->Yn,nodup_cons->Yp,pairwise_cons->Yt,getElem_mem->Yy,length_eq_zero_iff->YA,pairwise_iff_getElem->YE,getElem?_zip_eq_some->YG,nodup_append->YI,nil_append->YK,foldl_cons->YL,getElem?_replicate->YO,drop_eq_nil_of_le->YW,find?_cons->Y6,filter_cons->Jd,nodup_nil->Ji,all_eq_not_any_not->Jt,eq_nil_of_length_eq_zero->Ju,zip_cons_cons->Jx,take_of_length_le->Jz,any_cons->JD,getElem?_set->JJ,mem_iff_getElem->JK,take_length->JN,not_mem_nil->JP,filterMap_cons->JQ,mem_map_of_mem->JR,length_nil->JV
open Option renaming bind_some->Qd
open PySem.Heap renaming get?_push_of_some->Qe,lt_size->Qu,get?_push_size->Qz,get?_update_self->Ye,size_push->YT,get?_update_other->Jy
open Array renaming length_toList->Qh,getElem?_eq_getElem->QC,getElem?_toList->QI,toList_append->Q5,getElem?_eq_none->YD,perm_iff_toList_perm->YU,size_map->Jh,toList_filterMap->JB,toList_push->JG
open Nat renaming le_refl->Qk,ne_of_lt->QG,le_trans->QH,lt_of_lt_of_le->QX,zero_le->Q2,zero_add->Q7,le_add_right->Yg,not_lt_zero->Yx,le_of_lt->YJ,eq_or_lt_of_le->YN,le_of_not_lt->YR,add_sub_cancel_left->YS,lt_of_le_of_lt->YZ,lt_irrefl->Y0,mul_le_mul->Y3,lt_succ_self->Jb,ne_of_gt->Jv,le_of_lt_succ->JF,lt_succ_of_lt->JH,lt_or_ge->JM,add_zero->JO
open Bool renaming false_eq_true->Qm,false_ne_true->QB,and_eq_true_iff->QM,and_eq_true->QW,not_eq_true'->Yh,not_eq_true->Yl,not_true->Ys,eq_iff_iff->Jl,true_and->JU
open PyProof.Rows renaming wpS_bind->Qx,wpS_pure->QE,wpS_forRange->Yw,slot_tuple_getitem->YX,callWith_type1->Y8,wpS_mono->Jq,KK_mirror_equal->JW,wpS_modify->JY
open Option.some renaming inj->QF
open PySem.SeqAt renaming canLay_of_shaped->Q1
open PySem.Heap.SameBut renaming update->Q8,refl->JI
open PyProof.Rows.KeyOrd renaming kle_trans->Yf,kle_refl->Yu,kle_of_klt->YV
open PySem.PassesOwn renaming never->Yr
open LawfulBEq renaming eq_of_beq->Yz
open PySem.Around renaming under_plainId->YB
open List.Nodup renaming length_le_of_subset->YC
open Classical renaming byContradiction->YF
open PySem.List renaming filterMap_getElem?_range_length->Y7
open PySem.SetTable renaming insertAt_perm->Y9
open Int renaming natCast_nonneg->Jf,ofNat_lt->Jp,emod_lt_of_pos->JA,toNat_natCast->JE,toNat_of_nonneg->JT
open PySem.Obj renaming data_mapFields->Jj
open Prod renaming ext->Jm
open PyProof.Rows.F renaming plain_set_update_loop->Js
open PySem renaming Addr->YP,Value->JZ,Shared->J0,starEach->J2,wpAny->J3,model->J4,Program->J5,World->J6,compareOp->Ze,cLine->Zf,FuncData->Zh,mainGlobals->Zj,sysModules->Zm,eval->Zr,backTo->Zt,Stmt->Zv,bootBuiltins->Zw,foldedSetIterable->Zx,strIterType->ZA,assignEach->ZB,swapsWith->ZC,binaryOp->ZD,attributeBase->ZE,DictEntry->ZI,behindInMarks->ZN,keywordEach->ZT,bindArgs->Z8,codeAny->Ud,Scope->Uf,pyNext->Uh,Keyword->Us,sliceBounds->Uz,holding->UB,backToKw->UC,isSubtype_type->UJ,wpAny_setField->UK,wpAny_tryCatch->UL,argBest->UM,builtinLookup_eq_fast->UO,wpAny_notOrdered_dict->UQ,getitemInPython_of_ne->UR,wpAny_askSetting->UU,wpAny_attempt->UX,NameKind->UZ,richCompare->U0,wpAny_of_eq->U2,wpAny_letTemporaryGo->U3,wpAny_pyIter_keyiter->U4,wpAny_execs_nil->U5,letOwnedTupleGo->U6,wpAny_loadPart'->U9,wpAny_updateSeq->Ve,Reads->Vg,wpAny_fieldsOf->Vo,firstArgMember->Vp,subscripted->Vs,assign->Vu,GenState->Vv,ReadsAll->Vx,rawInt->Vy,IsPart->Vz,atKey->VB
open And renaming intro->J1
open PyProof.Rows renaming arrOf->J7,Keyed->Zl,pendingOf->Zn,SortSt->ZG,setArr->ZR,SortKind->Z1,failedOf->Uk,IntsAre->UE,seqObj->UG,pairsOf_size->UH,subscriptTail->UV,wpS_get->UW,envOfC->U8,room_in_shaped->Vm,AllBare->Vq,pairsOf->Vt,wpS_lift->Vw
open PySem.PyData renaming bool->J8,int->J9,canLayAll0->Zg,depthAll->Zs,list->ZO,canLay0->ZP,eqv->ZX,str->Z7,eqvAll->Ua,tuple->Ue,depth->UI
open List renaming range->Za,Perm->Zk,lookup->ZS,replicate->Z0,zip->Z9,filterMap_cons_some->Um,getElem?_take->Uv,getElem?_drop->Uw,contains_cons->Uy,take_sublist->UD,getElem?_eq_none->UN,Nodup->UT,of_mem_zip->U7,length->Vr
open PySem.Value renaming ref->Zb,none->ZH,bool->ZV,type->Z3,isStrOf->Ui,isInt_shape->UA,int->Vk
open PySem.NameKind renaming free->Zc,cell->Ul
open Or renaming inr->Zd,inl->Zi
open PySem.SetTable renaming sizeAbove->Zo,below->Zu,insertAt->Zy,runEnd->ZY,eraseAt->Z6,fits->Uo,fill->Uq,turns->VA
open PySem.Heap renaming SameBut->Zp
open PySem.SeqAt renaming shaped->Zz
open PySem.Obj renaming putSet->ZF,mapSeq->Z5,isFreed_of_fields->UP
open False renaming elim->ZJ
open ForInStep renaming yield->ZK
open PySem.Str renaming ofString->ZM
open PySem.Builtin.Slice renaming slicePlaces->ZQ,sliceAdjust->Ug
open List.Pairwise renaming nil->ZU
open PySem.Builtin.Tuple renaming tupleExact->ZW
open PySem.Builtin.Frozenset renaming addrOf->ZZ,isAnySet->Uc,sizeOf->Ur
open PySem.Builtin.Dict renaming updateFrom->Z2,showsAll->US
open Ne renaming symm->Z4
open True renaming intro->Ub
open PySem.Builtin.List renaming listTooLong->Uj
open Array renaming replicate->Ut,forIn_toList->Ux,getD->Vn
open Bool renaming not_eq_false'->Uu,not_false->UF,and_self->UY,false_and->Vl
open PySem.SetTable.probe renaming go->U1
open Nat renaming le_antisymm->Vc,succ_pos->Vh,lt_trans->Vi
open PySem.SeqAt.ReadsAll renaming length->Vd
open Int renaming emod_nonneg->Vf,toNat_lt->Vj
set_option Elab.async false
set_option linter.all false
set_option maxRecDepth 100000
set_option maxHeartbeats 4000000
set_option compiler.extract_closed false
set_option genInjectivity false
set_option genSizeOf false
set_option genSizeOfSpec false
set_option bootstrap.genMatcherCode false
open PySem PyProof.Rows
noncomputable section
namespace L2
open PySem.Spec
abbrev fU:=Sum Int Str
def HB:fU->JZ->Bool
 | .inl k,v=>Value.isInt k v
 | .inr x,v=>Ui x v
def M8(w:J6):fU->Int
 | .inl k=>hashInt k
 | .inr x=>hashStr w x
theorem kU:∀{k:fU}{v:JZ},HB k v=true->(∃ i t,k=Sum.inl i/\v=Vk i t) ∨ (∃ x t,k=Sum.inr x/\v=Value.str x t)
 | .inl i,v,h=>by
  obtain⟨t,e⟩:=UA (k:=i) (v:=v) h;exact .inl ⟨i,t,rfl,e⟩
 | .inr x,v,h=>by
  obtain⟨t,e⟩:=Value.isStrOf_shape (x:=x) (v:=v) h;exact .inr ⟨x,t,rfl,e⟩
theorem To(a b:Int):decide ((Sum.inl a:fU)=Sum.inl b)=(a == b):=by
 by_cases e:a=b
 ·subst e;simp
 ·have h:¬ (Sum.inl a:fU)=Sum.inl b:=fun q=>e (Sum.inl.inj q);rw [decide_eq_false h]
  exact(beq_eq_false_iff_ne.mpr e).symm
theorem Ts(a b:Str):decide ((Sum.inr a:fU)=Sum.inr b)=decide (a=b):=by
 by_cases e:a=b
 ·subst e;simp
 ·have h:¬ (Sum.inr a:fU)=Sum.inr b:=fun q=>e (Sum.inr.inj q);rw [decide_eq_false h,decide_eq_false e]
theorem Tp(a:Int)(b:Str):decide ((Sum.inl a:fU)=Sum.inr b)=false:=decide_eq_false (fun q=>nomatch q)
theorem Tq(a:Str)(b:Int):decide ((Sum.inr a:fU)=Sum.inl b)=false:=decide_eq_false (fun q=>nomatch q)
def Hc(prog:J5)(w:J6):PySem.KeyKind prog w fU where
 is:=HB
 hash:=M8 w
 inj:=fun v a b g d=>by
  rcases kU g with⟨i,t,rfl,rfl⟩ | ⟨x,t,rfl,rfl⟩
  ·rcases kU d with⟨j,u,rfl,e⟩ | ⟨y,u,rfl,e⟩
   ·injection e with e1 _;rw [e1]
   ·exact nomatch e
  ·rcases kU d with⟨j,u,rfl,e⟩ | ⟨y,u,rfl,e⟩
   ·exact nomatch e
   ·injection e with e1 _;rw [e1]
 byValue:=fun k v h=>by
  rcases kU h with⟨i,t,rfl,rfl⟩ | ⟨x,t,rfl,rfl⟩ <;> rfl
 pyHash:=fun c h=>by
  rcases kU c with⟨i,t,rfl,rfl⟩ | ⟨x,t,rfl,rfl⟩
  ·exact wpAny_pyHash_int h
  ·exact wpAny_pyHash_str h
 eqBool:=fun f c h=>by
  rcases kU f with⟨i,t,rfl,rfl⟩ | ⟨x,t,rfl,rfl⟩
  ·rcases kU c with⟨j,u,rfl,rfl⟩ | ⟨y,u,rfl,rfl⟩
   ·rw [To]at h;exact wpAny_eqBool_int h
   ·rw [Tp]at h;exact SeqAt.EqAt.int_str i t y u _ _ _ _ h
  ·rcases kU c with⟨j,u,rfl,rfl⟩ | ⟨y,u,rfl,rfl⟩
   ·rw [Tq]at h;exact SeqAt.EqAt.str_int x t j u _ _ _ _ h
   ·rw [Ts]at h;exact wpAny_eqBool_str h
 «strs»:=fun k x t v h=>by
  rcases kU h with⟨i,u,rfl,e⟩ | ⟨y,u,rfl,e⟩
  ·exact nomatch e
  ·injection e with e1 _
   subst e1
   cases v <;> rfl
inductive V where
 | non | bl (b:Bool) | int (i:Int) | str (x:Str) | byt (b:Array UInt8) | flt (b:UInt64) | ref (a:YP) | ty (n:String)
 deriving DecidableEq
def RelV:V->JZ->Prop
 | .non,u=>u=ZH
 | .bl b,u=>u=ZV b
 | .int i,u=>∃ t,u=Vk i t
 | .str x,u=>∃ t,u=Value.str x t
 | .byt b,u=>∃ t,u=Value.bytes b t
 | .flt b,u=>∃ t,u=Value.float b t
 | .ref a,u=>u=Zb a
 | .ty n,u=>u=Z3 n
abbrev Vals:List V->List JZ->Prop:=Paired RelV
theorem Vals.length{xs:List V}{us:List JZ}(r:Vals xs us):xs.length=us.length:=Paired.length r
theorem Vals.get:∀{xs:List V}{us:List JZ}{i:Nat}{x:V},Vals xs us->xs[i]?=some x->∃ u,us[i]?=some u/\RelV x u
 | _,_,_,_,.nil,e=>by simp at e
 | _,_,0,_,.cons r _,e=>by simp at e;subst e;exact⟨_,rfl,r⟩
 | _,_,i+1,x,.cons _ t,e=>by
  obtain⟨u,b,a⟩:=Vals.get (i:=i) (x:=x) t (by simpa using e)
  exact⟨u,by simpa using b,a⟩
theorem Vals.append:∀{xs ys:List V}{us ws:List JZ},Vals xs us->Vals ys ws->Vals (xs++ys) (us++ws)
 | _,_,_,_,.nil,s=>s
 | _,_,_,_,.cons r t,s=>.cons r (Vals.append t s)
theorem Vals.take:∀{xs:List V}{us:List JZ} (n:Nat),Vals xs us->Vals (xs.take n) (us.take n)
 | _,_,0,_=>.nil
 | _,_,_+1,.nil=>.nil
 | _,_,n+1,.cons r t=>.cons r (Vals.take n t)
theorem Vals.drop:∀{xs:List V}{us:List JZ} (n:Nat),Vals xs us->Vals (xs.drop n) (us.drop n)
 | _,_,0,r=>r
 | _,_,_+1,.nil=>.nil
 | _,_,n+1,.cons _ t=>Vals.drop n t
def jO:Option V->Option JZ->Prop
 | some v,some u=>RelV v u
 | none,none=>True
 | _,_=>False
def KV{κ:Type}:List (κ × V)->List (κ × JZ)->Prop:=Paired fun(p:κ × V) (q:κ × JZ)=>p.1=q.1/\RelV p.2 q.2
def kV:fU->V
 | .inl i=>.int i
 | .inr x=>.str x
inductive HO where
 | lst (xs:List V)
 | tup (xs:List V)
 | dK (kvs:List (fU × V)) | dT (kvs:List (List fU × V))
 | set (S:Int->Bool) (n:Nat)
 | ins (C dx:YP) (fs:List (Str × V))
 | own (x:YP)
 | xd (fs:List (Str × V))
 | met (f x:YP)
 | rng (lo hi:Int)
 | frz (o:Obj) (u:HO)
 | tbl (ps:Array JZ)
 | ext (φ:Heap->Prop)
abbrev Hp:=YP->Option HO
def aJ(H:Hp)(a:YP)(o:HO):Hp:=fun b=>if b=a then some o else H b
theorem cP{H:Hp}{a:YP}{o:HO}:aJ H a o a=some o:=by unfold aJ;rw [if_pos rfl]
theorem aU{H:Hp}{a b:YP}{o:HO}(h:b≠a):aJ H a o b=H b:=by unfold aJ;rw [if_neg h]
theorem qK{H:Hp}{a b:YP}{o u:HO}(h:H a=some o)(h':H b=some u)(d:o≠u):a≠b:=by
 intro e;subst e;rw [h]at h';exact d (QF h')
theorem j8{H:Hp}{a b:YP}{o:HO}(h:H a=some o)(h':H b=none):a≠b:=by
 intro e;subst e;rw [h]at h';cases h'
section
variable (P:J5)(w:J6)
def eG(H:Hp)(h:Heap)(a:YP):HO->Prop
 | .lst c=>c.length<=sizeLine/\∃(its:List JZ) (n:Nat),Vals c its/\h.get? a=some { cls:=.type "list",data:=.seq its.toArray n }
 | .tup c=>c.length<=sizeLine/\∃ its:List JZ,Vals c its/\IsTup h a its.toArray
 | .dK b=>b.length<=sizeLine/\(a == Zm)=false/\∃ vs,KV b vs/\h.DictOf (Hc P w) a vs
 | .dT b=>b.length<=sizeLine/\(a == Zm)=false/\∃ c:List (List fU × YP × JZ),
   Paired (fun(p:List fU × V) (q:List fU × YP × JZ)=>p.1=q.1/\H q.2.1=some (.tup (p.1.map kV))/\RelV p.2 q.2.2) b c /\
   ∃ o es ep,h.get? a=some o/\o.ExactDict/\o.data=.dict es ep/\es.toList=c.map (entryOfKey (tupleKind (Hc P w)))/\(c.map (·.1)).Nodup
 | .set S n=>h.SetOf (intKind P w) a S n
 | .ins C d fs=>H d=some (.own a)/\fs.length<=1000/\d≠a/\h.get? a=some (PySem.W.instObj C d) /\
   ∃ mA,h.Ns1 d mA/\(∀ f,jO (fs.lookup f) (mA f))/\PySem.Within mA (fs.map (·.1))
 | .own _=>∃ o,h.get? a=some o
 | .xd fs=>∃ mA,h.Ns1 a mA/\∀ f,jO (fs.lookup f) (mA f)
 | .rng g i=>∃ t u v,h.get? a=some { cls:=.type "range",data:=.fields #[.int g t,.int i u,.int 1 v] }
 | .frz o u=>h.get? a=some o/\eG H h a u
 | .tbl e=>h.get? a=some { cls:=.none,data:=.fields e }
 | .met f x=>h.get? a=some (PySem.W.methodObj (.ref f) (.ref x))
 | .ext φ=>φ h/\(∃ o,h.get? a=some o)/\∀ h1 h2:Heap,φ h1->(∀ o,h1.get? a=some o->h2.get? a=some o)->φ h2
def c6(H:Hp)(h:Heap):Prop:=∀ a o,H a=some o->eG P w H h a o
end
section
variable {P:J5}{w:J6}{H H':Hp}{h h':Heap}{a:YP}{o:HO}
theorem eG.lt(x:eG P w H h a o):a<h.objs.size:=by
 cases o with
 | lst c=>obtain⟨_,_,_,_,e⟩:=x;exact Qu e
 | tup c=>obtain⟨_,_,_,p⟩:=x;exact p.lt
 | dK b=>obtain⟨_,_,_,_,o,_,_,e,_⟩:=x;exact Qu e
 | dT b=>obtain⟨_,_,_,_,o,_,_,e,_⟩:=x;exact Qu e
 | set S n=>obtain⟨o,_,_,_,e,_⟩:=x;exact Qu e
 | ins C k fs=>obtain⟨_,_,_,e,_⟩:=x;exact Qu e
 | own y=>obtain⟨_,e⟩:=x;exact Qu e
 | xd fs=>obtain⟨_,⟨_,_,_,e,_⟩,_⟩:=x;exact Qu e
 | rng i j=>obtain⟨_,_,_,e⟩:=x;exact Qu e
 | frz g u=>obtain⟨e,_⟩:=x;exact Qu e
 | tbl d=>exact Qu (show h.get? a=some _ from x)
 | met f y=>exact Qu (show h.get? a=some _ from x)
 | ext φ=>obtain⟨_,⟨_,e⟩,_⟩:=x;exact Qu e
theorem Paired.mapP{d c:Type}{F G:d->c->Prop}:∀{l₁:List d}{l₂:List c},Paired F l₁ l₂->(∀ a b,F a b->G a b)->Paired G l₁ l₂
 | _,_,.nil,_=>.nil
 | _,_,.cons r t,f=>.cons (f _ _ r) (Paired.mapP t f)
theorem eG.stay(x:eG P w H h a o)(k:∀ b u,(b=a ∨ H b=some (.own a))->h.get? b=some u->h'.get? b=some u)
  (K:∀ b,H b=some (.own a)->H' b=some (.own a)) (J:∀ b xs,H b=some (.tup xs)->H' b=some (.tup xs)):eG P w H' h' a o:=by
 induction o with
 | lst xs=>obtain⟨z,l,n,r,e⟩:=x;exact⟨z,l,n,r,k _ _ (.inl rfl) e⟩
 | tup xs=>obtain⟨z,l,r,g,e,c⟩:=x;exact⟨z,l,r,g,k _ _ (.inl rfl) e,c⟩
 | dK A=>obtain⟨z,y,F,r,g,i,j,e,c⟩:=x;exact⟨z,y,F,r,g,i,j,k _ _ (.inl rfl) e,c⟩
 | dT A=>
  obtain⟨z,y,xs,r,g,i,j,e,c⟩:=x
  exact⟨z,y,xs,Paired.mapP r fun p q z=>⟨z.1,J _ _ z.2.1,z.2.2⟩,g,i,j,k _ _ (.inl rfl) e,c⟩
 | set S n=>obtain⟨g,i,j,t,e,c⟩:=x;exact⟨g,i,j,t,k _ _ (.inl rfl) e,c⟩
 | ins C Q fs=>
  obtain⟨d,z,G,e,s,⟨m,i,j,M,c⟩,r⟩:=x
  exact⟨K _ d,z,G,k _ _ (.inl rfl) e,s,⟨m,i,j,k _ _ (.inr d) M,c⟩,r⟩
 | own y=>obtain⟨g,e⟩:=x;exact⟨g,k _ _ (.inl rfl) e⟩
 | xd fs=>obtain⟨s,⟨m,i,j,e,c⟩,r⟩:=x;exact⟨s,⟨m,i,j,k _ _ (.inl rfl) e,c⟩,r⟩
 | rng N O=>obtain⟨t,u,v,e⟩:=x;exact⟨t,u,v,k _ _ (.inl rfl) e⟩
 | frz g u I=>obtain⟨e,q⟩:=x;exact⟨k _ _ (.inl rfl) e,I q⟩
 | tbl E=>
  have e:h.get? a=some { cls:=.none,data:=.fields E }:=x
  show h'.get? a=some { cls:=.none,data:=.fields E }
  exact k a _ (.inl rfl) e
 | met f y=>
  have e:h.get? a=some (PySem.W.methodObj (.ref f) (.ref y)):=x
  show h'.get? a=some (PySem.W.methodObj (.ref f) (.ref y))
  exact k a _ (.inl rfl) e
 | ext φ=>obtain⟨p,⟨o,e⟩,B⟩:=x;exact⟨B _ _ p fun o q=>k _ _ (.inl rfl) q,⟨o,k _ _ (.inl rfl) e⟩,B⟩
theorem c6.lt(x:c6 P w H h)(e:H a=some o):a<h.objs.size:=(x a o e).lt
theorem c6.fresh(x:c6 P w H h)(e:h.objs.size<=a):H a=none:=by
 cases q:H a with
 | none=>rfl
 | some u=>exact absurd (QX (x.lt q) e) (Y0 _)
theorem c6.kept(x:c6 P w H h)(k:∀ b u,h.get? b=some u->h'.get? b=some u):c6 P w H h':=fun a o e=>
 (x a o e).stay (fun b u _ q=>k b u q) (fun _ q=>q) fun _ _ q=>q
theorem c6.laid(x:c6 P w H h)(k:∀ b u,h.get? b=some u->h'.get? b=some u)(i:h.objs.size<=a)(d:eG P w (aJ H a o) h' a o):c6 P w (aJ H a o) h':=fun b u e=>by
 have f:=x.fresh i;by_cases g:b=a
 ·subst g;rw [cP]at e;cases e;exact d
 ·rw [aU g]at e
  exact(x b u e).stay (fun c v _ q=>k c v q) (fun c q=>by rw [aU (j8 q f)];exact q) fun c j q=>by rw [aU (j8 q f)];exact q
end
def Rd(H:Hp)(a:YP)(u:HO):Prop:=H a=some u ∨ ∃ o,H a=some (.frz o u)
theorem Rd.ok{P:J5}{w:J6}{H:Hp}{h:Heap}{a:YP}{u:HO}(r:Rd H a u)(x:c6 P w H h):eG P w H h a u:=by
 rcases r with r | ⟨o,r⟩
 ·exact x a u r
 ·obtain⟨_,q⟩:=x a _ r;exact q
def uJ:Option HO->Prop
 | some (.lst _)=>True
 | some (.dK _)=>True
 | some (.dT _)=>True
 | some (.set _ _)=>True
 | some (.ins _ _ _)=>True
 | some (.ext _)=>True
 | _=>False
section
variable {P:J5}{w:J6}{H:Hp}{h h':Heap}{x e:YP}{o':HO}
theorem c6.write(ok:c6 P w H h)(i:uJ (H x))(he:e=x ∨ H e=some (.own x))(k:∀ b u,b≠e->h.get? b=some u->h'.get? b=some u)(n:∃ u,h'.get? e=some u)
  (m:eG P w (aJ H x o') h' x o'):c6 P w (aJ H x o') h':=fun b u q=>by
 have d:∀ c y,H c=some (.own y)->c≠x:=fun c y r z=>by subst z;rw [r]at i;exact i
 have f:∀ c g,H c=some (.tup g)->c≠x:=fun c g r z=>by subst z;rw [r]at i;exact i
 by_cases l:b=x
 ·subst l;rw [cP]at q;cases q;exact m
 ·rw [aU l]at q;by_cases a:b=e
  ·have o:H b=some (.own x):=by
    rcases he with z | z
    ·exact absurd (a.trans z) l
    ·rw [a];exact z
   rw [q]at o;cases o;obtain⟨v,p⟩:=n
   exact⟨v,by rw [a];exact p⟩
  ·refine(ok b u q).stay (fun c v j r=>k c v ?_ r) (fun c r=>by rw [aU (d c b r)];exact r) fun c g r=>by rw [aU (f c g r)];exact r
   rcases j with rfl | j
   ·exact a
   ·rintro rfl;rcases he with z | z
    ·exact d c b j z
    ·rw [j]at z;cases z;exact l rfl
end
structure Un(fs ex:List YP)(H H':Hp)(h h':Heap):Prop where
 keep:∀ b o,h.get? b=some o->H b=none->b∉fs->b∉ex->h'.get? b=some o
 slot:∀ b o,h.get? b=some o->H b=none->b∈fs->b∉ex->∃ sl,h'.get? b=some { o with slots:=sl }
 free:∀ b o,h.get? b=some o->H b=none->b∉ex->H' b=none
 there:∀ b o,h.get? b=some o->b∉ex->∃ o',h'.get? b=some o'
 tups:∀ b xs,H b=some (.tup xs)->H' b=some (.tup xs)
 frzs:∀ b o u,H b=some (.frz o u)->H' b=some (.frz o u)
 tbls:∀ b ps,H b=some (.tbl ps)->∃ more,H' b=some (.tbl (ps++more))
section
variable {fs fs' ex ex':List YP}{H H1 H2:Hp}{h h1 h2 h':Heap}{a x e:YP}{o:HO}
theorem Un.any(u:Un fs ex H H1 h h1){b:YP}{a:Obj}(q:h.get? b=some a)(n:H b=none)(c:b∉ex):∃ sl,h1.get? b=some { a with slots:=sl }:=by
 by_cases d:b∈fs
 ·exact u.slot b a q n d c
 ·exact⟨a.slots,u.keep b a q n d c⟩
theorem Un.kept(k:∀ b u,h.get? b=some u->h'.get? b=some u):Un fs ex H H h h':=
 ⟨fun b a q _ _ _=>k b a q,fun b a q _ _ _=>⟨a.slots,k b a q⟩,fun _ _ _ n _=>n,fun b a q _=>⟨a,k b a q⟩,fun _ _ q=>q,fun _ _ _ q=>q,fun _ c q=>⟨#[],by rw [q];simp⟩⟩
theorem Un.refl:Un fs ex H H h h:=Un.kept fun _ _ q=>q
theorem Un.laid(k:∀ b u,h.get? b=some u->h'.get? b=some u)(e:h.objs.size<=a)(c:H a=none):Un fs ex H (aJ H a o) h h' where
 keep:=fun b u q _ _ _=>k b u q
 slot:=fun b u q _ _ _=>⟨u.slots,k b u q⟩
 free:=fun b u q n _=>by rw [aU (QG (QX (Qu q) e))];exact n
 there:=fun b u q _=>⟨u,k b u q⟩
 tups:=fun b d q=>by rw [aU (j8 q c)];exact q
 frzs:=fun b u d q=>by rw [aU (j8 q c)];exact q
 tbls:=fun b f q=>⟨#[],by rw [aU (j8 q c),q];simp⟩
theorem Un.write(c:uJ (H x))(he:e=x ∨ H e=some (.own x))(k:∀ b u,b≠e->h.get? b=some u->h'.get? b=some u)(f:∃ u,h'.get? e=some u):Un fs ex H (aJ H x o) h h':=by
 have g:∀ b,H b=none->b≠x:=fun b n z=>by subst z;rw [n]at c;exact c
 have i:∀ b,H b=none->b≠e:=fun b n z=>by
  subst z;rcases he with r | r
  ·exact g b n r
  ·rw [n]at r;cases r
 have d:∀ b u,H b=some u->¬ uJ (some u)->b≠x:=fun b u q l z=>by subst z;rw [q]at c;exact l c
 refine⟨fun b u q n _ _=>k b u (i b n) q,fun b u q n _ _=>⟨u.slots,k b u (i b n) q⟩,fun b u q n _=>by rw [aU (g b n)];exact n,fun b u q _=>?_,
  fun b j q=>by rw [aU (d b _ q fun z=>z)];exact q,fun b u j q=>by rw [aU (d b _ q fun z=>z)];exact q,fun b m q=>⟨#[],by rw [aU (d b _ q fun z=>z),q];simp⟩⟩
 by_cases a:b=e
 ·subst a;exact f
 ·exact⟨u,k b u a q⟩
end
def vM(h:Heap)(H:Hp):List YP:=(Za h.objs.size).filter fun a=>(H a).isSome
def kI(h:Heap)(H:Hp):Heap:=PySem.W.hideAll h (vM h H)
theorem VD(h:Heap)(H:Hp):(kI h H).objs.size=h.objs.size:=PySem.W.hideAll_size _ _
theorem VC(e:h.get? b=some o)(n:H b=none):(kI h H).get? b=some o:=
 PySem.W.hideAll_get _ e fun a=>by
  have q:(H b).isSome=true:=(Q9.mp a).2;rw [n]at q;simp at q
theorem Wi(e:(kI h H).get? b=some o):h.get? b=some o/\H b=none:=by
 have a:h.get? b=some o:=PySem.W.of_hideAll (vM h H) e
 refine⟨a,?_⟩
 cases q:H b with
 | none=>rfl
 | some x=>
  have c:b∈vM h H:=Q9.mpr ⟨QU.mpr (Qu a),by simp [q]⟩;have z:(kI h H).get? b=none:=PySem.W.hideAll_none (vM h H) c;rw [z]at e;cases e
structure Mod(K:PySem.W.Frag)(mg:Str->Option JZ)(base:Heap):Prop where
 kin:K.In base
 glob:base.Ns Zj mg
 blt:∃ mb,base.Ns builtinsNs mb/\∀ x:Str,x≠"__name__"->mb x=Zw x
 nolimit:base.NoLimit
structure Cx where
 prog:J5
 w:J6
 K:PySem.W.Frag
 mg:Str->Option JZ
 base:Heap
 A:Around
 N:List Str
 s₀:J0
 H₀:Hp
 env:Env
 outer:List Env
 stack:List Env
 ex:List YP
 fn:Str->Bool
 calm:Bool
 pn:List (YP × Obj)
 xe:JZ->J0->Prop
def iS(l:List Env):List YP:=l.filterMap (·.frame)
abbrev Cx.fs(X:Cx):List YP:=iS X.outer
def gD(a:Uf)(x:Str):Prop:=a.names.lookup x=some .local ∨ a.names.lookup x=some .cell ∨ a.names.lookup x=some .free
def Loc(a:Uf)(x:Str):Prop:=a.names.lookup x=some .local ∨ a.names.lookup x=some .cell
def LQ(env:Env)(h:Heap)(m:Str->Option JZ)(x:Str)(u:JZ):Prop:=
 (env.kindOf x=some .local/\m x=some u) ∨ ((env.kindOf x=some .cell ∨ env.kindOf x=some .free)/\∃ c,env.cells.lookup x=some c/\h.IsCell c (some u))
structure Cx.Ok(X:Cx):Prop where
 mod:Mod X.K X.mg X.base
 kind:X.env.scope.kind=.function
 glob:X.env.globals=Zj
 blt:X.env.builtins=builtinsNs
 above:X.s₀.heap.objs.size<=X.env.locals
 inj:∀ x y c,X.env.cells.lookup x=some c->X.env.cells.lookup y=some c->x=y
 has:∀ x,(X.env.kindOf x=some .cell ∨ X.env.kindOf x=some .free)->∃ c,X.env.cells.lookup x=some c
 cab:∀ x c,X.fn x=true->X.env.cells.lookup x=some c->X.s₀.heap.objs.size<=c
 hd:X.calm=true->X.A.handled=none
 frames:X.A.frames=some X.stack
 stk:X.stack=X.outer ∨ (X.stack=X.env::X.outer/\X.env.frame=some X.env.locals)
 exf:∀ b∈X.ex,b≠X.env.locals/\∀ x c,X.env.cells.lookup x=some c->c≠b
 bs:∀ b o,X.base.get? b=some o->X.s₀.heap.get? b=some o/\X.H₀ b=none
 bsz:X.base.objs.size<=X.s₀.heap.objs.size
 noex:∀ b o,X.base.get? b=some o->b∉X.ex
 exfs:∀ b∈X.ex,b∉X.fs
 funs:X.s₀.heap.FunFrames X.base X.outer
 frf:∀ b∈X.fs,X.H₀ b=none
structure Inv(X:Cx)(pins:List (YP × Obj))(σ:List (Option V))(H:Hp)(s:J0):Prop where
 ok:X.Ok
 os:s.os=X.s₀.os
 bare:Vq s.gens
 base:Un X.fs X.ex X.H₀ H X.s₀.heap s.heap
 loc:∃ m,s.heap.Ns X.env.locals m/\∀(i:Nat) (x:Str) (v:V),X.N[i]?=some x->σ[i]?=some (some v)->gD X.env.scope x->∃ u,RelV v u/\LQ X.env s.heap m x u
 cell:∀ x c,X.env.cells.lookup x=some c->∃ v,s.heap.IsCell c v
 free:H X.env.locals=none
 freeC:∀ x c,X.env.cells.lookup x=some c->H c=none
 pin:∀ p∈X.pn++pins,s.heap.get? p.1=some p.2/\H p.1=none/\p.1≠X.env.locals/\p.1∉X.fs/\∀ v,p.2.data≠.cell v
 hok:c6 X.prog X.w H s.heap
 len:σ.length=X.N.length
section
variable {X:Cx}{pins:List (YP × Obj)}{σ:List (Option V)}{H H':Hp}{s:J0}{h':Heap}
theorem Cx.Ok.nofr(ok:X.Ok)(e:X.base.get? b=some o):b∉X.fs:=fun a=>by
 have:=(ok.funs.mem a).1
 rw [e]at this;cases this
theorem Inv.bs(I:Inv X pins σ H s):∀ b o,X.base.get? b=some o->s.heap.get? b=some o/\H b=none:=fun b o e=>
 ⟨I.base.keep b o (I.ok.bs b o e).1 (I.ok.bs b o e).2 (I.ok.nofr e) (I.ok.noex b o e),I.base.free b o (I.ok.bs b o e).1 (I.ok.bs b o e).2 (I.ok.noex b o e)⟩
theorem Inv.bk(I:Inv X pins σ H s):∀ b o,X.base.get? b=some o->s.heap.get? b=some o:=fun b o e=>(I.bs b o e).1
theorem Inv.mod(I:Inv X pins σ H s):Mod X.K X.mg X.base:=I.ok.mod
theorem Inv.kIn(I:Inv X pins σ H s):X.K.In s.heap:=I.ok.mod.kin.keeps I.bk
theorem Inv.lt(I:Inv X pins σ H s):X.env.locals<s.heap.objs.size:=let⟨_,hn,_⟩:=I.loc;hn.lt
theorem Inv.sz(I:Inv X pins σ H s):X.s₀.heap.objs.size<=s.heap.objs.size:=QH I.ok.above (YJ I.lt)
theorem Inv.nofs(I:Inv X pins σ H s)(h:s.heap.objs.size<=a):a∉X.fs:=fun c=>by
 obtain⟨_,o,b,_⟩:=I.ok.funs.mem c;exact absurd (QX (Qu b) (QH I.sz h)) (Y0 _)
theorem Inv.cne(I:Inv X pins σ H s):∀ x c,X.env.cells.lookup x=some c->c≠X.env.locals:=fun x c e z=>by
 obtain⟨v,o,d,f⟩:=I.cell x c e;obtain⟨m,⟨g,h,i,a,b,_⟩,_⟩:=I.loc;rw [z,a]at d;cases d;rw [b]at f;cases f
theorem Inv.funs(I:Inv X pins σ H s):s.heap.FunFrames X.base X.outer:=by
 have all:∀(l:List Env),(∀ b∈iS l,b∈X.fs)->X.s₀.heap.FunFrames X.base l->s.heap.FunFrames X.base l:=by
  intro l
  induction l with
  | nil=>intro _ _;trivial
  | cons p r g=>
   intro f k;obtain⟨m,⟨L,o,a,j,i,n⟩,h⟩:=k;have d:L∈X.fs:=f L (by unfold iS;rw [JQ,a];exact Qg);obtain⟨q,e⟩:=I.base.slot L o i (I.ok.frf L d) d fun z=>I.ok.exfs L z d
   exact⟨m,⟨L,_,a,j,e,n⟩,g (fun b c=>f b (by unfold iS;rw [JQ,a];exact Qf _ c)) h⟩
 exact all X.outer (fun _ c=>c) I.ok.funs
theorem Inv.stack(I:Inv X pins σ H s):s.heap.FunFrames X.base X.stack:=by
 rcases I.ok.stk with e | ⟨e,b⟩
 ·rw [e];exact I.funs
 ·rw [e];obtain⟨m,a,_⟩:=I.loc;refine .cons (by rw [I.ok.kind];decide) b a ?_ I.funs;exact Heap.get?_none_of_le (QH I.ok.bsz I.ok.above)
theorem Inv.stkSub(I:Inv X pins σ H s):∀ b∈iS X.stack,b∈X.env.locals::X.fs:=fun b a=>by
 rcases I.ok.stk with e | ⟨e,c⟩
 ·rw [e]at a;exact Qf _ a
 ·rw [e]at a;unfold iS at a;rw [JQ,c]at a;exact a
theorem Inv.stkFree(I:Inv X pins σ H s):∀ b∈iS X.stack,H b=none:=fun b a=>by
 rcases Qq.mp (I.stkSub b a)with e | a
 ·rw [e];exact I.free
 ·obtain⟨_,o,c,_⟩:=I.ok.funs.mem a;exact I.base.free b o c (I.ok.frf b a) fun z=>I.ok.exfs b z a
theorem Inv.step{g':Array Vv}{t':Nat}{d':Drawn}{ch:List YP}(I:Inv X pins σ H s)
  (g:∀ b∈ch,(b∈X.ex ∨ X.s₀.heap.objs.size<=b)/\b≠X.env.locals/\(∀ x c,X.env.cells.lookup x=some c->c≠b)/\∀ p∈X.pn++pins,p.1≠b)
  (keep:∀ b o,b≠X.env.locals->b∉X.fs->b∉ch->s.heap.get? b=some o->H b=none->h'.get? b=some o)
  (slot:∀ b o,b≠X.env.locals->b∈X.fs->b∉ch->s.heap.get? b=some o->H b=none->∃ sl,h'.get? b=some { o with slots:=sl }) (free:∀ b o,b∉ch->s.heap.get? b=some o->H b=none->H' b=none)
  (y:∀ b o,b∉ch->s.heap.get? b=some o->∃ o',h'.get? b=some o')
  (E:∀ b xs,H b=some (.tup xs)->H' b=some (.tup xs)) (J:∀ b o u,H b=some (.frz o u)->H' b=some (.frz o u)) (F:∀ b ps,H b=some (.tbl ps)->∃ more,H' b=some (.tbl (ps++more)))
  (ns:∀ m,s.heap.Ns X.env.locals m->h'.Ns X.env.locals m) (N:c6 X.prog X.w H' h') (hg:Vq g'):
  Inv X pins σ H' { s with heap:=h',gens:=g',drawn:=d',toks:=t' }:=by
 have G:∀ b o,X.s₀.heap.get? b=some o->b≠X.env.locals:=fun b o e=>QG (QX (Qu e) I.ok.above)
 have j:∀ b o,X.s₀.heap.get? b=some o->b∉X.ex->b∉ch:=fun b o e a A=>by
  rcases(g b A).1 with z | z
  ·exact a z
  ·exact absurd (QX (Qu e) z) (Y0 _)
 have h:∀ x c,X.env.cells.lookup x=some c->∀ v,s.heap.IsCell c v->h'.IsCell c v:=fun x c e v U=>by
  obtain⟨o,B,O⟩:=U;have f:c∉ch:=fun z=>(g c z).2.2.1 x c e rfl;by_cases T:c∈X.fs
  ·obtain⟨sl,q⟩:=slot c o (I.cne x c e) T f B (I.freeC x c e)
   exact⟨_,q,O⟩
  ·exact⟨o,keep c o (I.cne x c e) T f B (I.freeC x c e),O⟩
 refine⟨I.ok,I.os,hg,⟨fun b o e n A a=>?_,fun b o e n A a=>?_,fun b o e n a=>?_,fun b o e a=>?_,fun b xs e=>E b xs (I.base.tups b xs e),fun b o xs e=>J b o xs (I.base.frzs b o xs e),fun b ps e=>?_⟩,?_,fun x c e=>?_,?_,fun x c e=>?_,fun p S=>?_,N,I.len⟩
 ·exact keep b o (G b o e) A (j b o e a) (I.base.keep b o e n A a) (I.base.free b o e n a)
 ·obtain⟨sl,t⟩:=I.base.slot b o e n A a;obtain⟨M,K⟩:=slot b _ (G b o e) A (j b o e a) t (I.base.free b o e n a)
  exact⟨M,K⟩
 ·obtain⟨o',t⟩:=I.base.there b o e a;exact free b o' (j b o e a) t (I.base.free b o e n a)
 ·obtain⟨o',t⟩:=I.base.there b o e a;exact y b o' (j b o e a) t
 ·obtain⟨Y,t⟩:=I.base.tbls b ps e;obtain⟨W,K⟩:=F b _ t
  exact⟨Y++W,by rw [K,Array.append_assoc]⟩
 ·obtain⟨m,Z,hl⟩:=I.loc
  refine⟨m,ns m Z,fun i x v t K e3=>?_⟩
  obtain⟨u,r,l⟩:=hl i x v t K e3
  refine⟨u,r,?_⟩
  rcases l with l | ⟨k,c,e,z⟩
  ·exact .inl l
  ·exact .inr ⟨k,c,e,h x c e _ z⟩
 ·obtain⟨v,z⟩:=I.cell x c e
  exact⟨v,h x c e v z⟩
 ·obtain⟨m,⟨o,_,_,B,_⟩,_⟩:=I.loc;exact free _ o (fun z=>(g _ z).2.1 rfl) B I.free
 ·obtain⟨v,o,B,O⟩:=I.cell x c e;exact free c o (fun z=>(g c z).2.2.1 x c e rfl) B (I.freeC x c e)
 ·obtain⟨e,n,R,Q,d⟩:=I.pin p S;have f:p.1∉ch:=fun z=>(g p.1 z).2.2.2 p S rfl
  exact⟨keep p.1 p.2 R Q f e n,free p.1 p.2 f e n,R,Q,d⟩
theorem Inv.un{t':Nat}(I:Inv X pins σ H s)(u:Un X.fs [] H H' s.heap h')(c:c6 X.prog X.w H' h'):Inv X pins σ H' { s with heap:=h',toks:=t' }:=by
 obtain⟨m,⟨o,t,v,h,r⟩,_⟩:=id I.loc;obtain⟨l,k⟩:=u.any h I.free (by simp)
 exact I.step (g':=s.gens) (d':=s.drawn) (ch:=[]) (fun _ z=>nomatch z) (fun b o _ d _ e n=>u.keep b o e n d (by simp)) (fun b o _ d _ e n=>u.slot b o e n d (by simp)) (fun b o _ e n=>u.free b o e n (by simp)) (fun b o _ e=>u.there b o e (by simp)) u.tups u.frzs u.tbls (fun q j=>by
  obtain⟨p,f,g,a,i⟩:=j;rw [h]at a;cases a
  exact⟨_,f,g,k,i⟩) c I.bare
theorem Inv.call{g':Array Vv}{t':Nat}{d':Drawn}{ch:List YP}(I:Inv X pins σ H s)(u:Un (iS X.stack) ch H H' s.heap h')(g:c6 X.prog X.w H' h')(t:Vq g')
  (f:∀ b∈ch,(b∈X.ex ∨ X.s₀.heap.objs.size<=b)/\b≠X.env.locals/\(∀ x c,X.env.cells.lookup x=some c->c≠b)/\∀ p∈X.pn++pins,p.1≠b):
  Inv X pins σ H' { s with heap:=h',gens:=g',drawn:=d',toks:=t' }:=by
 obtain⟨m,⟨o,E,F,k,r⟩,_⟩:=id I.loc;obtain⟨y,h⟩:=u.any k I.free fun z=>(f _ z).2.1 rfl
 exact I.step (ch:=ch) f (fun b o h v a e n=>u.keep b o e n (fun z=>(Qq.mp (I.stkSub b z)).elim h v) a) (fun b o _ _ a e n=>u.any e n a) (fun b o a e n=>u.free b o e n a) (fun b o a e=>u.there b o e a) u.tups u.frzs u.tbls (fun B q=>by
  obtain⟨A,i,j,d,l⟩:=q;rw [k]at d;cases d
  exact⟨_,i,j,h,l⟩) g t
theorem Inv.turned{t':Nat}{it:YP}(I:Inv X pins σ H s)(k:∀ b o,b≠it->s.heap.get? b=some o->h'.get? b=some o)(h:H it=none)(f:it≠X.env.locals)
  (w:it∈X.ex ∨ X.s₀.heap.objs.size<=it) (t:∀ x c,X.env.cells.lookup x=some c->c≠it) (l:∀ p∈X.pn++pins,p.1≠it):Inv X pins σ H { s with heap:=h',toks:=t' }:=by
 have d:∀ b u,H b=some u->b≠it:=fun b u e z=>by rw [z,h]at e;cases e
 refine I.step (g':=s.gens) (d':=s.drawn) (ch:=[it]) (fun b j=>?_) (fun b o _ _ a e _=>k b o (fun z=>a (by simp [z])) e) (fun b o _ _ a e _=>⟨o.slots,k b o (fun z=>a (by simp [z])) e⟩) (fun _ _ _ _ n=>n)
  (fun b o a e=>⟨o,k b o (fun z=>a (by simp [z])) e⟩) (fun _ _ e=>e) (fun _ _ _ e=>e) (fun b B e=>⟨#[],by rw [e];simp⟩) (fun m i=>?_) (fun b u e=>?_) I.bare
 ·have e:b=it:=by simpa using j
  subst e
  exact⟨w,f,t,l⟩
 ·obtain⟨o,y,A,g,r⟩:=i
  exact⟨o,y,A,k _ o (Z4 f) g,r⟩
 ·refine(I.hok b u e).stay (fun c v a q=>k c v ?_ q) (fun _ q=>q) fun _ _ q=>q
  rcases a with z | z
  ·rw [z];exact d b u e
  ·exact d c _ z
theorem Inv.tok(I:Inv X pins σ H s)(t:Nat):Inv X pins σ H { s with toks:=t }:=I.un (h':=s.heap) (t':=t) Un.refl I.hok
theorem Inv.kept(I:Inv X pins σ H s)(k:∀ b u,s.heap.get? b=some u->h'.get? b=some u):Inv X pins σ H { s with heap:=h',toks:=t' }:=I.un (Un.kept k) (I.hok.kept k)
theorem Inv.laid{a:YP}{o:HO}{t':Nat}(I:Inv X pins σ H s)(k:∀ b u,s.heap.get? b=some u->h'.get? b=some u)(d:s.heap.objs.size<=a)(c:eG X.prog X.w (aJ H a o) h' a o):
  Inv X pins σ (aJ H a o) { s with heap:=h',toks:=t' }:=I.un (Un.laid k d (I.hok.fresh d)) (I.hok.laid k d c)
theorem Inv.write(I:Inv X pins σ H s)(d:uJ (H x))(he:e=x ∨ H e=some (.own x))(k:∀ b u,b≠e->s.heap.get? b=some u->h'.get? b=some u)(a:∃ u,h'.get? e=some u)
  (c:eG X.prog X.w (aJ H x o) h' x o):Inv X pins σ (aJ H x o) { s with heap:=h',toks:=t' }:=I.un (Un.write d he k a) (I.hok.write d he k a c)
theorem Inv.pins_of(I:Inv X pins σ H s)(h:∀ p∈pins',s.heap.get? p.1=some p.2/\H p.1=none/\p.1≠X.env.locals/\p.1∉X.fs/\∀ v,p.2.data≠.cell v):Inv X pins' σ H s:=
 ⟨I.ok,I.os,I.bare,I.base,I.loc,I.cell,I.free,I.freeC,fun p a=>(QA.mp a).elim (fun z=>I.pin p (QL _ z)) (h p),I.hok,I.len⟩
theorem Ho{N:List Str}(c:N.Nodup){i j:Nat}{x:Str}(a:N[i]?=some x)(b:N[j]?=some x):i=j:=by
 obtain⟨g,e⟩:=Qc.mp a;obtain⟨f,d⟩:=Qc.mp b
 exact(List.getElem_inj c).mp (e.trans d.symm)
theorem La{M:Model}{A:Around}{E:JZ->J0->Prop}{i:Nat}{x:Str}{v:V}{u:JZ}{Q:Unit->J0->Prop}(I:Inv X pins σ H s)(hN:X.N.Nodup)(W:X.N[i]?=some x)(B:Loc X.env.scope x)(r:RelV v u)
  (h:∀ s',Inv X pins (σ.set i (some v)) H s'->(∃ a,Zp a s.heap s'.heap/\(a=X.env.locals ∨ X.env.cells.lookup x=some a))->Q () s') (hf:X.fn x=true ∨ X.env.scope.names.lookup x=some .local:=by first | exact .inl rfl | exact .inr rfl | assumption):J3 M A (storeName X.env x u) Q E s:=by
 obtain⟨m,hn,hl⟩:=id I.loc
 have Y:(X.env.scope.kind == .class || (X.env.scope.kind == .module && X.env.locals != X.env.globals))=false:=by rw [I.ok.kind];rfl
 have K:i<σ.length:=by rw [I.len];exact(Qc.mp W).1
 have cne:=I.cne
 have g:∀{a:YP}{h':Heap},(∃ o,s.heap.get? a=some o/\H a=none)->Zp a s.heap h'->c6 X.prog X.w H h':=fun{a h'} ha f b ob e=>by
  obtain⟨_,_,F⟩:=ha
  refine(I.hok b ob e).stay (fun c w' t q=>(f.2 c ?_).trans q) (fun _ q=>q) fun _ _ q=>q
  rintro rfl;rcases t with rfl | t
  ·rw [F]at e;cases e
  ·rw [F]at t;cases t
 rcases B with J | J
 ·refine wpAny_storeName_local J hn (fun h' a3 f=>?_) Y;obtain⟨oL,_,_,a2,_⟩:=id hn;refine h _ ⟨I.ok,I.os,I.bare,⟨fun b o e n S B=>?_,fun b o e n S B=>?_,I.base.free,fun b o e B=>?_,I.base.tups,I.base.frzs,I.base.tbls⟩,⟨_,a3,fun j y v' l G e3=>?_⟩,fun y c e=>?_,I.free,I.freeC,fun p hp=>?_,g ⟨oL,a2,I.free⟩ f,by simpa using I.len⟩ ⟨_,f,.inl rfl⟩
  ·exact(f.2 b (QG (QX (Qu e) I.ok.above))).trans (I.base.keep b o e n S B)
  ·obtain⟨sl,l⟩:=I.base.slot b o e n S B
   exact⟨sl,(f.2 b (QG (QX (Qu e) I.ok.above))).trans l⟩
  ·obtain⟨o',l⟩:=I.base.there b o e B
   exact⟨o',(f.2 b (QG (QX (Qu e) I.ok.above))).trans l⟩
  ·by_cases O:j=i
   ·subst O;rw [W]at l;cases l;rw [Qy K]at G;cases G
    exact⟨u,r,.inl ⟨J,by simp⟩⟩
   ·rw [Qr (Z4 O)]at G;obtain⟨u',r',q⟩:=hl j y v' l G e3
    refine⟨u',r',?_⟩
    rcases q with⟨k,e⟩ | ⟨k,c,e,z⟩
    ·refine .inl ⟨k,?_⟩
     have:y≠x:=fun e=>O (Ho hN l (e ▸ W))
     simp [this,e]
    ·exact .inr ⟨k,c,e,z.sameBut f (cne y c e)⟩
  ·obtain⟨w',z⟩:=I.cell y c e
   exact⟨w',z.sameBut f (cne y c e)⟩
  ·obtain⟨e,n,ne,nf,d⟩:=I.pin p hp
   exact⟨(f.2 p.1 ne).trans e,n,ne,nf,d⟩
 ·have R:X.fn x=true:=by
   rcases hf with z | z
   ·exact z
   ·rw [z]at J;cases J
  obtain⟨c,t⟩:=I.ok.has x (.inl J);obtain⟨w',z⟩:=I.cell x c t;refine wpAny_storeName_cell I.ok.kind J t z (fun h' a0 f=>?_);obtain⟨oc,U,T⟩:=id z;refine h { s with heap:=h' } ⟨I.ok,I.os,I.bare,⟨fun b o e n S B=>?_,fun b o e n S B=>?_,I.base.free,fun b o e B=>?_,I.base.tups,I.base.frzs,I.base.tbls⟩,⟨m,hn.sameBut f (Z4 (cne x c t)),fun j y v' l G e3=>?_⟩,fun y c' e=>?_,I.free,I.freeC,fun p hp=>?_,g ⟨oc,U,I.freeC x c t⟩ f,by simpa using I.len⟩ ⟨c,f,.inr t⟩
  ·exact(f.2 b (QG (QX (Qu e) (I.ok.cab x c R t)))).trans (I.base.keep b o e n S B)
  ·obtain⟨sl,l⟩:=I.base.slot b o e n S B
   exact⟨sl,(f.2 b (QG (QX (Qu e) (I.ok.cab x c R t)))).trans l⟩
  ·obtain⟨o',l⟩:=I.base.there b o e B
   exact⟨o',(f.2 b (QG (QX (Qu e) (I.ok.cab x c R t)))).trans l⟩
  ·by_cases O:j=i
   ·subst O;rw [W]at l;cases l;rw [Qy K]at G;cases G
    exact⟨u,r,.inr ⟨.inl J,c,t,a0⟩⟩
   ·rw [Qr (Z4 O)]at G;obtain⟨u',r',q⟩:=hl j y v' l G e3
    refine⟨u',r',?_⟩
    rcases q with q | ⟨k,c',e,z'⟩
    ·exact .inl q
    ·refine .inr ⟨k,c',e,z'.sameBut f ?_⟩;rintro rfl;exact O (Ho hN l (I.ok.inj _ _ _ e t ▸ W))
  ·by_cases Z:c'=c
   ·subst Z;exact⟨_,a0⟩
   ·obtain⟨w2,z2⟩:=I.cell y c' e
    exact⟨w2,z2.sameBut f Z⟩
  ·obtain⟨e,n,ne,nf,d⟩:=I.pin p hp
   refine⟨(f.2 p.1 ?_).trans e,n,ne,nf,d⟩
   intro q;rw [q,U]at e;have q':oc=p.2:=QF e;exact d w' (by rw [<- q'];exact T)
theorem K9(I:Inv X pins σ H s)(d:X.N.Nodup)(b:X.N[i]?=some x)(a:Loc X.env.scope x)(r:RelV v u)
  (h:∀ s',Inv X pins (σ.set i (some v)) H s'->Q () s') (c:X.fn x=true ∨ X.env.scope.names.lookup x=some .local:=by first | exact .inl rfl | exact .inr rfl | assumption):J3 M A (storeName X.env x u) Q E s:=
 La I d b a r (fun s' e _=>h s' e) c
theorem Inv.call'(I:Inv X pins σ H s)(g:s'.os=s.os)(u:Un (iS X.stack) ch H H' s.heap s'.heap)(a:c6 X.prog X.w H' s'.heap)(h:Vq s'.gens)
  (d:∀ b∈ch,(b∈X.ex ∨ X.s₀.heap.objs.size<=b)/\b≠X.env.locals/\(∀ x c,X.env.cells.lookup x=some c->c≠b)/\∀ p∈X.pn++pins,p.1≠b):Inv X pins σ H' s':=by
 obtain⟨i,g',d',t',f⟩:=s';have e:f=s.os:=g;subst e;exact I.call (g':=g') (t':=t') (d':=d') u a h d
end
abbrev XK:=JZ->Option YP->Hp->Prop
abbrev St:=List (Option V)
abbrev VK:=V->Hp->Prop
abbrev TE:=St->Hp->VK->Prop
abbrev TT:=St->Hp->(Bool->Hp->Prop)->Prop
abbrev TA:=St->Hp->(List V->Hp->Prop)->Prop
structure jN where
 nx:St->Hp->Prop
 rt:VK
 bk:St->Hp->Prop:=fun _ _=>False
 ct:St->Hp->Prop:=fun _ _=>False
abbrev TS:=jN->St->Hp->Prop
def EP(X:Cx)(a:List (YP × Obj))(b:St)(Q:VK)(u:JZ)(c:J0):Prop:=∃ v H',Inv X a b H' c/\RelV v u/\Q v H'
def TP(X:Cx)(a:List (YP × Obj))(c:St)(Q:Bool->Hp->Prop)(b:Bool)(d:J0):Prop:=∃ H',Inv X a c H' d/\Q b H'
def AP(X:Cx)(a:List (YP × Obj))(b:St)(Q:List V->Hp->Prop)(us:List JZ)(c:J0):Prop:=∃ vs H',Inv X a b H' c/\Vals vs us/\Q vs H'
def SP(X:Cx)(a:List (YP × Obj))(D:jN)(f:Flow)(b:J0):Prop:=
 match f with
 | .next=>∃ σ' H',Inv X a σ' H' b/\D.nx σ' H'
 | .brk=>∃ σ' H',Inv X a σ' H' b/\D.bk σ' H'
 | .cont=>∃ σ' H',Inv X a σ' H' b/\D.ct σ' H'
 | .ret u=>∃ v σ' H',Inv X a σ' H' b/\RelV v u/\D.rt v H'
def PE(X:Cx)(e:Expr)(t:TE):Prop:=
 ∀(pins:List (YP × Obj)) (s:J0) (σ:St) (H:Hp) (Q:VK),Inv X pins σ H s->t σ H Q->J3 (J4 X.prog X.w) X.A (Zr e X.env) (EP X pins σ Q) X.xe s
def PT(X:Cx)(e:Expr)(t:TT):Prop:=
 ∀(pins:List (YP × Obj)) (s:J0) (σ:St) (H:Hp) (Q:Bool->Hp->Prop),Inv X pins σ H s->t σ H Q->J3 (J4 X.prog X.w) X.A (isTrue e X.env (Zr e X.env)) (TP X pins σ Q) X.xe s
def PW(X:Cx)(e:Expr)(t:TT):Prop:=
 ∀(whole:Sem JZ) (pins:List (YP × Obj)) (s:J0) (σ:St) (H:Hp) (Q:Bool->Hp->Prop),Inv X pins σ H s->t σ H Q->J3 (J4 X.prog X.w) X.A (isTrue e X.env whole) (TP X pins σ Q) X.xe s
theorem PW.pt(h:PW X e t):PT X e t:=h _
def PA(X:Cx)(es:List Expr)(t:TA):Prop:=
 ∀(pos:Pos) (pins:List (YP × Obj)) (s:J0) (σ:St) (H:Hp) (Q:List V->Hp->Prop),Inv X pins σ H s->t σ H Q->J3 (J4 X.prog X.w) X.A (spliced (Zt pos (J2 es X.env))) (AP X pins σ Q) X.xe s
def PS(X:Cx)(a:Zv)(t:TS):Prop:=
 ∀(pins:List (YP × Obj)) (s:J0) (σ:St) (H:Hp) (D:jN),Inv X pins σ H s->t D σ H->J3 (J4 X.prog X.w) X.A (exec a X.env) (SP X pins D) X.xe s
def fM(X:Cx)(a:List Zv)(t:TS):Prop:=
 ∀(pins:List (YP × Obj)) (s:J0) (σ:St) (H:Hp) (D:jN),Inv X pins σ H s->t D σ H->J3 (J4 X.prog X.w) X.A (execs a X.env) (SP X pins D) X.xe s
theorem aT{b:Type}{t:Sem b}{Q c:b->J0->Prop}{M:Model}{A:Around}{E:JZ->J0->Prop}{s:J0}(h:J3 M A t Q E s)(d:∀ a s,Q a s->c a s):J3 M A t c E s:=Y5 h d fun _ _ x=>x
section
variable {X:Cx}
def D1(i:Nat):TE:=fun a H Q=>∃ v,a[i]?=some (some v)/\Q v H
def tC(v:V):TE:=fun _ H Q=>Q v H
theorem gQ(t:X.N[i]?=some x)(n:gD X.env.scope x)(f:(x == ("__debug__":Str))=false:=by decide)(g:(x == ("__classdict__":Str))=false:=by decide):PE X (.Name x pos) (D1 i):=by
 intro d s k H Q I h;obtain⟨v,e,h⟩:=h;obtain⟨m,o,q⟩:=I.loc;obtain⟨u,r,l⟩:=q i x v t e n;have fin:EP X d k Q u s:=⟨v,H,I,r,h⟩;rcases l with⟨b,p⟩ | ⟨b,c,j,a⟩
 ·exact wpAny_Name (wpAny_loadName_local I.ok.kind b o p fin) f
 ·rcases b with b | b
  ·exact wpAny_Name (wpAny_loadName_cell I.ok.kind b j a fin) f
  ·exact wpAny_Name (wpAny_loadName_free I.ok.kind b j a fin g) f
theorem Wd{i j pos}:PE X (.Constant (.int i) j pos) (tC (.int i)):=fun _ _ _ H _ I h=>wpAny_Constant_int ⟨.int i,H,I.tok _,⟨_,rfl⟩,h⟩
theorem N0{b j pos}:PE X (.Constant (.bool b) j pos) (tC (.bl b)):=fun _ _ _ H _ I h=>Constant_bool ⟨.bl b,H,I,rfl,h⟩
theorem X0{j pos}:PE X (.Constant .none j pos) (tC .non):=fun _ _ _ H _ I h=>Constant_none ⟨.non,H,I,rfl,h⟩
theorem X6{x j pos}:PE X (.Constant (.str x) j pos) (tC (.str x)):=fun _ _ _ H _ I h=>Calls.Constant_str ⟨.str x,H,I.tok _,⟨_,rfl⟩,h⟩
def Gl(X:Cx)(x:Str):Prop:=X.env.kindOf x=some .globalImplicit
theorem Cj(I:Inv X pins σ H s)(b:Gl X x)(a:X.mg x=some u)(h:Q u s)
  (c:(x == ("__debug__":Str))=false:=by decide):J3 (J4 X.prog X.w) X.A (Zr (.Name x pos) X.env) Q E s:=
 Calls.Name_function_global I.ok.kind b (Calls.loadGlobal_global (by rw [I.ok.glob];exact I.mod.glob.keeps I.bk) a h) c
theorem nL(I:Inv X pins σ H s)(d:Gl X x)(c:X.mg x=none)(a:Zw x=some u)(h:Q u s)
  (b:x≠"__name__":=by decide) (e:(x == ("__debug__":Str))=false:=by decide):J3 (J4 X.prog X.w) X.A (Zr (.Name x pos) X.env) Q E s:=by
 obtain⟨i,g,f⟩:=I.mod.blt;exact Calls.Name_function_global I.ok.kind d (Calls.loadGlobal_builtin (by rw [I.ok.glob];exact I.mod.glob.keeps I.bk) c (by rw [I.ok.blt];exact g.keeps I.bk) ((f x b).trans a) h) e
theorem CB(b:Gl X x)(a:X.mg x=some u)(r:RelV v u)(c:(x == ("__debug__":Str))=false:=by decide):PE X (.Name x pos) (tC v):=
 fun _ _ _ H _ I h=>Cj I b a ⟨v,H,I,r,h⟩ c
theorem V7(d:Gl X x)(c:X.mg x=none)(a:Zw x=some u)(r:RelV v u)(b:x≠"__name__":=by decide)(e:(x == ("__debug__":Str))=false:=by decide):PE X (.Name x pos) (tC v):=
 fun _ _ _ H _ I h=>nL I d c a ⟨v,H,I,r,h⟩ b e
variable {a b:Expr}{ta tb:TE}{pos:Pos}
def tB(t:TE):TT:=fun a H Q=>t a H fun x b=>∃ c,x=.bl c/\Q c b
theorem zRv{e:Expr}{t:TE}(h:PE X e t)(he:∀ whole,isTrue e X.env whole=(do let v <- whole;standAt e.pos;UB [v] (truthy v)):=by intro _;rfl):PT X e (tB t):=by
 intro a s b H Q I g;refine isTrue_plain (aT (h a s b H _ I g) fun v k ⟨x,j,i,c,f⟩=>?_) (he _);obtain⟨d,rfl,q⟩:=f;cases c;exact YH ⟨j,i,q⟩
variable {tA tB':TT}{rest:List Expr}
def OK(t u:TT):TT:=fun a H Q=>t a H fun c b=>if c=true then u a b Q else Q false b
def O2(t u:TT):TT:=fun a H Q=>t a H fun c b=>if c=true then Q true b else u a b Q
def O0(t:TT):TT:=fun a H Q=>t a H fun c b=>Q (!c) b
theorem Xp(f:PT X a tA):PW X (.BoolOp .And [a] pos) tA:=by
 intro g b s d H Q I h;refine isTrue_and (aT (f b s d H Q I h) fun c i e=>?_)
 cases c with
 | true=>exact isTrue_and_nil e
 | false=>exact e
theorem Xq(f:PT X a tA):PW X (.BoolOp .Or [a] pos) tA:=by
 intro g b s d H Q I h;refine isTrue_or (aT (f b s d H Q I h) fun c i e=>?_)
 cases c with
 | false=>exact isTrue_or_nil e
 | true=>exact e
theorem Xn(n:PT X a tA)(m:PW X (.BoolOp .And (b::rest) pos) tB'):PW X (.BoolOp .And (a::b::rest) pos) (OK tA tB'):=by
 intro k d s e H Q I h;refine isTrue_and (aT (n d s e H _ I h) fun c l j=>?_);obtain⟨i,g,f⟩:=j
 cases c with
 | true=>exact m k d l e i Q g f
 | false=>exact⟨i,g,f⟩
theorem N6(n:PT X a tA)(m:PW X (.BoolOp .Or (b::rest) pos) tB'):PW X (.BoolOp .Or (a::b::rest) pos) (O2 tA tB'):=by
 intro k d s e H Q I h;refine isTrue_or (aT (n d s e H _ I h) fun c l j=>?_);obtain⟨i,g,f⟩:=j
 cases c with
 | true=>exact⟨i,g,f⟩
 | false=>exact m k d l e i Q g f
theorem zRu(e:PT X a tA):PT X (.UnaryOp .Not a pos) (O0 tA):=by
 intro b s d H Q I h;exact isTrue_not (e b s d H (fun c f=>Q (!c) f) I h)
def OL(e d:TE):TE:=fun a H Q=>e a H fun x b=>∃ c,x=.bl c/\if c=true then d a b Q else Q (.bl false) b
def O1(b:TE):TE:=fun a H Q=>b a H fun x d=>∃ c,x=.bl c/\Q (.bl (!c)) d
theorem X4{op}(h:PE X a t):PE X (.BoolOp op [a] pos) t:=fun b s c H Q I d=>BoolOp_one (h b s c H Q I d)
theorem V6(n:PE X a ta)(m:PE X (.BoolOp .And (b::rest) pos) tb):PE X (.BoolOp .And (a::b::rest) pos) (OL ta tb):=by
 intro d s f H Q I h;refine BoolOp_and (aT (n d s f H _ I h) fun v k j=>?_);obtain⟨x,i,g,l,e⟩:=j;obtain⟨c,rfl,e⟩:=e;cases l;refine YH ?_
 cases c with
 | true=>exact m d k f i Q g e
 | false=>exact⟨.bl false,i,g,rfl,e⟩
theorem X3(i:PE X a ta):PE X (.UnaryOp .Not a pos) (O1 ta):=by
 intro b s e H Q I h;refine UnaryOp_ (aT (i b s e H _ I h) fun v l f=>?_);obtain⟨x,k,j,g,d⟩:=f;obtain⟨c,rfl,d⟩:=d;cases g;exact not_of (YH ⟨.bl (!c),k,j,rfl,d⟩)
def OV(t:TT)(e d:TE):TE:=fun a H Q=>t a H fun c b=>if c=true then e a b Q else d a b Q
theorem Wc{c:Expr}(m:PT X c tA)(o:PE X a ta)(n:PE X b tb):PE X (.IfExp c a b pos) (OV tA ta tb):=by
 intro e s f H Q I h;refine wpAny_IfExp (aT (m e s f H _ I h) fun d g l=>?_);obtain⟨k,j,i⟩:=l
 cases d with
 | true=>exact o e g f k Q j i
 | false=>exact n e g f k Q j i
end
def bY(K:PySem.W.Frag)(H:Hp)(a:YP)(xs:List V):Prop:=
 Rd H a (.lst xs) ∨
  ∃(o:Obj) (its:Array JZ) (n:Nat),K.lookup a=some o/\o.cls=.type "list"/\o.dict=none/\o.data=.seq its n/\its.size<=sizeLine/\Vals xs its.toList
def bJ(K:PySem.W.Frag)(H:Hp)(a:YP)(xs:List V):Prop:=
 Rd H a (.tup xs) ∨
  ∃(o:Obj) (its:Array JZ) (n:Nat),K.lookup a=some o/\o.cls=.type "tuple"/\o.data=.seq its n/\its.size<=sizeLine/\Vals xs its.toList
def LZ:JZ->Option V
 | .none=>some .non
 | .bool b=>some (.bl b)
 | .int i _=>some (.int i)
 | .str x _=>some (.str x)
 | .bytes b _=>some (.byt b)
 | .float b _=>some (.flt b)
 | .ref a=>some (.ref a)
 | .type n=>some (.ty n)
 | _=>none
theorem RelV.abs(r:RelV x u):LZ u=some x:=by
 cases x with
 | non=>cases r;rfl
 | bl _=>cases r;rfl
 | int _=>obtain⟨t,rfl⟩:=r;rfl
 | str _=>obtain⟨t,rfl⟩:=r;rfl
 | byt _=>obtain⟨t,rfl⟩:=r;rfl
 | flt _=>obtain⟨t,rfl⟩:=r;rfl
 | ref _=>cases r;rfl
 | ty _=>cases r;rfl
theorem RelV.inj{x y:V}{u:JZ}(r:RelV x u)(q:RelV y u):x=y:=QF (r.abs.symm.trans q.abs)
theorem Vals.inj{xs ys:List V}{us:List JZ}(h:Vals xs us)(h':Vals ys us):xs=ys:=by
 induction h generalizing ys with
 | nil=>cases h';rfl
 | cons r t c=>
  cases h' with
  | cons b a=>rw [r.inj b,c a]
section
variable {X:Cx}{pins:List (YP × Obj)}{σ:St}{H:Hp}{s:J0}{a:YP}{xs ys:List V}
theorem bY.of{K:PySem.W.Frag}(h:H a=some (.lst xs)):bY K H a xs:=.inl (.inl h)
theorem Inv.list(I:Inv X pins σ H s)(h:bY X.K H a xs):∃ its:List JZ,Vals xs its/\PlainL s.heap a its.toArray/\xs.length<=sizeLine:=by
 rcases h with h | ⟨o,its,n,c,f,d,b,g,r⟩
 ·obtain⟨z,its,n,r,e⟩:=h.ok I.hok
  exact⟨its,r,⟨_,n,e,rfl,rfl,rfl⟩,z⟩
 ·refine⟨its.toList,r,⟨o,n,I.kIn a o c,f,d,by simpa using b⟩,?_⟩
  have e:=r.length;simp only [Qh]at e;lia
theorem Inv.tuple(I:Inv X pins σ H s)(h:bJ X.K H a xs):∃ its:List JZ,Vals xs its/\IsTup s.heap a its.toArray/\xs.length<=sizeLine:=by
 rcases h with h | ⟨o,its,n,c,d,b,f,r⟩
 ·obtain⟨z,its,r,p⟩:=h.ok I.hok
  exact⟨its,r,p,z⟩
 ·refine⟨its.toList,r,⟨o,I.kIn a o c,d,n,by simpa using b⟩,?_⟩
  have e:=r.length;simp only [Qh]at e;lia
theorem Inv.list_inj(I:Inv X pins σ H s)(h:bY X.K H a xs)(h':bY X.K H a ys):xs=ys:=by
 obtain⟨b,r,⟨o,n,e,_,_,d⟩,_⟩:=I.list h;obtain⟨its',g,⟨i,j,c,_,_,f⟩,_⟩:=I.list h';rw [e]at c;cases c;rw [d]at f
 injection f with d1 _
 have:b=its':=by simpa using congrArg Array.toList d1
 subst this;exact r.inj g
theorem Inv.tuple_inj(I:Inv X pins σ H s)(h:bJ X.K H a xs)(h':bJ X.K H a ys):xs=ys:=by
 obtain⟨b,r,⟨o,e,_,n,d⟩,_⟩:=I.tuple h;obtain⟨its',g,⟨i,c,_,j,f⟩,_⟩:=I.tuple h';rw [e]at c;cases c;rw [d]at f
 injection f with d1 _
 have:b=its':=by simpa using congrArg Array.toList d1
 subst this;exact r.inj g
end
abbrev Cx.wish(X:Cx)(E:JZ->J0->Prop):Cx:={ X with xe:=E }
abbrev Cx.nox(X:Cx):Cx:=X.wish fun _ _=>False
theorem Cx.Ok.wish{X:Cx}(ok:X.Ok)(E:JZ->J0->Prop):(X.wish E).Ok:=
 ⟨ok.mod,ok.kind,ok.glob,ok.blt,ok.above,ok.inj,ok.has,ok.cab,ok.hd,ok.frames,ok.stk,ok.exf,ok.bs,ok.bsz,ok.noex,ok.exfs,ok.funs,ok.frf⟩
theorem Cx.Ok.unwish{X:Cx}{E:JZ->J0->Prop}(ok:(X.wish E).Ok):X.Ok:=
 ⟨ok.mod,ok.kind,ok.glob,ok.blt,ok.above,ok.inj,ok.has,ok.cab,ok.hd,ok.frames,ok.stk,ok.exf,ok.bs,ok.bsz,ok.noex,ok.exfs,ok.funs,ok.frf⟩
section
variable {X:Cx}{pins:List (YP × Obj)}{σ:St}{H:Hp}{s:J0}{E:JZ->J0->Prop}
theorem Inv.wish(I:Inv X pins σ H s)(E:JZ->J0->Prop):Inv (X.wish E) pins σ H s:=⟨I.ok.wish E,I.os,I.bare,I.base,I.loc,I.cell,I.free,I.freeC,I.pin,I.hok,I.len⟩
theorem Inv.unwish(I:Inv (X.wish E) pins σ H s):Inv X pins σ H s:=⟨I.ok.unwish,I.os,I.bare,I.base,I.loc,I.cell,I.free,I.freeC,I.pin,I.hok,I.len⟩
theorem SP.unwish{D:jN}{f:Flow}{s':J0}(h:SP (X.wish E) pins D f s'):SP X pins D f s':=by
 cases f with
 | next=>obtain⟨a,b,I,q⟩:=h;exact⟨a,b,I.unwish,q⟩
 | brk=>obtain⟨a,b,I,q⟩:=h;exact⟨a,b,I.unwish,q⟩
 | cont=>obtain⟨a,b,I,q⟩:=h;exact⟨a,b,I.unwish,q⟩
 | ret u=>obtain⟨v,a,b,I,r,q⟩:=h;exact⟨v,a,b,I.unwish,r,q⟩
theorem fM.nox{b:List Zv}{t:TS}(h:fM X.nox b t):fM X b t:=fun a s c H D I d=>
 Y5 (h a s c H D (I.wish _) d) (fun _ _ q=>q.unwish) fun _ _ z=>ZJ z
end
section
variable {X:Cx}{st:Zv}{rest:List Zv}{t u:TS}{e:Expr}{te:TE}{pos:Pos}
def OZ:TS:=fun D a H=>D.nx a H
def O6(t u:TS):TS:=fun D a H=>t { D with nx:=u D } a H
theorem Ka:fM X [] OZ:=fun _ _ a H _ I h=>U5 ⟨a,H,I,h⟩
theorem xE(g:PS X st t)(e:fM X rest u):fM X (st::rest) (O6 t u):=by
 intro a s c H D I h;refine wpAny_execs_cons (aT (g a s c H { D with nx:=u D } I h) fun f d q=>?_)
 cases f with
 | next=>
  obtain⟨b,j,i,q⟩:=q;exact e a d b j D i q
 | ret v=>exact q
 | brk=>exact q
 | cont=>exact q
theorem xF(c:PS X st t):fM X [st] t:=by
 intro a s b H D I h;refine wpAny_execs_cons (aT (c a s b H D I h) fun f d q=>?_)
 cases f with
 | next=>exact U5 q
 | ret v=>exact q
 | brk=>exact q
 | cont=>exact q
theorem Inv.quiet{a:List (YP × Obj)}{b:St}{H:Hp}{s:J0}(I:Inv X a b H s):interactive X.env=false:=by simp [interactive,I.ok.kind]
def OS(te:TE):TS:=fun D a H=>te a H fun _ b=>D.nx a b
theorem pL(he:PE X e te)(hs:ZC e none pos.line X.env=pure false:=by rfl):PS X (.Expr e pos) (OS te):=by
 intro a s b H D I h;exact wpAny_Expr_any (aT (he a s b H _ I h) fun v g ⟨x,f,d,i,c⟩=>⟨b,f,d,c⟩) I.quiet hs
def O5(te:TE):TS:=fun D a H=>te a H D.rt
theorem BM(he:PE X e te):PS X (.Return (some e) pos) (O5 te):=by
 intro a s b H D I h;exact wpAny_Return_some (aT (he a s b H _ I h) fun v i ⟨x,g,f,c,d⟩=>⟨x,b,g,f,c,d⟩)
def OW(c:TT)(t u:TS):TS:=fun D a H=>c a H fun b d=>if b=true then t D a d else u D a d
theorem IY{c:Expr}{a b:List Zv}{g:TT}(n:PT X c g)(p:fM X a t)(o:fM X b u):PS X (.If c a b pos) (OW g t u):=by
 intro e s f H D I h;refine wpAny_If (aT (n e s f H _ I h) fun d i m=>?_);obtain⟨l,k,j⟩:=m
 cases d with
 | true=>exact p e i f l D k j
 | false=>exact o e i f l D k j
end
abbrev TG:=V->St->Hp->(St->Hp->Prop)->Prop
abbrev mQ:=List V->St->Hp->(St->Hp->Prop)->Prop
def PG(X:Cx)(a:Expr)(t:TG):Prop:=
 ∀(pins:List (YP × Obj)) (s:J0) (σ:St) (H:Hp) (v:V) (u:JZ) (Q:St->Hp->Prop),Inv X pins σ H s->RelV v u->t v σ H Q->
  J3 (J4 X.prog X.w) X.A (Vu a X.env u) (fun _ b=>∃ σ' H',Inv X pins σ' H' b/\Q σ' H') X.xe s
def k8(X:Cx)(a:List Expr)(t:mQ):Prop:=
 ∀(pins:List (YP × Obj)) (s:J0) (σ:St) (H:Hp) (vs:List V) (us:List JZ) (Q:St->Hp->Prop),Inv X pins σ H s->Vals vs us->t vs σ H Q->
  J3 (J4 X.prog X.w) X.A (assignInOrder ((ZB a X.env).map (·.2)) us) (fun _ b=>∃ σ' H',Inv X pins σ' H' b/\Q σ' H') X.xe s
section
variable {X:Cx}{pos:Pos}
def j5(i:Nat):TG:=fun v a H Q=>Q (a.set i (some v)) H
theorem nU(e:X.N.Nodup)(c:X.N[i]?=some x)(b:Loc X.env.scope x)(d:X.fn x=true ∨ X.env.scope.names.lookup x=some .local:=by first | exact .inl rfl | exact .inr rfl | assumption):PG X (.Name x pos) (j5 i):=by
 intro a s g H v u Q I r h;exact wpAny_assign_Name (K9 I e c b r (fun j f=>⟨_,H,f,h⟩) d)
def MO:mQ:=fun b a H Q=>b=[]/\Q a H
def MM(t:TG)(u:mQ):mQ:=fun c b H Q=>∃ v r,c=v::r/\t v b H fun a d=>u r a d Q
theorem IQ:k8 X [] MO:=by
 intro a s b H c d Q I r h;obtain⟨e,h⟩:=h;subst e;cases r;exact assignInOrder_nil ⟨b,H,I,h⟩
theorem IP{e:Expr}{es:List Expr}{t:TG}{u:mQ}(k:PG X e t)(j:k8 X es u)
  (hs:(ZB (e::es) X.env).map (·.2)=Vu e X.env::(ZB es X.env).map (·.2):=by rfl):k8 X (e::es) (MM t u):=by
 intro a s c H o q Q I r h;obtain⟨v,p,l,h⟩:=h;subst l
 cases r with
 | cons r g=>
  rw [hs];refine assignInOrder_cons (aT (k a s c H _ _ _ I r h) fun _ f d=>?_);obtain⟨b,n,m,i⟩:=d;exact j a f b n _ _ Q m g i
def MP(K:PySem.W.Frag)(n:Nat)(t:mQ):TG:=fun v b H Q=>∃ a xs,v=.ref a/\bJ K H a xs/\xs.length=n/\t xs b H Q
theorem IO(y:X.calm=true)(h:k8 X es t)
  (w:(ZB es X.env).length=n:=by rfl) (f:(ZB es X.env).findIdx? (·.1)=none:=by rfl):PG X (.Tuple es k pos) (MP X.K n t):=by
 intro c s g H v u Q I r d;obtain⟨a,j,A,q,x,d⟩:=d;subst A;cases r;obtain⟨l,i,p,E⟩:=I.tuple q;refine assign_Tuple_tuple (I.ok.hd y) p (by simp [w,<- x,i.length]) f fun z m=>?_;have B:Inv X c g H { s with heap:=z }:=I.kept (t':=s.toks) fun b o e=>m b o (QG (Qu e)) e;exact h c _ g H j _ Q B (by simpa using i) d
def Ar(te:TE)(g:TG):TS:=fun D a H=>te a H fun x b=>g x a b D.nx
theorem IW{b e:Expr}{te:TE}{g:TG}(he:PE X e te)(k:PG X b g)(hs:swapsWithSole [b] e pos.line X.env=pure false:=by rfl)(j:swappedStores [b] e X.env=pure none:=by rfl)
  (l:(ZB [b] X.env).map (·.2)=[Vu b X.env]:=by rfl):PS X (.Assign [b] e pos) (Ar te g):=by
 intro a s c H D I h;refine wpAny_Assign_stores (aT (he a s c H _ I h) fun v d ⟨x,n,m,f,i⟩=>?_) hs j;rw [l];exact aT (k a d c n x v _ m f i) fun _ o q=>q
theorem nX{i:Nat}{x:Str}{e:Expr}{te:TE}{a:Pos}(l:X.N.Nodup)(j:X.N[i]?=some x)(g:Loc X.env.scope x)(he:PE X e te)(hs:ZC e (some (.Name x a)) pos.line X.env=pure false:=by rfl)(k:X.fn x=true ∨ X.env.scope.names.lookup x=some .local:=by first | exact .inl rfl | exact .inr rfl | assumption):
  PS X (.Assign [.Name x a] e pos) (Ar te (j5 i)):=by
 intro b s c H D I h;refine wpAny_Assign_Name (aT (he b s c H _ I h) fun v q ⟨y,o,n,d,f⟩=>?_) hs;exact K9 n l j g d (fun p m=>⟨_,o,m,f⟩) k
def zSt(c:TT)(e:TS):TS:=fun D a H=>∃ W:Nat->St->Hp->Prop,(∃ m,W m a H)/\∀ m a H,W m a H->
 c a H fun b d=>if b=true then ∃ N:St->Hp->Prop,(∀ σ' H',N σ' H'->∃ m',m'<m/\W m' σ' H')/\e { D with nx:=N,ct:=N,bk:=D.nx } a d else D.nx a d
theorem IZ(q:PassesOwn (J4 X.prog X.w) X.A X.env X.xe)(M:PT X c tc)(O:fM X body tb):PS X (.While c body [] pos) (zSt tc tb):=by
 intro d s y H D I h;obtain⟨W,⟨K,E⟩,turn⟩:=h;refine wpAny_While (codeAny_whileLoop (fun n J=>∃ σ' H',Inv X d σ' H' J/\W n σ' H') ?_ K ⟨y,H,I,E⟩);rintro n G ⟨e,x,Q,B⟩;refine Jk q (aT (M d G e x _ Q (turn n e x B)) fun b F z=>?_);obtain⟨u,t,j⟩:=z
 cases b with
 | true=>
  obtain⟨N,r,j⟩:=j;rw [if_pos rfl];refine Jk q (aT (O d F e u _ t j) fun f R i=>?_)
  cases f with
  | next=>
   obtain⟨a,g,p,l⟩:=i;obtain⟨m,o,k⟩:=r a g l
   exact⟨m,o,a,g,p,k⟩
  | cont=>
   obtain⟨a,g,p,l⟩:=i;obtain⟨m,o,k⟩:=r a g l
   exact⟨m,o,a,g,p,k⟩
  | brk=>exact i
  | ret v=>exact i
 | false=>
  rw [if_neg QB];exact U5 ⟨e,u,t,j⟩
end
structure It where
 go:Nat->Hp->Prop
 yld:Nat->Hp->V->Hp->Prop
 stop:Nat->Hp->Prop
def hX(X:Cx)(a:List (YP × Obj))(H:Hp)(b:YP):Prop:=
 H b=none/\b≠X.env.locals/\b∉X.fs/\(b∈X.ex ∨ X.s₀.heap.objs.size<=b)/\(∀ x c,X.env.cells.lookup x=some c->c≠b)/\∀ p∈X.pn++a,p.1≠b
theorem Inv.fpOk(I:Inv X pins σ H s)(a:s.heap.objs.size<=b)(f:H' b=none):hX X pins H' b:=by
 refine⟨f,Jv (QX I.lt a),I.nofs a,.inr (QH I.sz a),fun x c e z=>?_,fun p d z=>?_⟩
 ·obtain⟨v,q⟩:=I.cell x c e;exact absurd (QX q.lt (by rw [z];exact a)) (Y0 _)
 ·exact absurd (QX (Qu (I.pin p d).1) (by rw [z];exact a)) (Y0 _)
structure jP(P:J5)(w:J6)(K:PySem.W.Frag)(tg:Expr)(J:It)(fp:List YP)(it:YP)(tn:Nat->Heap->Prop):Prop where
 mem:it∈fp
 obj:∀ i h,tn i h->∀ b∈fp,∃ o,h.get? b=some o/\∀ v,o.data≠.cell v
 keep:∀ i h h',tn i h->(∀ b∈fp,∀ o,h.get? b=some o->h'.get? b=some o)->tn i h'
 item:∀(X:Cx),X.prog=P->X.w=w->X.K=K->X.calm=true->∀(i:Nat) (pins:List (YP × Obj)) (s:J0) (σ:St) (H:Hp) (E:JZ->J0->Prop),Inv X pins σ H s->(∀ b∈fp,hX X pins H b)->tn i s.heap->J.go i H->
  J3 (J4 P w) X.A (Uh (.ref it)) (fun r s1=>∃ u,r=some u /\
   J3 (J4 P w) X.A (U6 tg (.ref it) u) (fun _ s2=>∃ x H',Inv X pins σ H' s2/\RelV x u/\J.yld i H x H'/\tn (i+1) s2.heap/\∀ b∈fp,H' b=none) E s1) E s
 done:∀(X:Cx),X.prog=P->X.w=w->X.K=K->X.calm=true->∀(i:Nat) (pins:List (YP × Obj)) (s:J0) (σ:St) (H:Hp) (E:JZ->J0->Prop),Inv X pins σ H s->(∀ b∈fp,hX X pins H b)->tn i s.heap->J.stop i H->
  J3 (J4 P w) X.A (Uh (.ref it)) (fun r s1=>r=none/\Inv X pins σ H s1) E s
 self:∀(A:Around) (i:Nat) (s:J0) (Q:JZ->J0->Prop) (E:JZ->J0->Prop),tn i s.heap->Q (.ref it) s->J3 (J4 P w) A (pyIter (.ref it)) Q E s
abbrev TI:=St->Hp->(It->Hp->Prop)->Prop
def Dd(X:Cx)(a:List (YP × Obj))(e:St)(f:Expr)(R:It->Hp->Prop)(c:JZ)(d:J0):Prop:=
 ∃(it:YP) (fp:List YP) (tn:Nat->Heap->Prop) (J:It) (H':Hp),c=.ref it/\Inv X a e H' d/\jP X.prog X.w X.K f J fp it tn/\tn 0 d.heap/\(∀ b∈fp,hX X a H' b)/\R J H'
def PI(X:Cx)(c a:Expr)(b:TI):Prop:=
 ∀(pins:List (YP × Obj)) (s:J0) (σ:St) (H:Hp) (R:It->Hp->Prop),Inv X pins σ H s->b σ H R->
  J3 (J4 X.prog X.w) X.A (Zr a X.env) (fun v d=>J3 (J4 X.prog X.w) X.A (pyIter v) (Dd X pins σ c R) X.xe d) X.xe s
theorem qB(b:s.heap.get? it=some o)(e:o.cls=.type n)(d:o.data=.fields vs)
  (c:["enumerate","zip","dict_itemiterator","dict_reverseitemiterator","odict_iterator","itertools.zip_longest","itertools.pairwise"].contains n=false) (a:Q () s):J3 M A (U6 tg (.ref it) u) Q E s:=by
 unfold U6
 cases tg <;> first
  | exact Qb a
  | (cases u <;> first
    | exact Qb a
    | (refine Qa (wpAny_load b ?_)
       rw [e,d]
       show J3 M A (if(["enumerate","zip","dict_itemiterator","dict_reverseitemiterator","odict_iterator","itertools.zip_longest","itertools.pairwise"].contains n && vs[0]? == some (Vy _))=true then _ else _) Q E s
       rw [if_neg (by intro h;rw [c,Vl]at h;cases h)]
       exact Qb a))
def CP(K:PySem.W.Frag)(a:YP):It:=
 ⟨fun i H=>∃ xs x,bY K H a xs/\xs[i]?=some x,fun i H x b=>b=H/\∀ xs,bY K H a xs->xs[i]?=some x,fun i H=>∃ xs,bY K H a xs/\xs.length<=i⟩
def CQ(K:PySem.W.Frag)(a:YP):It:=
 ⟨fun i H=>∃ xs x,bJ K H a xs/\xs[i]?=some x,fun i H x b=>b=H/\∀ xs,bJ K H a xs->xs[i]?=some x,fun i H=>∃ xs,bJ K H a xs/\xs.length<=i⟩
def uG(a:Int)(n:Nat):It:=⟨fun i _=>i<n,fun i H x b=>b=H/\x=.int (a+i),fun i _=>n<=i⟩
theorem Lq{P:J5}{w:J6}{K:PySem.W.Frag}{U:Expr}(a it:YP):jP P w K U (CP K a) [it] it (fun i h=>h.IsListIter it a i) where
 mem:=by simp
 obj:=fun i h f b j=>by
  have e:b=it:=by simpa using j
  subst e;obtain⟨o,e,c,d⟩:=f
  exact⟨o,e,fun v z=>by rw [d]at z;cases z⟩
 keep:=fun i h q f k=>f.at fun o e=>k it (by simp) o e
 item:=by
  intro X F A G S i g s R H E I n f B;subst F A G;obtain⟨T,x,m,y⟩:=B;obtain⟨t,r,p,hz⟩:=I.list m;obtain⟨u,hu,Z⟩:=r.get y;obtain⟨Q,O,f2,N,M,J⟩:=n it (by simp);refine wpAny_pyNext_list_item f p.isList (x:=u) (by simpa using hu) fun q l Y=>?_;have I1:Inv X g R H { s with heap:=q }:=I.turned (t':=s.toks) (fun b o j e=>(Y.2 b j).trans e) Q O N M J;obtain⟨o,e,c,d⟩:=id l
  exact⟨u,rfl,qB (s:={ s with heap:=q }) e c d (by decide) ⟨x,H,I1,Z,⟨rfl,fun ys hy=>by rw [I.list_inj hy m];exact y⟩,l,fun b j=>(n b j).1⟩⟩
 done:=by
  intro X F A G S i g s R H E I n f B;subst F A G;obtain⟨T,m,y⟩:=B;obtain⟨t,r,p,hz⟩:=I.list m;obtain⟨Q,O,f2,N,M,J⟩:=n it (by simp);have hl:=r.length;exact wpAny_pyNext_list_end (I.ok.hd S) f p.isList (by simp;lia) fun q eb=>⟨rfl,I.turned (t':=s.toks) (fun b o j e=>eb b o j e) Q O N M J⟩
 self:=fun _ _ _ _ _ f h=>wpAny_pyIter_listiter f h
theorem Lr{P:J5}{w:J6}{K:PySem.W.Frag}{U:Expr}(a it:YP):jP P w K U (CQ K a) [it] it (fun i h=>h.IsTupleIter it a i) where
 mem:=by simp
 obj:=fun i h f b l=>by
  have e:b=it:=by simpa using l
  subst e;obtain⟨o,e,c,d⟩:=f
  exact⟨o,e,fun v z=>by rw [d]at z;cases z⟩
 keep:=fun i h r f k=>f.at fun o e=>k it (by simp) o e
 item:=by
  intro X F A G S i g s R H E I q f B;subst F A G;obtain⟨T,x,n,y⟩:=B;obtain⟨j,t,p,hz⟩:=I.tuple n;obtain⟨u,hu,Z⟩:=t.get y;obtain⟨Q,O,f2,N,M,J⟩:=q it (by simp);refine wpAny_pyNext_tuple_item f (show s.heap.IsTuple a j.toArray from p) (x:=u) (by simpa using hu) fun r m Y=>?_;have I1:Inv X g R H { s with heap:=r }:=I.turned (t':=s.toks) (fun b o l e=>(Y.2 b l).trans e) Q O N M J;obtain⟨o,e,c,d⟩:=id m
  exact⟨u,rfl,qB (s:={ s with heap:=r }) e c d (by decide) ⟨x,H,I1,Z,⟨rfl,fun ys hy=>by rw [I.tuple_inj hy n];exact y⟩,m,fun b l=>(q b l).1⟩⟩
 done:=by
  intro X F A G S i g s R H E I q f B;subst F A G;obtain⟨T,n,y⟩:=B;obtain⟨j,t,p,hz⟩:=I.tuple n;obtain⟨Q,O,f2,N,M,J⟩:=q it (by simp);have hl:=t.length;exact wpAny_pyNext_tuple_end (I.ok.hd S) f (show s.heap.IsTuple a j.toArray from p) (by simp;lia) fun r eb=>⟨rfl,I.turned (t':=s.toks) (fun b o l e=>eb b o l e) Q O N M J⟩
 self:=fun _ _ _ _ _ f h=>wpAny_pyIter_tupleiter f h
theorem zSE{P:J5}{w:J6}{K:PySem.W.Frag}{N:Expr}(it:YP)(g:Int)(n:Nat):jP P w K N (uG g n) [it] it (fun i h=>IsRangeIter h it (g+(i:Nat) * 1) ((n:Int)-(i:Nat)) 1) where
 mem:=by simp
 obj:=fun i h a b d=>by
  have e:b=it:=by simpa using d
  subst e
  exact⟨_,a,fun v z=>by
   have M:Data.fields _=Data.cell v:=z
   cases M⟩
 keep:=fun i h l a k=>k it (by simp) _ a
 item:=by
  intro X r m u q i c s G H E I j a p;subst r m u;obtain⟨F,B,R,A,y,x⟩:=j it (by simp);have W:=Walks.range (prog:=X.prog) (w:=X.w) (I.ok.hd q) it g 1 n;refine W.item i s _ _ p a fun v l J Q f O=>?_;obtain⟨t,rfl⟩:=Q;have T:Inv X c G H { s with heap:=l,toks:=J }:=I.turned (fun b o d e=>O b o (by simpa using d) e) F B A y x
  refine⟨_,rfl,qB (s:={ s with heap:=l,toks:=J }) (n:="range_iterator") f rfl rfl (by decide) ⟨.int (g+i),H,T,⟨t,?_⟩,⟨rfl,rfl⟩,f,fun b d=>(j b d).1⟩⟩
  rw [Int.mul_one]
 done:=by
  intro X r m u q i c s G H E I j a p;subst r m u;obtain⟨F,B,R,A,y,x⟩:=j it (by simp);exact wpAny_pyNext_range_end (I.ok.hd q) a (by have:n<=i:=p;lia) fun l S=>⟨rfl,I.turned (t':=s.toks) (fun b o d e=>S b o d e) F B A y x⟩
 self:=fun _ _ _ _ _ a h=>wpAny_pyIter_rangeiter a h
section
variable {X:Cx}{tg:Expr}
theorem Xw{c:List (YP × Obj)}{d:St}{H:Hp}{s:J0}{R:It->Hp->Prop}{E:JZ->J0->Prop}{lo a:Int}{t u v:Tok}{tk:Nat}(I:Inv X c d H s)(j:-(2 ^ 62)<=lo)(i:lo<2 ^ 62)(h:-(2 ^ 62)<=a)(g:a<2 ^ 62)
  (q:R (uG lo (a-lo).toNat) H):J3 (J4 X.prog X.w) X.A (pyIter (.ref s.heap.objs.size)) (Dd X c d tg R) E { s with heap:=s.heap.push { cls:=.type "range",data:=.fields #[.int lo t,.int a u,.int 1 v] },toks:=tk }:=by
 refine wpAny_pyIter_range (IsRange.new ..) (small_one j i h g) ?_;have I1:Inv X c d H { s with heap:=s.heap.push { cls:=.type "range",data:=.fields #[.int lo t,.int a u,.int 1 v] },toks:=tk }:=I.kept fun b o e=>Qe _ e
 refine⟨(s.heap.push { cls:=.type "range",data:=.fields #[.int lo t,.int a u,.int 1 v] }).objs.size,[(s.heap.push { cls:=.type "range",data:=.fields #[.int lo t,.int a u,.int 1 v] }).objs.size],_,_,H,rfl,
  I1.kept (t':=tk) fun b o e=>Qe _ e,zSE _ lo (a-lo).toNat,?_,fun b f=>?_,q⟩
 ·have l:lo+((0:Nat):Int) * 1=lo:=by simp
  have k:(((a-lo).toNat:Nat):Int)-((0:Nat):Int)=Builtin.Range.rangeSize lo a 1:=by rw [rangeSize_one];split <;> lia
  show IsRangeIter _ _ (lo+((0:Nat):Int) * 1) ((((a-lo).toNat:Nat):Int)-((0:Nat):Int)) 1
  rw [l,k];exact Qz _ rfl
 ·have e:b=(s.heap.push { cls:=.type "range",data:=.fields #[.int lo t,.int a u,.int 1 v] }).objs.size:=by simpa using f
  subst e;exact I1.fpOk (Qk _) (I1.hok.fresh (Qk _))
def jK(c:TA):TI:=fun a H R=>c a H fun b d=>∃ j:Int,b=[.int j]/\-(2 ^ 62)<=j/\j<2 ^ 62/\R (uG 0 j.toNat) d
theorem X9{a:Expr}{f:TA}{p b:Pos}(n:Gl X "range")(m:X.mg "range"=none)(o:PA X [a] f)(hs:J2 [a] X.env=[(false,Zr a X.env)]:=by rfl):PI X tg (.Call (.Name "range" p) [a] [] b) (jK f):=by
 intro c s g H R I h;refine Call_ (nL I n m boot_range (Y8 (aT (o b c s g H _ I h) fun w x ⟨v,y,u,k,d⟩=>?_) hs rfl));obtain⟨j,e,d,l,q⟩:=d;subst e
 cases k with
 | cons r i=>
  cases i;obtain⟨t,rfl⟩:=r;exact call_range_1 (Xw u (by lia) (by lia) d l (by simpa using q))
def OU(c:TI)(g:TG)(d:TS):TS:=fun D a H=>c a H fun J f=>∃ W:Nat->Nat->St->Hp->Prop,(∃ m,W 0 m a f)/\∀ i m a H,W i m a H->
 (J.stop i H/\D.nx a H) ∨ (J.go i H/\∃ N:St->Hp->Prop,(∀ σ' H',N σ' H'->∃ m',m'<m/\W (i+1) m' σ' H')/\∀ x H',J.yld i H x H'->g x a H' fun b e=>d { D with nx:=N,ct:=N,bk:=D.nx } b e)
def tZ(a:List YP)(h:Heap):List (YP × Obj):=a.filterMap fun b=>(h.get? b).map fun o=>(b,o)
theorem yJ(a:b∈fp)(e:h.get? b=some o):(b,o)∈tZ fp h:=List.mem_filterMap.mpr ⟨b,a,by rw [e];rfl⟩
theorem Wj(a:p∈tZ fp h):p.1∈fp/\h.get? p.1=some p.2:=by
 obtain⟨b,c,e⟩:=List.mem_filterMap.mp a
 cases q:h.get? b with
 | none=>rw [q]at e;cases e
 | some o=>
  rw [q]at e;have d:(b,o)=p:=QF e;subst d
  exact⟨c,q⟩
theorem Inv.pinned(I:Inv X pins σ H s)(h:∀ b∈fp,hX X pins H b)(g:∀ b∈fp,∃ o,s.heap.get? b=some o/\∀ v,o.data≠.cell v):Inv X (pins++tZ fp s.heap) σ H s:=
 I.pins_of fun p f=>(QA.mp f).elim (fun z=>I.pin p (Qw _ z)) fun z=>by
  obtain⟨a,e⟩:=Wj z;obtain⟨k,j,i,_⟩:=h p.1 a;obtain⟨o,c,d⟩:=g p.1 a;rw [e]at c;cases c
  exact⟨e,k,j,i,d⟩
theorem Inv.unpinned(I:Inv X (pins++pl) σ H s):Inv X pins σ H s:=I.pins_of fun p a=>I.pin p (Qw _ (QL _ a))
theorem BL(F:PassesOwn (J4 X.prog X.w) X.A X.env X.xe)(hc:X.calm=true)(hi:PI X tg iter wi)(hg:PG X tg g)(l:fM X body tb)
  (hs:∀ x,Zx iter X.env x=pure x:=by intro _;rfl):PS X (.For tg iter body [] pos) (OU wi g tb):=by
 intro c s Z H D I h;refine wpAny_For (aT (hi c s Z H _ I h) fun v s1 h1=>aT h1 fun a0 s2 h2=>?_) hs;obtain⟨it,K,tn,J,H2,e,I2,T,Q,f2,W,⟨m0,w0⟩,turn⟩:=h2;subst e;have k:∀{H':Hp},(∀ b∈K,H' b=none)->∀ b∈K,hX X c H' b:=fun hn b l=>⟨hn b l,(f2 b l).2⟩;refine codeAny_forLoop_any (fun n s'=>∃ i σ' H',Inv X c σ' H' s'/\tn i s'.heap/\(∀ b∈K,H' b=none)/\W i n σ' H') ?_ m0 ⟨0,Z,H2,I2,Q,fun b l=>(f2 b l).1,w0⟩;rintro n s3 ⟨i,j,M,I3,B,G,w3⟩;rcases turn i n j M w3 with⟨stop,qn⟩ | ⟨go,N,hN,step⟩
 ·refine Jk F (aT (T.done X rfl rfl rfl hc i c s3 j M X.xe I3 (k G) B stop) fun r s4 y=>?_);obtain⟨S,I4⟩:=y;subst S;exact U5 ⟨j,M,I4,qn⟩
 ·refine Jk F (aT (T.item X rfl rfl rfl hc i c s3 j M X.xe I3 (k G) B go) fun r s4 y=>?_);obtain⟨u,S,h4⟩:=y;subst S;refine Jk F (aT h4 fun _ s5 y=>?_);obtain⟨x,H5,I5,r5,y5,z,U⟩:=y;have Y:=I5.pinned (k U) (T.obj _ _ z);refine Jk F (aT (hg _ s5 j H5 x u _ Y r5 (step x H5 y5)) fun _ s6 y=>?_);obtain⟨O,H6,I6,q6⟩:=y;refine Jk F (aT (l _ s6 O H6 _ I6 q6) fun f R t=>?_)
  have p:∀{a:St}{q:Hp},Inv X (c++tZ K s5.heap) a q R->N a q->∃ m,m<n/\∃ i σ' H',Inv X c σ' H' R/\tn i R.heap/\(∀ b∈K,H' b=none)/\W i m σ' H':=fun{a q} I7 E=>by
   obtain⟨m',hm,w7⟩:=hN a q E
   refine⟨m',hm,i+1,a,q,I7.unpinned,T.keep _ _ _ z fun b l o e=>(I7.pin (b,o) (Qw _ (Qw _ (yJ l e)))).1,fun b l=>?_,w7⟩
   obtain⟨o,e,d⟩:=T.obj _ _ z b l
   exact(I7.pin (b,o) (Qw _ (Qw _ (yJ l e)))).2.1
  cases f with
  | next=>obtain⟨a,q,I7,E⟩:=t;exact p I7 E
  | cont=>obtain⟨a,q,I7,E⟩:=t;exact p I7 E
  | brk=>obtain⟨a,q,I7,t⟩:=t;exact⟨a,q,I7.unpinned,t⟩
  | ret v=>obtain⟨x7,a,q,I7,r7,t⟩:=t;exact⟨x7,a,q,I7.unpinned,r7,t⟩
end
abbrev R2:=V->V->Hp->VK->Prop
def bF(X:Cx)(f:JZ->JZ->Sem JZ)(r:R2):Prop:=
 ∀(pins:List (YP × Obj)) (s:J0) (σ:St) (H:Hp) (x y:V) (v u:JZ) (Q:VK),Inv X pins σ H s->RelV x v->RelV y u->r x y H Q->
  J3 (J4 X.prog X.w) X.A (f v u) (EP X pins σ Q) X.xe s
def mU(X:Cx)(f:JZ->Sem JZ)(r:V->Hp->VK->Prop):Prop:=
 ∀(pins:List (YP × Obj)) (s:J0) (σ:St) (H:Hp) (x:V) (v:JZ) (Q:VK),Inv X pins σ H s->RelV x v->r x H Q->
  J3 (J4 X.prog X.w) X.A (f v) (EP X pins σ Q) X.xe s
def dW(X:Cx)(f:JZ)(r:List V->Hp->VK->Prop):Prop:=
 ∀(pins:List (YP × Obj)) (s:J0) (σ:St) (H:Hp) (xs:List V) (us:List JZ) (Q:VK),Inv X pins σ H s->Vals xs us->r xs H Q->
  J3 (J4 X.prog X.w) X.A (call f us) (EP X pins σ Q) X.xe s
def lL(r:R2)(c b:TE):TE:=fun a H Q=>c a H fun x e=>b a e fun y d=>r x y d Q
def Pa(r:V->Hp->VK->Prop)(b:TE):TE:=fun a H Q=>b a H fun x c=>r x c Q
def rI(C:Int->Int->Prop)(g:Int->Int->V):R2:=fun x y H Q=>∃ i j,x=.int i/\y=.int j/\C i j/\Q (g i j) H
def lJ(g:Int->Int->V):R2:=fun x y H Q=>∃ i j,x=.int i/\y=.int j/\Q (g i j) H
def rU(g:Int->V):V->Hp->VK->Prop:=fun x H Q=>∃ i,x=.int i/\Q (g i) H
section
variable {X:Cx}{a b c:Expr}{ta tb tc:TE}{pos:Pos}
theorem zL(o:PE X a ta)(n:PE X b tb){c:List (YP × Obj)}{s:J0}{d:St}{H:Hp}{R:V->V->Hp->Prop}(I:Inv X c d H s)
  (h:ta d H fun x H1=>tb d H1 fun y H2=>R x y H2) {Q:JZ->J0->Prop}{f:JZ->JZ->Sem JZ}
  (m:∀ v u s2 x y H2,Inv X c d H2 s2->RelV x v->RelV y u->R x y H2->J3 (J4 X.prog X.w) X.A (f v u) Q X.xe s2):
  J3 (J4 X.prog X.w) X.A (Zr a X.env) (fun v s₁=>J3 (J4 X.prog X.w) X.A (Zr b X.env) (fun u s₂=>J3 (J4 X.prog X.w) X.A (f v u) Q X.xe s₂) X.xe s₁) X.xe s:=by
 refine aT (o c s d H _ I h) fun v g e=>?_;obtain⟨x,H1,q,j,l⟩:=e;refine aT (n c g d H1 _ q l) fun u s2 e=>?_;obtain⟨y,H2,p,i,k⟩:=e;exact m v u s2 x y H2 p j i k
theorem N1{op:Operator}{r:R2}(i:bF X (ZD op) r)(k:PE X a ta)(j:PE X b tb):PE X (.BinOp a op b pos) (lL r ta tb):=by
 intro c s d H Q I h;exact wpAny_BinOp (zL k j I h fun v u e x y m l g f q=>i c e d m x y v u Q l g f q)
theorem N2(g:mU X (unaryOp op) r)(i:PE X a ta):PE X (.UnaryOp op a pos) (Pa r ta):=by
 intro b s c H Q I h;exact UnaryOp_ (aT (i b s c H _ I h) fun v d ⟨x,k,j,e,f⟩=>g b d c k x v Q j e f)
theorem zU{f:JZ->JZ->Sem JZ}{C:Int->Int->Prop}{g:Int->Int->Int}
  (a:∀(i j:Int) (t u:Tok) (s:J0) (Q:JZ->J0->Prop) (E:JZ->J0->Prop),C i j->Q (.int (g i j) s.toks) { s with toks:=s.toks+1 }->J3 (J4 X.prog X.w) X.A (f (.int i t) (.int j u)) Q E s):
  bF X f (rI C fun i j=>.int (g i j)):=by
 intro b s l H x y v u Q I e d h;obtain⟨i,j,rfl,rfl,k,q⟩:=h;obtain⟨t,rfl⟩:=e;obtain⟨c,rfl⟩:=d;exact a i j t c s _ _ k ⟨.int (g i j),H,I.tok _,⟨_,rfl⟩,q⟩
theorem DN{f:JZ->JZ->Sem JZ}{g:Int->Int->Int}
  (a:∀(i j:Int) (t u:Tok) (s:J0) (Q:JZ->J0->Prop) (E:JZ->J0->Prop),Q (.int (g i j) s.toks) { s with toks:=s.toks+1 }->J3 (J4 X.prog X.w) X.A (f (.int i t) (.int j u)) Q E s):
  bF X f (lJ fun i j=>.int (g i j)):=by
 intro b s k H x y v u Q I e d h;obtain⟨i,j,rfl,rfl,q⟩:=h;obtain⟨t,rfl⟩:=e;obtain⟨c,rfl⟩:=d;exact a i j t c s _ _ ⟨.int (g i j),H,I.tok _,⟨_,rfl⟩,q⟩
theorem zS{f:JZ->JZ->Sem JZ}{g:Int->Int->Bool}
  (a:∀(i j:Int) (t u:Tok) (s:J0) (Q:JZ->J0->Prop) (E:JZ->J0->Prop),Q (.bool (g i j)) s->J3 (J4 X.prog X.w) X.A (f (.int i t) (.int j u)) Q E s):
  bF X f (lJ fun i j=>.bl (g i j)):=by
 intro b s k H x y v u Q I e d h;obtain⟨i,j,rfl,rfl,q⟩:=h;obtain⟨t,rfl⟩:=e;obtain⟨c,rfl⟩:=d;exact a i j t c s _ _ ⟨.bl (g i j),H,I,rfl,q⟩
def Ly(i j:Int):Prop:=0<j/\j<1073741824
def uD(i j:Int):Prop:=(-(2 ^ 64)<i/\i<2 ^ 64) ∨ (-(2 ^ 64)<j/\j<2 ^ 64)
theorem uD.ok{i j:Int}(h:uD i j):IntMulOk i j:=by
 rcases h with⟨b,a⟩ | ⟨b,a⟩
 ·exact .of_left (intBits_le_64 b a)
 ·exact .of_right (intBits_le_64 b a)
theorem Wr:bF X (ZD .Add) (lJ fun i j=>.int (i+j)):=DN fun _ _ _ _ _ _ _ q=>add_int q
theorem Wz:bF X (ZD .Sub) (lJ fun i j=>.int (i-j)):=DN fun _ _ _ _ _ _ _ q=>sub_int q
theorem Ww:bF X (ZD .Mult) (rI uD fun i j=>.int (i * j)):=zU fun _ _ _ _ _ _ _ a q=>mul_int q a.ok
theorem Wu:bF X (ZD .FloorDiv) (rI Ly fun i j=>.int (i / j)):=zU fun i j _ _ _ _ _ a q=>by
 have c:(0:Int)<j:=a.1;have b:j<1073741824:=a.2;exact floordiv_int (by lia) (by rw [Int.fdiv_eq_ediv_of_nonneg i (by lia)];exact q) (.inl (PyProof.noPylong_small (by lia)))
theorem Wv:bF X (ZD .Mod) (rI (fun _ j=>0<j) fun i j=>.int (i % j)):=zU fun i j _ _ _ _ _ a q=>by
 have b:(0:Int)<j:=a;exact mod_int' (by lia) (by rw [Int.fmod_eq_emod_of_nonneg i (by lia)];exact q)
theorem Pb{f:JZ->Sem JZ}{g:Int->Int}
  (a:∀(i:Int) (t:Tok) (s:J0) (Q:JZ->J0->Prop) (E:JZ->J0->Prop),Q (.int (g i) s.toks) { s with toks:=s.toks+1 }->J3 (J4 X.prog X.w) X.A (f (.int i t)) Q E s):
  mU X f (rU fun i=>.int (g i)):=by
 intro b s d H x v Q I c h;obtain⟨i,rfl,q⟩:=h;obtain⟨t,rfl⟩:=c;exact a i t s _ _ ⟨.int (g i),H,I.tok _,⟨_,rfl⟩,q⟩
theorem zSM:mU X (unaryOp .USub) (rU fun i=>.int (-i)):=Pb fun _ _ _ _ _ q=>neg_int q
theorem Sf(I:Inv X pins σ H s)(q:Q (.bl k) H)(e:k=k'):EP X pins σ Q (.bool k') s:=by
 subst e
 exact⟨.bl k,H,I,rfl,q⟩
theorem NY:bF X (Ze .Lt) (lJ fun i j=>.bl (decide (i<j))):=zS fun _ _ _ _ _ _ _ q=>lt_int q
theorem NX:bF X (Ze .LtE) (lJ fun i j=>.bl (decide (i<=j))):=zS fun _ _ _ _ _ _ _ q=>le_int q
theorem NW:bF X (Ze .Gt) (lJ fun i j=>.bl (decide (j<i))):=zS fun _ _ _ _ _ _ _ q=>gt_int q
theorem Wx:bF X (Ze .IsNot) (fun x y H Q=>y=.non/\Q (.bl (!decide (x=.non))) H):=by
 intro b s d H x y v u Q I a c h;obtain⟨rfl,q⟩:=h;cases c;refine isnot_none_gen (Sf I q ?_)
 cases x <;> first
  | (cases a;rfl)
  | (obtain⟨t,rfl⟩:=a;rfl)
theorem bF.or{f:JZ->JZ->Sem JZ}{r e:R2}(h:bF X f r)(h':bF X f e):bF X f (fun x y H Q=>r x y H Q ∨ e x y H Q):=by
 intro a s b H x y v u Q I d c q;rcases q with q | q
 ·exact h a s b H x y v u Q I d c q
 ·exact h' a s b H x y v u Q I d c q
theorem eW(b:Expr)(h:op≠.In:=by decide)(a:op≠.NotIn:=by decide):ZN op b=false:=by
 have d:(op == CmpOp.In)=false:=by cases op <;> first | rfl | exact absurd rfl h
 have c:(op == CmpOp.NotIn)=false:=by cases op <;> first | rfl | exact absurd rfl a
 cases b <;> simp [ZN,d,c]
theorem Wa{op:CmpOp}{r:R2}(i:bF X (Ze op) r)(l:PE X a ta)(k:PE X b tb)(j:ZN op b=false):PE X (.Compare a [op] [b] pos) (lL r ta tb):=by
 intro c s d H Q I h;exact wpAny_Compare1 (zL l k I h fun v u e x y n m g f q=>i c e d n x y v u Q m g f q) j
def xU(t:TE):TT:=fun a H Q=>t a H fun x b=>∃ k,x=.bl k/\Q k b
theorem xG(q:bF X (Ze op) r)(A:PE X a ta)(w:PE X b tb)(t:ZN op b=false):PT X (.Compare a [op] [b] pos) (xU (lL r ta tb)):=by
 intro d s f H Q I h
 refine wpAny_isTrue_Compare1 (aT (A d s f H _ I h) fun v i ⟨x,K,F,m,p⟩=>aT (w d i f K _ F p) fun u g ⟨y,J,E,l,o⟩=>
  aT (q d g f J x y v u _ E m l o) fun c M ⟨z,G,B,j,k,e,n⟩=>?_) t
 subst e;cases j;exact YH ⟨G,B,n⟩
def B6(r g:R2)(f e d:TE):TE:=fun a H Q=>f a H fun x j=>e a j fun y i=>r x y i fun z b=>∃ k,z=.bl k /\
 (if k=true then d a b fun c h=>g y c h Q else Q (.bl false) b)
theorem V9(M:bF X (Ze op) r)(i:bF X (Ze op') r')(S:PE X a ta)(R:PE X b tb)(O:PE X c tc)
  (N:lastMarks [op,op'] [b,c]=false:=by with_unfolding_all rfl):PE X (.Compare a [op,op'] [b,c] pos) (B6 r r' ta tb tc):=by
 intro f s g H Q I h
 refine Compare_chain (aT (S f s g H _ I h) fun v A ⟨x,H1,W,F,K⟩=>chain_link (aT (R f A g H1 _ W K) fun u w ⟨y,Z,U,j,J⟩=>
  aT (M f w g Z x y v u _ U F j J) fun d t ⟨z,n,m,E,k,e,l⟩=>?_)) N
 subst e;cases E;refine YH ?_
 cases k with
 | false=>exact ite_ff ⟨.bl false,n,m,rfl,l⟩
 | true=>exact ite_tt (chain_last (aT (O f t g n _ m l) fun p q ⟨o,Y,T,B,G⟩=>i f q g Y y o u p Q T j B G))
theorem zRt(S:bF X (Ze op) r)(i:bF X (Ze op') r')(Y:PE X a ta)(W:PE X b tb)(U:PE X c tc)
  (T:lastMarks [op,op'] [b,c]=false:=by with_unfolding_all rfl):PT X (.Compare a [op,op'] [b,c] pos) (xU (B6 r r' ta tb tc)):=by
 intro f s g H Q I h
 refine isTrue_chain (aT (Y f s g H _ I h) fun v B ⟨x,H1,I1,J,O⟩=>test_link (aT (W f B g H1 _ I1 O) fun u A ⟨y,H2,I2,j,N⟩=>
  aT (S f A g H2 x y v u _ I2 J j N) fun d w ⟨z,n,m,G,k,e,l⟩=>?_)) T
 subst e;cases G;refine YH ?_
 cases k with
 | false=>
  obtain⟨k',e',R⟩:=l;cases e';exact ite_ff ⟨n,m,R⟩
 | true=>
  refine ite_tt (test_last (aT (U f w g n _ m l) fun q t ⟨p,H4,I4,F,M⟩=>aT (i f t g H4 y p u q _ I4 j F M) fun d' s5 o=>?_));obtain⟨z2,H5,I5,E,k2,Z,K⟩:=o;subst Z;cases E;exact YH ⟨H5,I5,K⟩
theorem yF:(sizeLine:Nat)<2 ^ 63:=by rw [Yo];decide
theorem Ws:bF X (ZD .Add) (fun x y H Q=>∃ i j,x=.str i/\y=.str j/\i.length+j.length<=sizeLine/\Q (.str (i++j)) H):=by
 intro a s f H x y v u Q I d c h;obtain⟨i,j,rfl,rfl,e,q⟩:=h;obtain⟨t,rfl⟩:=d;obtain⟨b,rfl⟩:=c;exact add_str (fun b g=>⟨.str (i++j),H,I.tok _,⟨_,rfl⟩,q⟩) e
theorem iN(r:Vals [x] us):∃ u,us=[u]/\RelV x u:=by
 cases r with
 | cons b a=>cases a;exact⟨_,rfl,b⟩
theorem Pc(r:Vals [x,y] us):∃ u w',us=[u,w']/\RelV x u/\RelV y w':=by
 cases r with
 | cons d c=>
  cases c with
  | cons b a=>cases a;exact⟨_,_,rfl,d,b⟩
theorem P0:dW X (.builtin "abs") (fun xs H Q=>∃ i,xs=[.int i]/\Q (.int (if i<0 then -i else i)) H):=by
 intro a s b H xs c Q I r h;obtain⟨i,rfl,q⟩:=h;obtain⟨u,rfl,t,rfl⟩:=iN r;exact call_abs_int fun u d=>⟨.int (if i<0 then -i else i),H,I.tok _,⟨_,rfl⟩,q⟩
end
structure mM(h:Heap)(x dx C:YP)(mA:Str->Option JZ):Prop where
 obj:h.get? x=some (PySem.W.instObj C dx)
 ns:h.Ns1 dx mA
 ne:dx≠x
theorem T7{h:Heap}{f:YP}{c:Str->Option JZ}(n:h.Ns1 f c):∃ od,h.get? f=some od/\∀ name,PySem.W.lookIn name od=some (c name):=by
 obtain⟨o,d,p,i,l,k,_,j⟩:=n
 refine⟨o,i,fun name=>?_⟩
 have e:=j name;unfold nsFind findBy at e;rw [<- Array.find?_toList]at e;unfold PySem.W.lookIn;rw [l];dsimp only;split
 ·rename_i y q;rw [q]at e;exact congrArg some e
 ·rename_i q;rw [q]at e
  have a:d.toList.any (·.refKey)=false:=by
   rw [List.any_eq_false];intro y g;obtain⟨z,t,b⟩:=k y (Array.mem_toList_iff.mp g)
   simp [DictEntry.refKey,b]
  have m:¬ d.toList.any (·.refKey)=true:=by rw [a];exact QB
  rw [if_neg m];exact congrArg some e
theorem mM.look(I:mM h x dx C mA):∃ od,PySem.W.InstAt h x (PySem.W.instObj C dx) C (some od)/\∀ name,PySem.W.lookIn name od=some (mA name):=
 let⟨od,ho,hl⟩:=T7 I.ns
 ⟨od,⟨I.obj,rfl,rfl,ho⟩,hl⟩
section
variable {prog:J5}{w:J6}{A:Around}{E:JZ->J0->Prop}{s:J0}{K:PySem.W.Frag}{x dx C f:YP}{mA:Str->Option JZ}{name:Str}{v:JZ}
theorem RF(X:K.In s.heap)(I:mM s.heap x dx C mA)(e:PySem.W.plainGet K C name=true)(d:PySem.W.hasDictIn K C=true)
  (f:PySem.W.findIn K (.ref C) name=some none) (b:mA name=some v) (a:PySem.W.handedIn v=true) (h:Q v { s with toks:=s.toks+1 }):
  J3 (J4 prog w) A (getAttr (.ref x) name expr) Q E s:=by
 obtain⟨g,J,c⟩:=I.look;exact PySem.W.get_value X J (PySem.W.plainGet_of e).1 (PySem.W.findObj_own d f rfl (by rw [c,b])) a h
theorem RG(X:K.In s.heap)(I:mM s.heap x dx C mA)(a:PySem.W.plainGet K C name=true)
  (g:PySem.W.findIn K (.ref C) name=some (some (.ref f))) (d:PySem.W.isFn K (.ref f)=true) (c:mA name=none) (h:Q (.ref f,[.ref x]) s):
  J3 (J4 prog w) A (getMethod (.ref x) name pl) Q E s:=by
 obtain⟨b,J,e⟩:=I.look;exact PySem.W.method_fn X J (PySem.W.plainGet_of a).1 (PySem.W.plainGet_of a).2 g (beq_iff_eq.mp d) (by show(PySem.W.lookIn name b).map (·.isSome)=some false;rw [e,c];rfl) h
theorem Xd(X:K.In s.heap)(I:mM s.heap x dx C mA)
  (hs:PySem.W.findIn K (.ref C) "__setattr__"=some (some (.builtin "object.__setattr__"))) (m:PySem.W.plainOver K C=true) (l:PySem.W.takerIn K C name=some none) (n:PySem.W.hasDictIn K C=true)
  (k:PySem.Within mA ns) (hsz:ns.length<=sizeLine)
  (h:∀ h',mM h' x dx C (fun y=>if y=name then some v else mA y)->Zp dx s.heap h'->Q () { s with heap:=h',toks:=s.toks+2 }):
  J3 (J4 prog w) A (setAttr (.ref x) name v) Q E s:=by
 obtain⟨t,J,z⟩:=I.look;refine PySem.W.set_plain X J hs (PySem.W.osa_open (s:={ s with toks:=s.toks+1 }) (r:=none) X J m l fun b=>?_);obtain⟨B,o,g⟩:=PySem.W.any_some n;have j:s.heap.get? x=some ⟨.ref C,some dx,.plain,#[]⟩:=I.obj;refine Qa (Qb (Qa (Qa (wpAny_loadPart j (Qa (PySem.W.Looks.here (s:={ s with toks:=s.toks+1 }) (PySem.W.looks_clsIn X o) ?_))))));rw [g];refine Qb (a:=some dx) (Qa (Qb (Qa ?_)));refine wpAny_nsSet1 (s:={ s with toks:=s.toks+1 }) I.ns fun h' d c=>?_;obtain⟨u,p,q,e,f,i⟩:=d.count (PySem.Within.cons name v k);refine Qa (wpAny_lookBehind e (by rw [f];exact pastItsLine_dict (QH i (by rw [Qt];lia))) ?_);exact Qb (h _ ⟨(c.2 _ (Z4 I.ne)).trans I.obj,d,I.ne⟩ c)
theorem Tf(X:K.In s.heap)(b:PySem.W.makesIn K C=true)
  (c:PySem.W.findIn K (.ref C) "__init__"=some (some (.ref f))) (e:PySem.W.typeIn K (.ref f)=some (.type "function"))
  (h:Ud (J4 prog w) (A.under (.builtin "type.__call__" ⟨.ref C::vs,kw⟩)) (.call (.ref f) ⟨.ref (s.heap.objs.size+1)::vs,kw⟩) (PySem.W.InitBack (s.heap.objs.size+1) R)
   { s with heap:=(s.heap.push PySem.W.emptyDict).push (PySem.W.instObj C s.heap.objs.size) }):
  Ud (J4 prog w) A (.call (.ref C) ⟨vs,kw⟩) R s:=by
 obtain⟨j,g,d,t,i⟩:=s;exact PySem.W.make_core (PySem.W.makes_of X b) (PySem.W.looks_findIn X c) (fun a=>PySem.W.bind_fn X a e) (.inl rfl) h
end
def dO(f:Str)(v:V):List (Str × V)->List (Str × V)
 | []=>[(f,v)]
 | (g,x)::r=>if g=f then(g,v)::r else(g,x)::dO f v r
theorem G5(f g:Str)(v:V):∀ fs:List (Str × V),(dO f v fs).lookup g=if g=f then some v else fs.lookup g
 | []=>by
  show ZS g [(f,v)]=_
  by_cases h:g=f
  ·have a:(g == f)=true:=beq_iff_eq.mpr h;simp only [ZS,a,if_pos h]
  ·have a:(g == f)=false:=beq_eq_false_iff_ne.mpr h;simp only [ZS,a,if_neg h]
 | (k,x)::r=>by
  have c:=G5 f g v r;rw [show dO f v ((k,x)::r)=(if k=f then(k,v)::r else(k,x)::dO f v r)from rfl];by_cases b:k=f
  ·rw [if_pos b];by_cases h:g=k
   ·have a:(g == k)=true:=beq_iff_eq.mpr h;simp only [ZS,a,if_pos (h.trans b)]
   ·have a:(g == k)=false:=beq_eq_false_iff_ne.mpr h;simp only [ZS,a,if_neg (fun e:g=f=>h (e.trans b.symm))]
  ·rw [if_neg b];by_cases h:g=k
   ·have a:(g == k)=true:=beq_iff_eq.mpr h;simp only [ZS,a,if_neg (fun e:g=f=>b (h.symm.trans e))]
   ·have a:(g == k)=false:=beq_eq_false_iff_ne.mpr h;simp only [ZS,a];exact c
theorem Cf(f:Str)(v:V):∀ fs:List (Str × V),f∈(dO f v fs).map (·.1)/\∀ g,g∈fs.map (·.1)->g∈(dO f v fs).map (·.1)
 | []=>⟨by simp [dO],fun g h=>by simp at h⟩
 | (k,x)::r=>by
  obtain⟨c,b⟩:=Cf f v r;rw [show dO f v ((k,x)::r)=(if k=f then(k,v)::r else(k,x)::dO f v r)from rfl];by_cases a:k=f
  ·rw [if_pos a];subst a
   exact⟨by simp,fun g h=>by simpa using h⟩
  ·rw [if_neg a]
   refine⟨?_,fun g h=>?_⟩
   ·rw [Qs];exact Qf _ c
   ·rw [Qs]at h ⊢;rcases Qq.mp h with e | e
    ·exact Qq.mpr (.inl e)
    ·exact Qf _ (b g e)
theorem HQ(f:Str)(v:V):∀ fs:List (Str × V),(dO f v fs).length<=fs.length+1
 | []=>by simp [dO]
 | (k,x)::r=>by
  have b:=HQ f v r;rw [show dO f v ((k,x)::r)=(if k=f then(k,v)::r else(k,x)::dO f v r)from rfl];by_cases a:k=f
  ·rw [if_pos a,Qt,Qt];lia
  ·rw [if_neg a,Qt,Qt];lia
theorem jO.some_of(r:jO (some v) o):∃ u,o=some u/\RelV v u:=by
 cases o with
 | none=>exact(show False from r).elim
 | some u=>exact⟨u,rfl,r⟩
theorem jO.none_of(r:jO none o):o=none:=by
 cases o with
 | none=>rfl
 | some u=>exact(show False from r).elim
theorem RN(r:RelV v u):PySem.W.handedIn u=true:=by
 cases v with
 | non=>cases(show u=ZH from r);rfl
 | bl b=>cases(show u=ZV b from r);rfl
 | int i=>obtain⟨t,e⟩:=(show ∃ t,u=Vk i t from r);cases e;rfl
 | str x=>obtain⟨t,e⟩:=(show ∃ t,u=Value.str x t from r);cases e;rfl
 | byt b=>obtain⟨t,e⟩:=(show ∃ t,u=Value.bytes b t from r);cases e;rfl
 | flt b=>obtain⟨t,e⟩:=(show ∃ t,u=Value.float b t from r);cases e;rfl
 | ref a=>cases(show u=Zb a from r);rfl
 | ty n=>cases(show u=Z3 n from r);rfl
section
variable {P:J5}{w:J6}{H H':Hp}{h h':Heap}{a C dx:YP}{fs fs':List (Str × V)}
theorem AH(b:c6 P w H h)(e:H a=some (.ins C dx fs)):∃ mA,mM h a dx C mA/\(∀ f,jO (fs.lookup f) (mA f))/\PySem.Within mA (fs.map (·.1))/\fs.length<=1000/\H dx=some (.own a):=by
 obtain⟨d,z,g,c,mA,n,r,q⟩:=(show eG P w H h a (.ins C dx fs)from b a _ e)
 exact⟨mA,⟨c,n,g⟩,r,q,z,d⟩
end
structure gA(K:PySem.W.Frag)(C:YP):Prop where
 pg:PySem.W.plainGet K C Str.empty=true
 hd:PySem.W.hasDictIn K C=true
 po:PySem.W.plainOver K C=true
 sa:PySem.W.findIn K (.ref C) "__setattr__"=some (some (.builtin "object.__setattr__"))
theorem gA.get{K:PySem.W.Frag}{C:YP}(c:gA K C)(f:Str):PySem.W.plainGet K C f=true:=c.pg
def iV(K:PySem.W.Frag)(C:YP)(f:Str):Prop:=PySem.W.findIn K (.ref C) f=some none
theorem iV.taker{K:PySem.W.Frag}{C:YP}{f:Str}(n:iV K C f):PySem.W.takerIn K C f=some none:=by
 unfold PySem.W.takerIn;rw [show PySem.W.findIn K (.ref C) f=some none from n];rfl
structure mL(K:PySem.W.Frag)(C:YP)(m:Str)(f:YP):Prop where
 at_:PySem.W.findIn K (.ref C) m=some (some (.ref f))
 fn:PySem.W.isFn K (.ref f)=true
 kp:PySem.W.keepIn K (.ref f)=true
section
variable {X:Cx}{pins:List (YP × Obj)}{σ:St}{H:Hp}{s:J0}{a C dx:YP}{fs:List (Str × V)}{f:Str}{v:V}{A:Around}{E:JZ->J0->Prop}
theorem RH(I:Inv X pins σ H s)(e:H a=some (.ins C dx fs))(c:gA X.K C)(n:iV X.K C f)(l:fs.lookup f=some v)
  (h:∀ u s',Inv X pins σ H s'->RelV v u->Q u s'):J3 (J4 X.prog X.w) A (getAttr (.ref a) f b) Q E s:=by
 obtain⟨g,O,r,_,_,_⟩:=AH I.hok e;obtain⟨u,i,d⟩:=jO.some_of (v:=v) (o:=g f) (by rw [<- l];exact r f);exact RF I.kIn O (c.get f) c.hd n i (RN d) (h u _ (I.tok _) d)
theorem Gc(I:Inv X pins σ H s)(e:H a=some (.ins C dx fs))(c:gA X.K C)(k:mL X.K C m g)(l:fs.lookup m=none)
  (h:Q (.ref g,[.ref a]) s):J3 (J4 X.prog X.w) A (getMethod (.ref a) m pl) Q E s:=by
 obtain⟨b,O,r,_,_,_⟩:=AH I.hok e;have d:b m=none:=jO.none_of (by rw [<- l];exact r m);exact RG I.kIn O (c.get m) k.at_ k.fn d h
theorem Xf(I:Inv X pins σ H s)(e:H a=some (.ins C dx fs))(c:gA X.K C)(n:iV X.K C f)(F:fs.length<1000)(l:RelV y u)
  (h:∀ s',Inv X pins σ (aJ H a (.ins C dx (dO f y fs))) s'->Q () s'):J3 (J4 X.prog X.w) A (setAttr (.ref a) f u) Q E s:=by
 obtain⟨i,O,r,d,_,j⟩:=AH I.hok e
 have m:(fs.map (·.1)).length<=sizeLine:=by rw [Qo,Yo];lia
 refine Xd I.kIn O c.sa c.po n.taker c.hd d m fun B O' k=>h _ ?_;have t:∃ o,B.get? dx=some o:=let⟨o,_,_,e',_⟩:=O'.ns;⟨o,e'⟩;refine I.write (x:=a) (e:=dx) (by rw [e];exact Ub) (.inr j) (fun b q v z=>(k.2 b v).trans z) t ?_
 refine⟨by rw [aU O.ne];exact j,?_,O.ne,O'.obj,_,O'.ns,fun g=>?_,fun g p=>?_⟩
 ·have:=HQ f y fs;lia
 ·show jO ((dO f y fs).lookup g) (if g=f then some u else i g)
  rw [G5];by_cases q:g=f
  ·rw [if_pos q,if_pos q];exact l
  ·rw [if_neg q,if_neg q];exact r g
 ·by_cases q:g=f
  ·rw [q];exact(Cf f y fs).1
  ·refine(Cf f y fs).2 g (d g fun z=>p ?_)
   show(if g=f then some u else i g)=none
   rw [if_neg q];exact z
theorem Inv.made(I:Inv X pins σ H s):Inv X pins σ (aJ (aJ H s.heap.objs.size (.own (s.heap.objs.size+1))) (s.heap.objs.size+1) (.ins C s.heap.objs.size []))
  { s with heap:=(s.heap.push PySem.W.emptyDict).push (PySem.W.instObj C s.heap.objs.size) }:=by
 have d:(s.heap.push PySem.W.emptyDict).get? s.heap.objs.size=some PySem.W.emptyDict:=Qz s.heap rfl
 have i:((s.heap.push PySem.W.emptyDict).push (PySem.W.instObj C s.heap.objs.size)).get? (s.heap.objs.size+1)=some (PySem.W.instObj C s.heap.objs.size):=by
  have:=Qz (s.heap.push PySem.W.emptyDict) (o:=PySem.W.instObj C s.heap.objs.size) rfl
  rwa [YT]at this
 have h:(s.heap.push PySem.W.emptyDict).Ns s.heap.objs.size (fun _=>none):=⟨PySem.W.emptyDict,#[],_,d,rfl,(fun e g=>absurd g (by simp)),fun _=>rfl⟩;have I1:=I.laid (a:=s.heap.objs.size) (o:=.own (s.heap.objs.size+1)) (h':=s.heap.push PySem.W.emptyDict) (t':=s.toks) (fun b u q=>Qe _ q) (Qk _) ⟨_,d⟩;refine I1.laid (a:=s.heap.objs.size+1) (o:=.ins C s.heap.objs.size []) (t':=s.toks) (fun b u q=>Qe _ q) (Nat.le_of_eq (YT _ _)) ?_;have c:s.heap.objs.size≠s.heap.objs.size+1:=QG (Jb _)
 refine⟨by rw [aU c,cP],Q2 _,c,i,fun _=>none,(Heap.Ns1.of_empty h).at fun o q=>Qe _ q,fun _=>Ub,fun y f=>absurd rfl f⟩
theorem PN(a:ZE e f env (Zr e env)=Zr e env)
  (h:J3 (J4 prog w) A (Zr e env) (fun o s₁=>J3 (J4 prog w) A (getAttr o f true) Q E s₁) E s):J3 (J4 prog w) A (Zr (.Attribute e f pos) env) Q E s:=
 Attribute_any_ h (by rw [arm_eval_Attribute,a])
end
def OT(K:PySem.W.Frag)(d:TE)(f:Str):TE:=fun c H Q=>d c H fun x b=>∃ a C dx fs v,x=.ref a/\b a=some (.ins C dx fs)/\gA K C/\iV K C f/\fs.lookup f=some v/\Q v b
def Ol(K:PySem.W.Frag)(e d:TE)(f:Str):TS:=fun D b H=>d b H fun y g=>e b g fun x c=>∃ a C dx fs,x=.ref a/\c a=some (.ins C dx fs)/\gA K C/\iV K C f/\fs.length<1000 /\
 D.nx b (aJ c a (.ins C dx (dO f y fs)))
section
variable {X:Cx}{o e value:Expr}{f:Str}{pos pos' tpos:Pos}{ta tv:TE}
theorem pK(he:PE X e ta)(k:ZE e f X.env (Zr e X.env)=Zr e X.env):PE X (.Attribute e f pos) (OT X.K ta f):=by
 intro b s d H Q I h;refine PN k (aT (he b s d H _ I h) fun u z g=>?_);obtain⟨x,t,r,i,a,C,A,fs,v,m,o,c,n,l,q⟩:=g;subst m
 obtain rfl:u=Zb a:=i
 exact RH r o c n l fun w y p j=>⟨v,t,p,j,q⟩
theorem BK(p:PE X o ta)(m:PE X value tv)(hs:ZC value (some (.Attribute o f pos')) pos.line X.env=pure false):PS X (.Assign [.Attribute o f pos'] value pos) (Ol X.K ta tv f):=by
 intro b s d H D I h;refine plainObj_wpAny_Assign_Attribute (aT (m b s d H _ I h) fun u e ⟨y,A,z,g,q⟩=>aT (p b e d A _ z q) fun k E ⟨x,G,w,i,a,C,F,fs,r,t,c,n,l,j⟩=>?_) hs;subst r
 obtain rfl:k=Zb a:=i
 exact Xf w t c n l g fun B v=>⟨d,_,v,j⟩
end
section
variable {X:Cx}{pins:List (YP × Obj)}{σ:St}{H:Hp}{s:J0}{A:Around}{E:JZ->J0->Prop}{Q:JZ->J0->Prop}{c:JZ}{b:Bool}
end
structure cA(k:Nat)(A:Around):Prop where
 hd:A.handled=none
 dp:A.depth+3 * k+5<recursionLimit
 un:A.units+16 * k+200<Zf
 gd:A.guards=some []
theorem cA.mono(r:cA k A)(h:j<=k):cA j A:=⟨r.hd,by have:=r.dp;lia,by have:=r.un;lia,r.gd⟩
theorem cA.deeper(r:cA (k+1) A)(env:Env):cA k (A.deeper env):=
 ⟨r.hd,by have:=r.dp;show A.depth+1+3 * k+5<_;lia,by have:=r.un;show A.units+3+16 * k+200<_;lia,r.gd⟩
theorem Te{A:Around}{C:YP}{us:List JZ}{a:List (Str × JZ)}:(A.under (.builtin "type.__call__" ⟨.ref C::us,a⟩)).depth=A.depth+1:=by
 first | rfl | simp [Around.under,Code.weight,Code.isCreation,Code.isGuard,Code.isCaller,Code.frames,Code.isFrame,guardIds]
theorem Tg{A:Around}{C:YP}{us:List JZ}{a:List (Str × JZ)}:(A.under (.builtin "type.__call__" ⟨.ref C::us,a⟩)).units=A.units+1:=by
 first | rfl | simp [Around.under,Code.cUnits,Code.frames,Code.isFrame]
theorem cA.make(r:cA (k+1) A)(C:YP)(us:List JZ)(a:List (Str × JZ)):cA k (A.under (.builtin "type.__call__" ⟨.ref C::us,a⟩)):=
 ⟨r.hd,by have:=r.dp;rw [Te];lia,by have:=r.un;rw [Tg];lia,by first | exact r.gd | simpa [Around.under,Code.guards,Code.isGuard,pushGuards,guardIds]using r.gd⟩
theorem cA.depth(r:cA k A):A.depth<recursionLimit:=by have:=r.dp;lia
def D0:TA:=fun _ H Q=>Q [] H
def OP(d:TE)(c:TA):TA:=fun a H Q=>d a H fun x f=>c a f fun b e=>Q (x::b) e
section
variable {X:Cx}{e:Expr}{es:List Expr}{te:TE}{t:TA}{pos:Pos}
theorem hE:PA X [] D0:=fun _ _ _ _ H Q I h=>Calls.spliced_nil ⟨[],H,I,.nil,h⟩
theorem fS(n:PE X e te)(m:PA X es t)(hs:J2 (e::es) X.env=(false,Zr e X.env)::J2 es X.env:=by rfl):PA X (e::es) (OP te t):=by
 intro b a s c H Q I h;rw [hs]
 show J3 _ _ (spliced ((false,Zr e X.env)::Zt b (J2 es X.env))) _ _ s
 refine Calls.spliced_cons (aT (n a s c H _ I h) fun u g d=>?_);obtain⟨x,r,p,j,l⟩:=d;exact aT (m b a g c r _ p l) fun v w ⟨f,q,o,i,k⟩=>⟨x::f,q,o,.cons j i,k⟩
def O9(t:TA):TE:=fun c H Q=>t c H fun a b=>a.length<=sizeLine/\∀ p,b p=none->Q (.ref p) (aJ b p (.tup a))
def OX(t:TA):TE:=fun c H Q=>t c H fun a b=>a.length<=sizeLine/\∀ p,b p=none->Q (.ref p) (aJ b p (.lst a))
theorem IN{x1}(h:PA X es t):PE X (.Tuple es x1 pos) (O9 t):=by
 intro a s f H Q I j;refine wpAny_Tuple_spliced (aT (h pos a s f H _ I j) fun i c ⟨g,d,I1,r,z,q⟩=>⟨by rw [<- r.length];exact z,?_⟩);have k:d c.heap.objs.size=none:=I1.hok.fresh (Qk _)
 refine⟨.ref c.heap.objs.size,aJ d c.heap.objs.size (.tup g),I1.laid (t':=c.toks) (fun b u e=>Qe _ e) (Qk _) ?_,rfl,q _ k⟩
 exact⟨z,i,r,⟨_,Qz _ rfl,rfl,_,rfl⟩⟩
theorem CD(h:PA X es t):PE X (.List es pos) (OX t):=by
 intro a s f H Q I j;refine wpAny_List_spliced (aT (h pos a s f H _ I j) fun i c ⟨g,d,I1,r,z,q⟩=>⟨by rw [<- r.length];exact z,?_⟩);have k:d c.heap.objs.size=none:=I1.hok.fresh (Qk _)
 refine⟨.ref c.heap.objs.size,aJ d c.heap.objs.size (.lst g),I1.laid (t':=c.toks) (fun b u e=>Qe _ e) (Qk _) ?_,rfl,q _ k⟩
 exact⟨z,i,0,r,Qz _ rfl⟩
end
abbrev Sp:=List V->Hp->VK->XK->Prop
abbrev hW:=List Env->Hp->J0->XK->JZ->J0->Prop
structure mK(P:J5)(w:J6)(K:PySem.W.Frag)(mg:Str->Option JZ)(base:Heap)(A:Around)(outer:List Env)(s:J0)(H:Hp):Prop where
 frames:A.frames=some outer
 mod:Mod K mg base
 bs:∀ b o,base.get? b=some o->s.heap.get? b=some o/\H b=none
 bsz:base.objs.size<=s.heap.objs.size
 funs:s.heap.FunFrames base outer
 frf:∀ b∈iS outer,H b=none
 hok:c6 P w H s.heap
 bare:Vq s.gens
def CE(outer:List Env)(P:J5)(w:J6)(H:Hp)(s:J0)(Q:VK)(u:JZ)(a:J0):Prop:=
 ∃ v H',a.os=s.os/\Vq a.gens/\Un (iS outer) [] H H' s.heap a.heap/\c6 P w H' a.heap/\RelV v u/\Q v H'
def CR(CX:hW)(outer:List Env)(P:J5)(w:J6)(H:Hp)(s:J0)(Q:VK)(E:XK)(r:Result)(a:J0):Prop:=
 match r with
 | .ok (.ret u)=>CE outer P w H s Q u a
 | .ok _=>False
 | .error e=>CX outer H s E e a
structure aK(P:J5)(w:J6)(K:PySem.W.Frag)(mg:Str->Option JZ)(base:Heap)(CX:hW)(k:Nat)(f:YP)(fd:Zh)(ps:List Str)(sp:Sp):Prop where
 len:∀ vs H Q E,sp vs H Q E->vs.length=ps.length
 run:∀(A:Around) (outer:List Env) (s:J0) (H:Hp) (args:Args) (us:List JZ) (vs:List V) (Q:VK) (E:XK),cA k A->mK P w K mg base A outer s H->BindsTo s fd args (ps.zip us)->Vals vs us->sp vs H Q E->
  Ud (J4 P w) A (.call (.ref f) args) (CR CX outer P w H s Q E) s
theorem aK.imp{P:J5}{w:J6}{K:PySem.W.Frag}{d:Str->Option JZ}{base:Heap}{CX:hW}{k:Nat}{f:YP}{e:Zh}{c:List Str}{sp sp':Sp}(F:aK P w K d base CX k f e c sp)
  (h:∀ vs H Q E,sp' vs H Q E->sp vs H Q E):aK P w K d base CX k f e c sp':=
 ⟨fun vs H Q E q=>F.len vs H Q E (h _ _ _ _ q),fun A a s H b g vs Q E l m n i j=>F.run A a s H b g vs Q E l m n i (h _ _ _ _ j)⟩
theorem mK.make{P:J5}{w:J6}{K:PySem.W.Frag}{a:Str->Option JZ}{base:Heap}{A:Around}{outer:List Env}{s:J0}{H:Hp}(e:mK P w K a base A outer s H)(C:YP)(us:List JZ)(b:List (Str × JZ)):
  mK P w K a base (A.under (.builtin "type.__call__" ⟨.ref C::us,b⟩)) outer s H:=⟨by first | exact e.frames | (simpa [Around.under,Code.envs,Code.isFrame,pushEnvs]using e.frames),e.mod,e.bs,e.bsz,e.funs,e.frf,e.hok,e.bare⟩
section
variable {X:Cx}{pins:List (YP × Obj)}{σ:St}{H:Hp}{s s':J0}
theorem Inv.env0(I:Inv X pins σ H s):mK X.prog X.w X.K X.mg X.base X.A X.stack s H:=
 ⟨I.ok.frames,I.ok.mod,I.bs,QH I.ok.bsz I.sz,I.stack,I.stkFree,I.hok,I.bare⟩
theorem Inv.after(I:Inv X pins σ H s)(h:CE X.stack X.prog X.w H s Q u s'):EP X pins σ Q u s':=by
 obtain⟨v,i,os,a,un,e,r,q⟩:=h;obtain⟨f,g,d,t,c⟩:=s'
 obtain rfl:c=s.os:=os
 exact⟨v,i,I.call (h':=f) (g':=g) (d':=d) (t':=t) (ch:=[]) un e a (fun b z=>absurd z (by simp)),r,q⟩
end
def OO(sp:Sp)(a:List V)(E:XK)(t:TA):TE:=fun b H Q=>t b H fun c d=>sp (c++a) d Q E
def Ld(C:YP)(m:Str)(sp:Sp)(b:List V)(E:XK)(f:TE)(t:TA):TE:=fun c H Q=>f c H fun x d=>∃ a dx fs,x=.ref a/\d a=some (.ins C dx fs)/\fs.lookup m=none /\
 t c d fun e g=>sp (x::(e++b)) g Q E
def OY(C:YP)(sp:Sp)(a:List V)(E:XK)(t:TA):TE:=fun c H Q=>t c H fun d b=>∀ x dx,b x=none->b dx=none->dx≠x->
 sp (.ref x::(d++a)) (aJ (aJ b dx (.own x)) x (.ins C dx [])) (fun v e=>v=.non/\Q (.ref x) e) E
def Binds(K:PySem.W.Frag)(b:Zh)(a:List Str)(ds:List JZ):Prop:=
 ∀(s:J0) (us:List JZ),K.In s.heap->(us++ds).length=a.length->BindsTo s b ⟨us,[]⟩ (a.zip (us++ds))
theorem Binds.all{K:PySem.W.Frag}{c:Zh}{a:List Str}(h:∀ us:List JZ,us.length=a.length->Z8 c ⟨us,[]⟩=pure (a.zip us)):Binds K c a []:=fun s us _ b=>by
 rw [QP]at b ⊢;exact .of_eq (h us b)
def oF(CX:hW)(X:Cx)(E:XK):Prop:=∀(pins:List (YP × Obj)) (σ:St) (H:Hp) (s:J0) (e:JZ) (s':J0),Inv X pins σ H s->CX X.stack H s E e s'->X.xe e s'
section
variable {X:Cx}{CX:hW}{k:Nat}{f C:YP}{fd:Zh}{ps:List Str}{sp:Sp}{dvs:List V}{ds:List JZ}{E:XK}{x m:Str}{p pos apos:Pos}{e o:Expr}{es:List Expr}{ta:TE}{t:TA}
theorem BV(F:aK X.prog X.w X.K X.mg X.base CX k f fd ps sp)(g:cA k X.A)(l:Binds X.K fd ps ds)(j:Vals dvs ds)(d:oF CX X E)
  (I:Inv X pins σ H s) (r:Vals vs us) (h:sp (vs++dvs) H Q E):J3 (J4 X.prog X.w) X.A (call (.ref f) us) (EP X pins σ Q) X.xe s:=by
 have b:Vals (vs++dvs) (us++ds):=r.append j
 have i:(us++ds).length=ps.length:=by rw [<- b.length];exact F.len _ _ _ _ h
 refine wpAny_call (Jw (F.run X.A X.stack s H ⟨us,[]⟩ (us++ds) (vs++dvs) Q E g I.env0 (l s us I.kIn i) b h) fun r c a=>?_)
 cases r with
 | error e=>exact d pins σ H s e c I a
 | ok m=>
  cases m with
  | ret u=>exact I.after a
  | next=>exact ZJ a
  | brk=>exact ZJ a
  | cont=>exact ZJ a
theorem tY(F:aK X.prog X.w X.K X.mg X.base CX k f fd ps sp)(g:cA k X.A)(l:Gl X x)(i:X.mg x=some (.ref f))(j:PySem.W.keepIn X.K (.ref f)=true)(n:Binds X.K fd ps ds)(m:Vals dvs ds)(d:oF CX X E)
  (o:PA X (e::es) t) (b:(x == ("__debug__":Str))=false:=by decide) (he:J2 (e::es) X.env=(false,Zr e X.env)::J2 es X.env:=by rfl) (hpl:(Zt pos (J2 es X.env)).any (·.1)=false:=by rfl):
  PE X (.Call (.Name x p) (e::es) [] pos) (OO sp dvs E t):=by
 intro a s c H Q I h;refine Je (Cj I l i ?_ b);refine PySem.W.callWith_K (h₀:=X.base) I.ok.mod.kin j (aT (o pos a s c H _ I h) fun v y ⟨u,z,I1,r,q⟩=>⟨I1.kIn,?_⟩) he hpl;exact BV F g n m d I1 r q
theorem XY(he:PE X o ta)(c:gA X.K C)(i:mL X.K C m f)(F:aK X.prog X.w X.K X.mg X.base CX k f fd ps sp)(B:cA k X.A)(J:Binds X.K fd ps ds)(G:Vals dvs ds)(y:oF CX X E)(M:PA X (e::es) t)
  (d:J2 (e::es) X.env=(false,Zr e X.env)::J2 es X.env:=by rfl) (hpl:(Zt pos (J2 es X.env)).any (·.1)=false:=by rfl)
  (z:Zr (.Call (.Attribute o m apos) (e::es) [] pos) X.env=(do
   let ov <- Zr o X.env
   standAt apos.atName
   let(f,first) <- UB [ov] (getMethod ov m pl)
   callWith pos f first (Zt pos (J2 (e::es) X.env)) (UC pos (ZT [] X.env))):=by rfl):
  PE X (.Call (.Attribute o m apos) (e::es) [] pos) (Ld C m sp dvs E ta t):=by
 intro b s g H Q I h;refine PySem.W.methodCall_KW (pl:=pl) (aT (he b s g H _ I h) fun u n ⟨x,R,j,p,a,T,fs,N,O,l,q⟩=>?_) z;subst N
 obtain rfl:u=Zb a:=p
 refine Gc j O c i l ?_;refine PySem.W.callWith_K (first:=[.ref a]) (h₀:=X.base) I.ok.mod.kin i.kp (aT (M pos b n g R _ j q) fun us S ⟨vs,U,I2,r,v⟩=>⟨I2.kIn,?_⟩) d hpl;exact BV (us:=.ref a::us) (vs:=.ref a::vs) F B J G y I2 (.cons rfl r) v
theorem XZ(he:PE X o ta)(c:gA X.K C)(d:mL X.K C m f)(F:aK X.prog X.w X.K X.mg X.base CX k f fd ps sp)(n:cA k X.A)(r:Binds X.K fd ps ds)(p:Vals dvs ds)(i:oF CX X E)
  (j:Zr (.Call (.Attribute o m apos) [] [] pos) X.env=(do
   let ov <- Zr o X.env
   standAt apos.atName
   let(f,first) <- UB [ov] (getMethod ov m pl)
   callWith pos f first (Zt pos (J2 [] X.env)) (UC pos (ZT [] X.env))):=by rfl):
  PE X (.Call (.Attribute o m apos) [] [] pos) (Ld C m sp dvs E ta D0):=by
 intro b s e H Q I h;refine PySem.W.methodCall_KW (pl:=pl) (aT (he b s e H _ I h) fun u y ⟨x,B,I1,g,a,z,fs,t,v,l,q⟩=>?_) j;subst t
 obtain rfl:u=Zb a:=g
 refine Gc I1 v c d l ?_;exact PySem.W.callWith_K0 (first:=[.ref a]) I1.kIn d.kp (BV (us:=[.ref a]) (vs:=[.ref a]) F n r p i I1 (.cons rfl .nil) q)
structure Mk(K:PySem.W.Frag)(C f:YP):Prop where
 makes:PySem.W.makesIn K C=true
 init:PySem.W.findIn K (.ref C) "__init__"=some (some (.ref f))
 fn:PySem.W.isFn K (.ref f)=true
 kp:PySem.W.keepIn K (.ref C)=true
theorem XN(M:Mk X.K C f)(F:aK X.prog X.w X.K X.mg X.base CX k f fd ps sp)(l:cA (k+1) X.A)(o:Binds X.K fd ps ds)(n:Vals dvs ds)
  (j:oF CX X E) (I:Inv X pins σ H s) (r:Vals vs us)
  (h:∀ x dx,H x=none->H dx=none->dx≠x->sp (.ref x::(vs++dvs)) (aJ (aJ H dx (.own x)) x (.ins C dx [])) (fun v H2=>v=.non/\Q (.ref x) H2) E):
  J3 (J4 X.prog X.w) X.A (call (.ref C) us) (EP X pins σ Q) X.xe s:=by
 have c:=h (s.heap.objs.size+1) s.heap.objs.size (I.hok.fresh (Nat.le_succ _)) (I.hok.fresh (Qk _)) (QG (Jb _));have I2:=Inv.made (C:=C) I;have b:Vals (V.ref (s.heap.objs.size+1)::(vs++dvs)) (Zb (s.heap.objs.size+1)::(us++ds)):=.cons rfl (r.append n)
 have m:(Zb (s.heap.objs.size+1)::us++ds).length=ps.length:=by
  have e:=b.length;rw [F.len _ _ _ _ c]at e;exact e.symm
 refine wpAny_call (Tf (f:=f) I.kIn M.makes M.init (beq_iff_eq.mp M.fn) (Jw (F.run _ X.stack _ _ ⟨Zb (s.heap.objs.size+1)::us,[]⟩ (Zb (s.heap.objs.size+1)::(us++ds)) _ _ E (l.make C us [])
  (I2.env0.make C us []) (o _ (Zb (s.heap.objs.size+1)::us) I2.kIn m) b c) fun r d a=>?_))
 cases r with
 | error e=>exact j pins σ _ _ e d I2 a
 | ok p=>
  cases p with
  | ret u=>
   obtain⟨v,y,t,g,q,i⟩:=I2.after a;subst q
   exact⟨g,⟨V.ref (s.heap.objs.size+1),y,t,rfl,i⟩⟩
  | next=>exact ZJ a
  | brk=>exact ZJ a
  | cont=>exact ZJ a
theorem We(M:Mk X.K C f)(F:aK X.prog X.w X.K X.mg X.base CX k f fd ps sp)(g:cA (k+1) X.A)(j:Gl X x)(i:X.mg x=some (.ref C))(m:Binds X.K fd ps ds)(l:Vals dvs ds)(d:oF CX X E)
  (n:PA X (e::es) t) (b:(x == ("__debug__":Str))=false:=by decide) (he:J2 (e::es) X.env=(false,Zr e X.env)::J2 es X.env:=by rfl) (hpl:(Zt pos (J2 es X.env)).any (·.1)=false:=by rfl):
  PE X (.Call (.Name x p) (e::es) [] pos) (OY C sp dvs E t):=by
 intro a s c H Q I h;refine Je (Cj I j i ?_ b);refine PySem.W.callWith_K (h₀:=X.base) I.ok.mod.kin M.kp (aT (n pos a s c H _ I h) fun u v ⟨o,y,I1,r,q⟩=>⟨I1.kIn,?_⟩) he hpl;exact XN M F g m l d I1 r q
end
section
variable {X:Cx}{CX:hW}{k:Nat}{f C:YP}{fd:Zh}{ps ks:List Str}{sp:Sp}{E:XK}{x m:Str}{p pos apos kpos:Pos}{e o:Expr}{es:List Expr}{kws:List Us}{te ta:TE}{t tk:TA}{nm:Option Str}
variable {g:List JZ->List JZ->List JZ}{gV:List V->List V->List V}
end
structure bU(N P:List Str)(sc:Uf):Prop where
 kind:sc.kind=.function
 co:sc.isCoroutine=false
 gen:sc.isGenerator=false
 nd:N.Nodup
 pre:N.take P.length=P
 par:∀ x∈P,sc.names.lookup x=some .local ∨ sc.names.lookup x=some .cell
 nofree:∀ y∈sc.names,y.2≠.free
theorem EG{a:Str->Option UZ}{x:Str}:∀{binds:List (Str × JZ)}{m:Str->Option JZ},(∀ v,(x,v)∉binds)->bindL a binds m x=m x
 | [],_,_=>rfl
 | (n,v)::r,m,h=>by
  unfold bindL;rw [EG fun w b=>h w (Qf _ b)];split
  ·have:x≠n:=by rintro rfl;exact h v Qg
   simp [this]
  ·rfl
theorem ED{a:Str->Option UZ}{x:Str}:∀{binds:List (Str × JZ)}{m:Str->Option JZ},(∀ v,(x,v)∉binds)->bindC a binds m x=m x
 | [],_,_=>rfl
 | (n,v)::r,m,h=>by
  unfold bindC;rw [ED fun w b=>h w (Qf _ b)];split
  ·rfl
  ·have:x≠n:=by rintro rfl;exact h v Qg
   simp [this]
theorem EF{a:Str->Option UZ}{x:Str}{v:JZ}:∀{P:List Str}{vs:List JZ}{i:Nat}{m:Str->Option JZ},P.Nodup->P[i]?=some x->vs[i]?=some v->a x=some .local->
  bindL a (P.zip vs) m x=some v
 | [],_,_,_,_,h,_,_=>by simp at h
 | _::_,[],_,_,_,_,h,_=>by simp at h
 | p::P,w::vs,0,m,nd,h1,h2,hk=>by
  simp at h1 h2;subst h1;subst h2
  show bindL a ((p,w)::P.zip vs) m p=_
  unfold bindL;rw [EG fun v b=>(Yp.mp nd).1 (U7 b).1,if_pos hk];simp
 | p::P,w::vs,i+1,m,nd,h1,h2,hk=>by
  show bindL a ((p,w)::P.zip vs) m x=_
  unfold bindL;exact EF (i:=i) (Yp.mp nd).2 (by simpa using h1) (by simpa using h2) hk
theorem EC{a:Str->Option UZ}{x:Str}{v:JZ}:∀{P:List Str}{vs:List JZ}{i:Nat}{m:Str->Option JZ},P.Nodup->P[i]?=some x->vs[i]?=some v->a x≠some .local->
  bindC a (P.zip vs) m x=some v
 | [],_,_,_,_,h,_,_=>by simp at h
 | _::_,[],_,_,_,_,h,_=>by simp at h
 | p::P,w::vs,0,m,nd,h1,h2,hk=>by
  simp at h1 h2;subst h1;subst h2
  show bindC a ((p,w)::P.zip vs) m p=_
  unfold bindC;rw [ED fun v b=>(Yp.mp nd).1 (U7 b).1,if_neg hk];simp
 | p::P,w::vs,i+1,m,nd,h1,h2,hk=>by
  show bindC a ((p,w)::P.zip vs) m x=_
  unfold bindC;exact EC (i:=i) (Yp.mp nd).2 (by simpa using h1) (by simpa using h2) hk
def start(N:List Str)(vs:List V):St:=vs.map some++Z0 (N.length-vs.length) none
def jQ(CX:hW)(P:J5)(w:J6)(K:PySem.W.Frag)(mg:Str->Option JZ)(base:Heap)(N:List Str)(a:Str)(scope:Uf)(f:YP)(c:JZ)(A:Around)(outer:List Env)(s:J0)(H:Hp)(E:XK):Cx where
 prog:=P
 w:=w
 K:=K
 mg:=mg
 base:=base
 A:=A.deeper (U8 a scope s.heap.objs.size f c)
 N:=N
 s₀:=s
 H₀:=H
 env:=U8 a scope s.heap.objs.size f c
 outer:=outer
 stack:=U8 a scope s.heap.objs.size f c::outer
 ex:=[]
 calm:=true
 fn:=fun _=>true
 pn:=[]
 xe:=fun e d=>J3 (J4 P w) (A.deeper (U8 a scope s.heap.objs.size f c)) (leaving (U8 a scope s.heap.objs.size f c) e) (fun _ b=>CX outer H s E e b) (fun g b=>CX outer H s E g b) d
theorem EM{a:Uf}{n:Nat}{x:Str}(h:a.names.lookup x=some .cell):∃ c,(cellsFrom n a.names []).lookup x=some c:=by
 have q:=PySem.W.cellsFrom_some a.names n [] (.inl h);exact Option.isSome_iff_exists.mp q
theorem VJ{CX:hW}{P:J5}{w:J6}{K:PySem.W.Frag}{J:Str->Option JZ}{base:Heap}{N l:List Str}{d:Str}{scope:Uf}{f:YP}{I:JZ}{A:Around}{outer:List Env}{s s1:J0}{H:Hp}{E:XK}{us:List JZ}{vs:List V}
  (S:bU N l scope) (T:A.handled=none) (j:mK P w K J base A outer s H) (Y:vs.length=l.length) (r:Vals vs us)
  (x:InCallC s s.heap.objs.size (bindL (U8 d scope s.heap.objs.size f I).kindOf (l.zip us) fun _=>none) (cellsFrom (s.heap.objs.size+1) scope.names []) (bindC (U8 d scope s.heap.objs.size f I).kindOf (l.zip us) fun _=>none) s1):
  Inv (jQ CX P w K J base N d scope f I A outer s H E) [] (start N vs) H s1:=by
 have R:l.length<=N.length:=by have:=congrArg Vr S.pre;rw [QQ]at this;lia
 obtain⟨G,X,rfl,O⟩:=x.done;have m:∀ b:YP,b∉(jQ CX P w K J base N d scope f I A outer s H E).ex:=fun b z=>absurd (show b∈([]:List YP)from z) (by simp)
 refine⟨⟨j.mod,S.kind,rfl,rfl,Qk _,fun y z c G g=>?_,fun y o=>?_,fun y c _ h=>?_,fun _=>T,Around.frames_deeper j.frames,.inr ⟨rfl,rfl⟩,fun b z=>absurd z (m b),j.bs,j.bsz,fun b _ _=>m b,fun b z=>absurd z (m b),j.funs,j.frf⟩,
  rfl,j.bare,Un.kept O,⟨_,x.toInCall.ns,fun i y v G g Z=>?_⟩,fun y c h=>⟨_,x.cell y c h⟩,j.hok.fresh (Qk _),fun y c h=>?_,fun p B=>absurd (show p∈([]:List (YP × Obj))from B) (by simp),j.hok.kept O,?_⟩
 ·exact name_of_addr x.apart (PySem.mem_of_lookup G) (PySem.mem_of_lookup g)
 ·have o:scope.names.lookup y=some .cell ∨ scope.names.lookup y=some .free:=o;rcases o with o | o
  ·exact EM o
  ·exact absurd rfl (S.nofree _ (PySem.mem_of_lookup o))
 ·exact YJ (x.above y c (PySem.mem_of_lookup h))
 ·have F:i<vs.length:=by
   unfold start at g;by_cases F:i<vs.length
   ·exact F
   ·rw [QK (by simpa using F)]at g;rw [YO]at g
    split at g <;> cases g
  have U:vs[i]?=some v:=by
   unfold start at g;rw [QR (by simpa using F),QN]at g
   cases e:vs[i]? with
   | none=>rw [e]at g;cases g
   | some a=>rw [e]at g;cases g;rfl
  obtain⟨u,M,Q⟩:=r.get U
  have B:l[i]?=some y:=by
   rw [<- S.pre,List.getElem?_take_of_lt (by lia)];exact G
  have t:l.Nodup:=by rw [<- S.pre];exact S.nd.sublist (UD _ _)
  refine⟨u,Q,?_⟩
  rcases S.par y (QO B)with k | k
  ·exact .inl ⟨k,EF t B M k⟩
  ·obtain⟨c,e⟩:=EM (n:=s.heap.objs.size+1) k;refine .inr ⟨.inl k,c,e,?_⟩;have q:=x.cell y c e;rw [EC t B M (by show scope.names.lookup y≠_;rw [k];decide)]at q;exact q
 ·exact j.hok.fresh (YJ (x.above y c (PySem.mem_of_lookup h)))
 ·unfold start
  show _=N.length
  rw [Qj,Qo,List.length_replicate];lia
theorem MK{CX:hW}{P:J5}{w:J6}{K:PySem.W.Frag}{F:Str->Option JZ}{base:Heap}{k:Nat}{f:YP}{name a:Str}{d:Arguments}{g:List Zv}{scope:Uf}{X kV z U c ct oc:JZ}{Z od:Option YP}
  {M:Array (Option JZ)}{N B:List Str}{sp:Sp} (lk:K.lookup f=some ⟨oc,od,.func (PySem.W.fnOf name a d g scope X kV z U Z c ct),M⟩) (T:PySem.W.codeIn K c a=true) (S:bU N B scope)
  (len:∀ vs H Q E,sp vs H Q E->vs.length=B.length)
  (j:∀(A:Around) (outer:List Env) (s:J0) (H:Hp) (vs:List V) (Q:VK) (E:XK),cA k (A.deeper (U8 a scope s.heap.objs.size f c))->sp vs H Q E->
   ∃ t,fM (jQ CX P w K F base N a scope f c A outer s H E) g t/\t { nx:=fun _ H'=>Q .non H',rt:=Q } (start N vs) H):
  aK P w K F base CX (k+1) f (PySem.W.fnOf name a d g scope X kV z U Z c ct) B sp:=by
 refine⟨len,fun A outer s H Y us vs Q E R p hb r m=>?_⟩
 have hl:=len _ _ _ _ m;have KX:K.In s.heap:=p.mod.kin.keeps fun b o e=>(p.bs b o e).1;have O:s.heap.NoLimit:=p.mod.nolimit.keeps fun b o e=>(p.bs b o e).1
 have i:∀ y∈B.zip us,scope.names.lookup y.1=some .local ∨ (scope.names.lookup y.1=some .cell/\((cellsFrom (s.heap.objs.size+1) scope.names []).lookup y.1).isSome=true):=fun zz hy=>by
  obtain⟨n,v⟩:=zz;rcases S.par n (U7 hy).1 with q | q
  ·exact .inl q
  ·exact .inr ⟨q,PySem.W.cellsFrom_some _ _ _ (.inl q)⟩
 refine codeAny_call_function R.depth (KX _ _ lk) rfl S.co S.gen rfl (PySem.W.codeRec_of KX T) (hb _ _ _ _ ?_);refine wpAny_newFunctionEnv_cells S.kind i fun a0 he s1 x=>?_;subst he
 refine⟨O.keeps x.toInCall.keep,codeAny_func ?_⟩
 obtain⟨t,ht,hq⟩:=j A outer s H vs Q E (R.deeper _) m;have I:Inv (jQ CX P w K F base N a scope f c A outer s H E) [] (start N vs) H s1:=VJ S R.hd p hl r x;refine Y5 (ht [] s1 (start N vs) H _ I hq) (fun fl s' l=>?_) fun e s' l=>l
 have fin:∀{h:St}{H':Hp}{v:V}{u:JZ},Inv (jQ CX P w K F base N a scope f c A outer s H E) [] h H' s'->RelV v u->Q v H'->CE outer P w H s Q u s':=
  fun{h H' v u} J G q=>⟨v,H',J.os,J.bare,J.base,J.hok,G,q⟩
 cases fl with
 | ret u=>
  obtain⟨v,h,H',J,G,q⟩:=l;exact fin J G q
 | next=>
  obtain⟨h,H',J,q⟩:=l;exact fin (v:=V.non) (u:=ZH) J rfl q
 | brk=>
  obtain⟨_,_,_,q⟩:=l;exact ZJ q
 | cont=>
  obtain⟨_,_,_,q⟩:=l;exact ZJ q
section
variable {X:Cx}{x:Str}{p pos:Pos}{e:Expr}{es:List Expr}{t:TA}{id T:String}{r:List V->Hp->VK->Prop}
def As(r:List V->Hp->VK->Prop)(t:TA):TE:=fun a H Q=>t a H fun b c=>r b c Q
theorem CA(o:dW X (.builtin id) r)(n:Gl X x)(m:X.mg x=none)(k:Zw x=some (.builtin id))(q:PA X (e::es) t)(l:x≠"__name__":=by decide)(b:(x == ("__debug__":Str))=false:=by decide)
  (he:J2 (e::es) X.env=(false,Zr e X.env)::J2 es X.env:=by rfl) (hpl:(Zt pos (J2 es X.env)).any (·.1)=false:=by rfl):PE X (.Call (.Name x p) (e::es) [] pos) (As r t):=by
 intro a s c H Q I h;refine Je (nL I n m k ?_ l b);exact PyProof.Rows.callWith_builtin1 (aT (q pos a s c H _ I h) fun f g ⟨d,v,u,i,j⟩=>o a g c v d f Q u i j) he hpl
theorem wZ(o:dW X (.type T) r)(n:Gl X x)(m:X.mg x=none)(k:Zw x=some (.type T))(q:PA X (e::es) t)(l:x≠"__name__":=by decide)(b:(x == ("__debug__":Str))=false:=by decide)
  (he:J2 (e::es) X.env=(false,Zr e X.env)::J2 es X.env:=by rfl) (hpl:(Zt pos (J2 es X.env)).any (·.1)=false:=by rfl):PE X (.Call (.Name x p) (e::es) [] pos) (As r t):=by
 intro a s c H Q I h;refine Je (nL I n m k ?_ l b);exact Y8 (aT (q pos a s c H _ I h) fun f g ⟨d,v,u,i,j⟩=>o a g c v d f Q u i j) he hpl
end
end L2
namespace HT
def lexLt:List Int->List Int->Bool
 | [],[]=>false
 | [],_::_=>true
 | _::_,[]=>false
 | x::xs,y::ys=>if x=y then lexLt xs ys else decide (x<y)
theorem lexLt_cons(x y:Int)(xs a:List Int):lexLt (x::xs) (y::a)=if x=y then lexLt xs a else decide (x<y):=rfl
theorem lexLt_nil_nil:lexLt [] []=false:=rfl
theorem TV(y:Int)(a:List Int):lexLt [] (y::a)=true:=rfl
theorem TU(x:Int)(xs:List Int):lexLt (x::xs) []=false:=rfl
theorem R9(A:Around)(s:J0)(a:Int)(t:Tok)(c:Int)(u:Tok):∃ e,SeqAt.EqAt A s (.int a t) (.int c u) e/\(e=true ↔ a=c):=
 ⟨(a == c),SeqAt.EqAt.int_int a t c u,by simp⟩
theorem rcLt_int(A:Around)(s:J0)(a:Int)(t:Tok)(c:Int)(u:Tok)(prog:J5)(w:J6)(E:JZ->J0->Prop)(Q:JZ->J0->Prop)(h:Q (.bool (decide (a<c))) s):
  J3 (J4 prog w) A (U0 .Lt (.int a t) (.int c u)) Q E s:=
 (PyProof.Rows.lt_int h:J3 (J4 prog w) A (Ze .Lt (.int a t) (.int c u)) Q E s)
section
open PySem.SeqAt
open PySem.AutoSeq1 (wpAny_loadPart')
open PySem.MeetsSeq PySem.MeetsSeq2 PySem.MeetsSeq3
theorem zSB(l b:YP)(i f:Array JZ)(n Z:Nat)(dd T:Option YP)(Y O:Array (Option JZ))(ns M:List Int)(X:UE i.toList ns)(W:UE f.toList M):
  Meets (Builtin.«tuple.__lt__» ⟨[.ref l,.ref b],[]⟩)
   (fun _ R s=>s.heap.get? l=some { cls:=.type "tuple",dict:=dd,data:=.seq i n,slots:=Y }/\s.heap.get? b=some { cls:=.type "tuple",dict:=T,data:=.seq f Z,slots:=O } /\
    R (.ok (.ret (.bool (lexLt ns M)))) s):=
 .of_wp fun v w A R s h=>by
  obtain⟨N,g,d,J,K⟩:=s;obtain⟨hl,hb,h⟩:=h;have f2:=AutoSeq1.sub_tuple_tuple
  have z1:i.size=ns.length:=by rw [<- X.length];simp
  have z2:f.size=M.length:=by rw [<- W.length];simp
  wp_walk using U9 hl,U9 hb,YY _ (fun r b Q=>b.1=none/\Q=⟨N,g,d,J,K⟩/\∃(I ws:List JZ) (k m:List Int),r=I.zip ws /\
   UE I k/\UE ws m/\k.length+f.size=m.length+i.size/\R (.ok (.ret (.bool (lexLt k m)))) ⟨N,g,d,J,K⟩) _
  case turn=>
   rintro⟨y,x⟩ r b Q ⟨F,rfl,I,ws,k,m,o,E,p,j,B⟩
   cases E with
   | nil=>rw [List.zip_nil_left]at o;cases o
   | cons a t H=>
    cases p with
    | nil=>rw [List.zip_nil_right]at o;cases o
    | cons c u G=>
     rw [Jx]at o
     injection o with hyx hrest
     injection hyx with hy hx
     subst hy hx;rw [lexLt_cons]at B;simp only [Qt]at j;obtain⟨e,he,z⟩:=R9 A.in1 ⟨N,g,d,J,K⟩ a t c u;refine Qa (he v w _ _ ?_)
     cases e with
     | true=>
      rw [if_pos (z.mp rfl)]at B
      wp_walk
      exact⟨rfl,rfl,_,_,_,_,hrest,H,G,by lia,B⟩
     | false=>
      rw [if_neg (fun q=>absurd (z.mpr q) QB)]at B;have S:=rcLt_int A.in1 ⟨N,g,d,J,K⟩ a t c u v w
      wp_walk using S
      exact⟨_,rfl,by simpa using B⟩
  case fin=>
   rintro⟨b1,b2⟩ Q ⟨F,rfl,I,ws,k,m,o,E,p,j,B⟩
   simp only at F
   subst F
   have U:lexLt k m=decide (i.size<f.size):=by
    cases E with
    | nil=>
     cases p with
     | nil=>
      simp only [JV]at j;rw [lexLt_nil_nil]
      exact(decide_eq_false (by lia)).symm
     | cons c u hw=>
      simp only [JV,Qt]at j;rw [TV]
      exact(decide_eq_true (by lia)).symm
    | cons a t U=>
     cases p with
     | nil=>
      simp only [JV,Qt]at j;rw [TU]
      exact(decide_eq_false (by lia)).symm
     | cons c u hw=>
      rw [Jx]at o;cases o
   rw [U]at B
   wp_walk
   exact⟨_,rfl,by simpa [Builtin.Tuple.tupleCompareSizes]using B⟩
  case h=>
   exact⟨rfl,rfl,i.toList,f.toList,ns,M,rfl,X,W,by lia,h⟩
end
section
variable {prog:J5}{w:J6}{A:Around}{E:JZ->J0->Prop}{s:J0}
theorem lt_tupInts(t:IsTup s.heap l items)(y:IsTup s.heap b items2)(v:UE items.toList ns)(u:UE items2.toList ms)
  (r:A.units<Zf) (h:Q (.bool (lexLt ns ms)) s):J3 (J4 prog w) A (Ze .Lt (.ref l) (.ref b)) Q E s:=by
 obtain⟨⟨z,dd,m,p⟩,i,k,n,j⟩:=id t;obtain⟨⟨o,f,g,e⟩,a,d,q,c⟩:=id y
 simp only at k j d c
 subst k j d c
 exact richCompare_meets_room (op:=.Lt) ⟨_,i,rfl⟩ ⟨_,a,rfl⟩ PySem.F.slot_tuple_lt PySem.F.entry_tuple_lt (PySem.F.args_tuple_lt_2 _ _) (zSB l b items items2 n q dd f p e ns ms v u)
  ⟨i,a,show ZV (lexLt ns ms)≠Value.notImplemented/\Q (.bool (lexLt ns ms)) s from⟨(fun x=>nomatch x),h⟩⟩ r
theorem cat_tup(r:IsTup s.heap t vs.toArray)(u:IsTup s.heap b ws.toArray)(m:vs≠[])
  (x:ws=[]->Q (.ref t) s) (v:ws≠[]->Q (.ref s.heap.objs.size) { s with heap:=s.heap.push { cls:=.type "tuple",data:=.seq (vs++ws).toArray } })
  (hsz:vs.length+ws.length<=sizeLine):J3 (J4 prog w) A (ZD .Add (.ref t) (.ref b)) Q E s:=by
 obtain⟨⟨cls,dd,data,k⟩,i,p,n,o⟩:=id r;obtain⟨⟨q,g,j,c⟩,a,f,l,d⟩:=id u
 simp only at p o f d
 subst p o f d
 have e:vs.toArray++ws.toArray=(vs++ws).toArray:=by simp
 by_cases h:ws=[]
 ·exact concat_meets ⟨_,i,rfl⟩ ⟨_,a,rfl⟩ noFill_tuple_add seq_tuple_add PySem.F.slot_tuple_add PySem.F.entry_tuple_add (PySem.F.args_tuple_add_2 _ _)
   (tuple_addW1 t b vs.toArray ws.toArray n l dd g k c (by simpa using m) (by simp [h])) ⟨i,a,x h⟩
 ·refine concat_meets ⟨_,i,rfl⟩ ⟨_,a,rfl⟩ noFill_tuple_add seq_tuple_add PySem.F.slot_tuple_add PySem.F.entry_tuple_add (PySem.F.args_tuple_add_2 _ _)
   (tuple_addW2 t b vs.toArray ws.toArray n l dd g k c (by simpa using m) (by simpa using h) (by rw [QJ,QJ];exact hsz)) ⟨i,a,?_⟩
  rw [e];exact v h
def sIx(n d:Nat):Option Int->Nat
 | none=>d
 | some v=>if v<0 then(v+(n:Int)).toNat else min v.toNat n
theorem sIx_none(n d:Nat):sIx n d none=d:=rfl
theorem sIx_nat(n d k:Nat):sIx n d (some (k:Int))=min k n:=by
 show(if(k:Int)<0 then((k:Int)+(n:Int)).toNat else min (k:Int).toNat n)=min k n
 rw [if_neg (by lia),JE]
theorem XU(n d:Nat)(b:d<=n)(o:Option Int):sIx n d o<=n:=by
 cases o with
 | none=>exact b
 | some v=>
  show(if v<0 then(v+(n:Int)).toNat else min v.toNat n)<=n
  by_cases a:v<0
  ·rw [if_pos a];lia
  ·rw [if_neg a];exact Nat.min_le_right _ _
theorem sb1(h:i<0):max 0 (min (i+(n:Int)) (n:Int))=(((i+(n:Int)).toNat:Nat):Int):=by
 rw [Int.min_eq_left (by lia),Int.max_comm,<- Int.ofNat_toNat]
theorem DV{i:Int}{n:Nat}(h:¬ i<0):min i (n:Int)=((min i.toNat n:Nat):Int):=by
 obtain⟨k,rfl⟩:=Int.eq_ofNat_of_zero_le (Int.not_lt.mp h);rw [JE];by_cases c:k<=n
 ·rw [Nat.min_eq_left c,Int.min_eq_left (Int.ofNat_le.mpr c)]
 ·rw [Nat.min_eq_right (Nat.le_of_not_le c),Int.min_eq_right (Int.ofNat_le.mpr (Nat.le_of_not_le c))]
theorem sb2{i:Int}{n:Nat}(h:¬ i<0):max 0 (min i (n:Int))=((min i.toNat n:Nat):Int):=by
 rw [DV h,Int.max_eq_right (Jf _)]
theorem On:max (i+(n:Int)) 0=(((i+(n:Int)).toNat:Nat):Int):=(Int.ofNat_toNat _).symm
theorem EO(v:Int)(n d:Nat):(if v<0 then max (v+(n:Int)) 0 else min v (n:Int))=((sIx n d (some v):Nat):Int):=by
 show(if v<0 then max (v+(n:Int)) 0 else min v (n:Int))=(((if v<0 then(v+(n:Int)).toNat else min v.toNat n):Nat):Int)
 by_cases a:v<0
 ·simp only [if_pos a];exact On
 ·simp only [if_neg a];exact DV a
theorem Rc(a b:Option Int)(n:Nat):Ug a b 1 (n:Int)=(((sIx n 0 a:Nat):Int),((sIx n n b:Nat):Int)):=by
 have c:¬ ((1:Int)<0):=by lia
 unfold Ug;simp only [c,if_false];refine Jm ?_ ?_
 ·cases a with
  | none=>rfl
  | some v=>exact EO v n 0
 ·cases b with
  | none=>rfl
  | some v=>exact EO v n n
theorem zRn(i j:Nat):ZQ (i:Int) (j:Int) 1=j-i:=by
 unfold ZQ
 have a:(1:Int) > 0:=by lia
 simp only [a,if_true,Int.ediv_one]
 split <;> lia
theorem HV(p:Vz v o)(h:Q o s):J3 (J4 prog w) A (Builtin.Slice.slicePartIndex v) Q E s:=by
 cases p with
 | none=>exact slicePart_none h
 | int i t=>exact slicePart_int h
theorem HU{g:YP}{f e:JZ}{a c:Option Int}{n:Nat}{Q:Int × Int × Nat->J0->Prop}(hs:s.heap.IsSliceOf g f e .none)(pl:Vz f a)(i:Vz e c)
  (h:Q (((sIx n 0 a:Nat):Int),1,sIx n n c-sIx n 0 a) s):J3 (J4 prog w) A (Builtin.Slice.sliceApplied (.ref g) (pure (n:Int))) Q E s:=by
 obtain⟨k,b,j,d⟩:=id hs;unfold Builtin.Slice.sliceApplied Builtin.Slice.sliceFields;refine Qa (Qa (wpAny_field b d (x:=f) rfl (Qa (wpAny_field b d (x:=e) rfl (Qa (wpAny_field b d (x:=.none) rfl (Qb ?_)))))));refine Qa (slicePart_none ?_)
 show J3 _ _ (if((1:Int) == 0)=true then _ else _) _ _ s
 rw [if_neg (by decide)];refine Qa (HV pl (Qa (HV i (Qa (Qb ?_)))))
 show J3 _ _ (match Ug a c 1 (n:Int)with | (a,c)=>pure (a,(1:Int),ZQ a c 1)) _ _ s
 rw [Rc a c n]
 show J3 _ _ (pure (((sIx n 0 a:Nat):Int),(1:Int),ZQ ((sIx n 0 a:Nat):Int) ((sIx n n c:Nat):Int) 1)) _ _ s
 rw [zRn];exact Qb h
theorem zRl(xs:Array JZ)(i k:Nat):((Za k).filterMap fun(m:Nat)=>xs[((i:Int)+(m:Int) * 1).toNat]?).toArray=((xs.toList.drop i).take k).toArray:=by
 have e:(fun(m:Nat)=>xs[((i:Int)+(m:Int) * 1).toNat]?)=fun m=>xs[i+m]?:=by
  funext m
  have:((i:Int)+(m:Int) * 1).toNat=i+m:=by lia
  rw [this]
 rw [e]
 have:=pick_run xs i k
 rw [List.filterMap_map]at this;have a:((fun x=>xs[x]?) ∘ fun x=>i+x)=fun m=>xs[i+m]?:=rfl;rw [a]at this;rw [this]
theorem getItem_tuple_cut{t f:YP}{a:Array JZ}{n l:JZ}{c d:Option Int}{Q:JZ->J0->Prop}(e:IsTup s.heap t a)(hs:s.heap.IsSliceOf f n l .none)(pl:Vz n c)(o:Vz l d)
  (r:¬ (sIx a.size 0 c=0/\sIx a.size a.size d=a.size))
  (h:Q (.ref s.heap.objs.size) { s with heap:=s.heap.push { cls:=.type "tuple",data:=.seq ((a.toList.drop (sIx a.size 0 c)).take (sIx a.size a.size d-sIx a.size 0 c)).toArray } })
  (hsz:a.size<=sizeLine):J3 (J4 prog w) A (getItem (.ref t) (.ref f)) Q E s:=by
 have b:sizeOk (.seq ((a.toList.drop (sIx a.size 0 c)).take (sIx a.size a.size d-sIx a.size 0 c)).toArray):=by
  show((a.toList.drop (sIx a.size 0 c)).take (sIx a.size a.size d-sIx a.size 0 c)).toArray.size<=sizeLine
  rw [QJ,QQ,Yk,Qh];lia
 have y:sIx a.size a.size d<=a.size:=XU _ _ (Qk _) d;obtain⟨p,g,j,u⟩:=id hs;have k:s.TypeIs (.ref f) "slice":=⟨p,g,j⟩;unfold getItem
 try with_reducible refine Yb ?_
 first | refine Qa (Qb ?_) | skip
 refine Qa (wpAny_sequenceKey e.typeIs (by decide) ?_)
 refine Qa (YQ (name:=ZM "__getitem__") e.typeIs YX
  (Yq YX e.typeIs entry_tuple_getitem ?_ (args_tuple_getitem _ _)))
 show J3 _ _ (Builtin.Tuple.tupleItemsOf (.ref t) >>= _) _ _ s
 refine Qa (tupleItemsOf_ e ?_);refine Qa (Y1 k ?_);rw [if_pos (by decide)];refine Qa (HU hs pl o ?_)
 have i:¬ ((((sIx a.size 0 c:Nat):Int) == 0 && (1:Int) == 1 && (sIx a.size a.size d-sIx a.size 0 c) == a.size)=true):=by
  intro q;rw [QW,QW]at q;have x:((sIx a.size 0 c:Nat):Int)=0:=Yz q.1.1;have v:sIx a.size a.size d-sIx a.size 0 c=a.size:=Yz q.2;exact r ⟨by lia,by lia⟩
 show J3 _ _ (if(((sIx a.size 0 c:Nat):Int) == 0 && (1:Int) == 1 && (sIx a.size a.size d-sIx a.size 0 c) == a.size)=true then _ else _) _ _ s
 rw [if_neg i,zRl]
 first
  | exact Qa (m:=ZW _) (Yv (Qb ⟨_,rfl,Qb h⟩) b)
  | exact Qa (m:=ZW _) (Yv (Qa (Qb (Qb ⟨_,rfl,Qb h⟩))) b)
  | exact Qa (Qa (m:=ZW _) (Yv (Qb (Qb ⟨_,rfl,Qb h⟩)) b))
  | exact Qa (Qa (m:=ZW _) (Yv (Qb ⟨_,rfl,Qb h⟩) b))
end
end HT
namespace L2
open PySem.Spec
abbrev TO:=St->Hp->(Option Int->Hp->Prop)->Prop
def PO(X:Cx)(e:Option Expr)(t:TO):Prop:=
 ∀(pins:List (YP × Obj)) (s:J0) (σ:St) (H:Hp) (Q:Option Int->Hp->Prop),Inv X pins σ H s->t σ H Q->
  J3 (J4 X.prog X.w) X.A (evalPart e X.env) (fun u a=>∃ o H',Inv X pins σ H' a/\Vz u o/\Q o H') X.xe s
def zSs:TO:=fun _ H Q=>Q none H
def O3(t:TE):TO:=fun a H Q=>t a H fun x b=>∃ i,x=.int i/\Q (some i) b
section
variable {X:Cx}{e:Expr}{te:TE}{lo hi:Option Expr}{tl th:TO}{pos p2:Pos}
theorem zRq:PO X none zSs:=by
 intro a s b H Q I h;rw [evalPart_none];exact Qb ⟨none,H,I,.none,h⟩
theorem zRr(h:PE X e te):PO X (some e) (O3 te):=by
 intro a s b H Q I g;rw [evalPart_some];refine aT (h a s b H _ I g) fun u l c=>?_;obtain⟨x,k,j,d,f⟩:=c;obtain⟨i,rfl,q⟩:=f;obtain⟨t,rfl⟩:=d
 exact⟨some i,k,j,.int i t,q⟩
def lA(X:Cx)(r:V->Option Int->Option Int->Hp->VK->Prop):Prop:=
 ∀(pins:List (YP × Obj)) (s:J0) (σ:St) (H:Hp) (x:V) (v vl vu:JZ) (lo hi:Option Int) (sl:YP) (Q:VK),Inv X pins σ H s->RelV x v->s.heap.IsSliceOf sl vl vu .none->Vz vl lo->Vz vu hi->r x lo hi H Q->
  ∃ T id,typeLookup (.type T) "__getitem__"=pure (some (.builtin id))/\s.TypeIs v T/\J3 (J4 X.prog X.w) X.A (getItem v (.ref sl)) (EP X pins σ Q) X.xe s
theorem lA.or{r g:V->Option Int->Option Int->Hp->VK->Prop}(h:lA X r)(h':lA X g):lA X (fun x lo hi H Q=>r x lo hi H Q ∨ g x lo hi H Q):=by
 intro a s b H x v d c lo hi e Q I f k j i q;rcases q with q | q
 ·exact h a s b H x v d c lo hi e Q I f k j i q
 ·exact h' a s b H x v d c lo hi e Q I f k j i q
def O8(r:V->Option Int->Option Int->Hp->VK->Prop)(te:TE)(b c:TO):TE:=fun a H Q=>te a H fun x f=>b a f fun l e=>c a e fun u d=>r x l u d Q
theorem X5(F:lA X r)(he:PE X e te)(G:PO X lo tl)(B:PO X hi th):PE X (.Subscript e (.Slice lo hi none p2) pos) (O8 r te tl th):=by
 intro a s d H Q I h;refine Subscript_ (aT (he a s d H _ I h) fun v m i=>?_);obtain⟨x,S,O,n,t⟩:=i;refine wpAny_Slice (aT (G a m d S _ O t) fun g k ⟨l,R,N,z,p⟩=>aT (B a k d R _ N p) fun f c i=>?_);obtain⟨u,j,I3,y,o⟩:=i;rw [evalPart_none];refine Qb ?_;have M:Inv X a d j { c with heap:=c.heap.push { cls:=.type "slice",data:=.fields #[g,f,.none] } }:=I3.kept (t':=c.toks) fun b U q=>Qe _ q;obtain⟨T,id,K,E,J⟩:=F a { c with heap:=c.heap.push { cls:=.type "slice",data:=.fields #[g,f,.none] } } d j x v g f l u c.heap.objs.size Q M n (Heap.IsSliceOf.new ..) z y o
 show J3 (J4 X.prog X.w) X.A (UV e (.Slice lo hi none p2) v (.ref c.heap.objs.size)) (EP X a d Q) X.xe { c with heap:=c.heap.push { cls:=.type "slice",data:=.fields #[g,f,.none] } }
 exact tail_any (ops:=[.ref c.heap.objs.size,v]) E K J (by with_unfolding_all rfl)
def lC(xs:List V)(a b:Option Int):List V:=(xs.drop (HT.sIx xs.length 0 a)).take (HT.sIx xs.length xs.length b-HT.sIx xs.length 0 a)
theorem Ei(xs:List V)(a b:Option Int):(lC xs a b).length<=xs.length:=by
 unfold lC;rw [QQ,Yk];lia
def Of(K:PySem.W.Frag):V->Option Int->Option Int->Hp->VK->Prop:=fun x b c H Q=>∃ a xs,x=.ref a/\bJ K H a xs /\
 ¬ (HT.sIx xs.length 0 b=0/\HT.sIx xs.length xs.length c=xs.length)/\∀ p,H p=none->Q (.ref p) (aJ H p (.tup (lC xs b c)))
theorem Xl:lA X (Of X.K):=by
 intro i s w H x v z y e g A Q I l u n m h;obtain⟨a,d,rfl,p,t,q⟩:=h;cases l;obtain⟨f,r,k,j⟩:=I.tuple p
 have c:f.toArray.size=d.length:=by rw [QJ];exact r.length.symm
 refine⟨"tuple",_,YX.lookup,k.typeIs,?_⟩
 refine HT.getItem_tuple_cut k u n m (by rw [c];exact t) ?_ (by rw [c];exact j);rw [c]
 refine⟨.ref s.heap.objs.size,_,I.laid (t':=s.toks) (o:=.tup (lC d e g)) (fun b B q=>Qe _ q) (Qk _) ?_,rfl,q _ (I.hok.fresh (Qk _))⟩
 exact⟨QH (Ei d e g) j,_,(r.drop (HT.sIx d.length 0 e)).take (HT.sIx d.length d.length g-HT.sIx d.length 0 e),IsTup.new _ _⟩
def N8(K:PySem.W.Frag):R2:=fun x y H Q=>∃ a b xs ys,x=.ref a/\y=.ref b/\bJ K H a xs/\bJ K H b ys/\xs≠[]/\xs.length+ys.length<=sizeLine /\
 (ys=[]->Q (.ref a) H)/\(ys≠[]->∀ p,H p=none->Q (.ref p) (aJ H p (.tup (xs++ys))))
theorem Vals.nil_iff(r:Vals xs us):us=[] ↔ xs=[]:=by
 cases r with
 | nil=>simp
 | cons _ _=>simp
theorem Wt:bF X (ZD .Add) (N8 X.K):=by
 intro e s F H x y v u Q I l k h;obtain⟨a,b,j,i,rfl,rfl,E,B,A,g,n,m⟩:=h;cases l;cases k;obtain⟨t,d,r,_⟩:=I.tuple E;obtain⟨f,c,p,_⟩:=I.tuple B;refine HT.cat_tup r p (fun z=>A (d.nil_iff.mp z)) (fun z=>⟨.ref a,H,I,rfl,n (c.nil_iff.mp z)⟩) (fun z=>?_) (by rw [<- d.length,<- c.length];exact g)
 refine⟨.ref s.heap.objs.size,_,I.laid (t':=s.toks) (o:=.tup (j++i)) (fun b G q=>Qe _ q) (Qk _) ?_,rfl,m (fun w=>z (c.nil_iff.mpr w)) _ (I.hok.fresh (Qk _))⟩
 exact⟨by rw [Qj];exact g,_,d.append c,IsTup.new _ _⟩
end
def ixN(n:Nat)(i:Int):Option Nat:=if 0<=i then(if i<n then some i.toNat else none)else if -(n:Int)<=i then some (i+n).toNat else none
def atI{α:Type}(xs:List α)(i:Int):Option α:=(ixN xs.length i).bind fun j=>xs[j]?
theorem VY(h:ixN n i=some j):seqIndex? i n=some j/\j<n/\-(n:Int)<=i/\i<n:=by
 unfold ixN at h;by_cases b:0<=i
 ·rw [if_pos b]at h;by_cases a:i<n
  ·rw [if_pos a]at h;have e:i.toNat=j:=QF h
   exact⟨by rw [seqIndex_of b a,e],by lia,by lia,a⟩
  ·rw [if_neg a]at h;cases h
 ·rw [if_neg b]at h;by_cases a:-(n:Int)<=i
  ·rw [if_pos a]at h;have e:(i+n).toNat=j:=QF h
   exact⟨by rw [seqIndex_neg (by lia) a,e],by lia,a,by lia⟩
  ·rw [if_neg a]at h;cases h
theorem Ex{a:Type}{xs:List a}{i:Int}{v:a}(h:atI xs i=some v):∃ j,seqIndex? i xs.length=some j/\xs[j]?=some v/\j<xs.length/\-(xs.length:Int)<=i/\i<xs.length:=by
 unfold atI at h
 cases e:ixN xs.length i with
 | none=>rw [e]at h;cases h
 | some j=>
  rw [e]at h;obtain⟨f,d,c,b⟩:=VY e
  exact⟨j,f,h,d,c,b⟩
def sA(b:Expr):Prop:=∀ o i,Vs b false o i=operate [o,i] (getItem o i)
def gC(X:Cx)(r:R2):Prop:=
 ∀(value slice:Expr) (pins:List (YP × Obj)) (s:J0) (σ:St) (H:Hp) (x y:V) (v u:JZ) (Q:VK),Inv X pins σ H s->RelV x v->RelV y u->r x y H Q->
  Vs slice false v u=operate [v,u] (getItem v u)->J3 (J4 X.prog X.w) X.A (UV value slice v u) (EP X pins σ Q) X.xe s
def y3(X:Cx)(id:String)(r:V->List V->Hp->VK->Prop):Prop:=
 ∀(pins:List (YP × Obj)) (s:J0) (σ:St) (H:Hp) (x:V) (xs:List V) (v:JZ) (us:List JZ) (Q:VK),Inv X pins σ H s->RelV x v->Vals xs us->r x xs H Q->
  J3 (J4 X.prog X.w) X.A (call (.builtin id) (v::us)) (EP X pins σ Q) X.xe s
section
variable {X:Cx}{a b:Expr}{ta tb:TE}{pos:Pos}
theorem gC.or{r g:R2}(h:gC X r)(h':gC X g):gC X (fun x y H Q=>r x y H Q ∨ g x y H Q):=by
 intro a b c s d H x y v u Q I f e q i;rcases q with q | q
 ·exact h a b c s d H x y v u Q I f e q i
 ·exact h' a b c s d H x y v u Q I f e q i
theorem w5(i:gC X r)(k:PE X a ta)(j:PE X b tb)(hs:sA b):PE X (.Subscript a b pos) (lL r ta tb):=by
 intro c s d H Q I h;exact Subscript_ (zL k j I h fun v u e x y m l g f q=>i a b c e d m x y v u Q l g f q (hs _ _))
def Ob(K:PySem.W.Frag):R2:=fun x y H Q=>∃ p xs i v,x=.ref p/\y=.int i/\bY K H p xs/\atI xs i=some v/\Q v H
def Oc(K:PySem.W.Frag):R2:=fun x y H Q=>∃ p xs i v,x=.ref p/\y=.int i/\bJ K H p xs/\atI xs i=some v/\Q v H
theorem VZ:gC X (Ob X.K):=by
 intro c d a s l H x y v u Q I E B h m;obtain⟨p,R,i,z,rfl,rfl,F,J,q⟩:=h;cases E;obtain⟨t,rfl⟩:=B;obtain⟨g,r,f,S⟩:=I.list F;obtain⟨j,b,O,U,N,M⟩:=Ex J;obtain⟨w,o,e⟩:=r.get O;have G:=r.length;have T:=yF;have fin:EP X a l Q w s:=⟨z,H,I,e,q⟩;by_cases n:0<=i
 ·have k:i.toNat=j:=by
   rw [seqIndex_of n M]at b;exact QF b
  exact item_listR f.isList n (by lia) (by rw [k];simpa using o) fin m
 ·have k:(i+(g.toArray.size:Int)).toNat=j:=by
   rw [seqIndex_neg (by lia) N]at b;rw [QJ,<- G];exact QF b
  exact subscriptTail_builtinR (x:=w) f.isList.typeIs slot_list_getitem.lookup
   (wpAny_getItem_list_neg (Q:=fun r A=>r=w/\EP X a l Q r A) f.isList (by lia) (by rw [QJ] <;> lia) (by lia) (by rw [k];simpa using o) ⟨rfl,fin⟩) m
theorem V2:gC X (Oc X.K):=by
 intro b c a s e H x y v u Q I l k h n;obtain⟨p,J,i,z,rfl,rfl,o,B,q⟩:=h;cases l;obtain⟨t,rfl⟩:=k;obtain⟨m,r,f,M⟩:=I.tuple o;obtain⟨j,F,E,S,R,O⟩:=Ex B;obtain⟨w,G,d⟩:=r.get E;have A:=r.length;have N:=yF;have fin:EP X a e Q w s:=⟨z,H,I,d,q⟩
 exact subscriptTail_builtinR (x:=w) f.typeIs slot_tuple_getitem.lookup
  (getItem_tuple (j:=j) (Q:=fun r g=>r=w/\EP X a e Q r g) f (by lia) (by lia) (by rw [QJ,<- A];exact F) (by simpa using G) ⟨rfl,fin⟩) n
theorem zSb(a b:Option Int)(n:Nat):(Uz a b none n).1=((HT.sIx n 0 a:Nat):Int)/\(Uz a b none n).2.1=((HT.sIx n n b:Nat):Int)/\(Uz a b none n).2.2=1:=by
 refine⟨?_,?_,rfl⟩
 ·cases a with
  | none=>simp [Uz,HT.sIx]
  | some i=>
   simp only [Uz,HT.sIx,Option.getD_none,show(1:Int) > 0 by decide,if_true];by_cases h:i<0
   ·simp only [h,if_true];exact HT.sb1 h
   ·simp only [h,if_false];exact HT.sb2 h
 ·cases b with
  | none=>simp [Uz,HT.sIx]
  | some i=>
   simp only [Uz,HT.sIx,Option.getD_none,show(1:Int) > 0 by decide,if_true];by_cases h:i<0
   ·simp only [h,if_true];exact HT.sb1 h
   ·simp only [h,if_false];exact HT.sb2 h
theorem zSa(a:List JZ)(b c:Option Int):slicePick a.toArray b c none=((a.drop (HT.sIx a.length 0 b)).take (HT.sIx a.length a.length c-HT.sIx a.length 0 b)).toArray:=by
 obtain⟨f,e,d⟩:=zSb b c a.toArray.size;unfold slicePick;rw [f,e,d]
 simp only [sliceRange_one,pick_run,QJ] <;> rfl
def Oe(K:PySem.W.Frag):V->Option Int->Option Int->Hp->VK->Prop:=fun x b c H Q=>∃ a xs,x=.ref a/\bY K H a xs/\∀ p,H p=none->Q (.ref p) (aJ H p (.lst (lC xs b c)))
theorem Xk:lA X (Oe X.K):=by
 intro g s u H x v y w e f z Q I j t l k h;obtain⟨a,c,rfl,p,q⟩:=h;cases j;obtain⟨m,r,i,n⟩:=I.list p;have d:=r.length
 refine⟨"list",_,slot_list_getitem.lookup,i.isList.typeIs,?_⟩
 refine wpAny_getItem_list_slice i.isList t l k .none (by simp) ?_ (by rw [QJ] <;> lia);rw [zSa,<- d]
 refine⟨.ref s.heap.objs.size,_,I.laid (t':=s.toks) (o:=.lst (lC c e f)) (fun b A q=>Qe _ q) (Qk _) ?_,rfl,q _ (I.hok.fresh (Qk _))⟩
 exact⟨QH (Ei c e f) n,_,0,(r.drop (HT.sIx c.length 0 e)).take (HT.sIx c.length c.length f-HT.sIx c.length 0 e),Qz _ rfl⟩
theorem P3:dW X (.builtin "len") (fun xs H Q=>∃ p ys,xs=[.ref p]/\(bY X.K H p ys ∨ bJ X.K H p ys)/\Q (.int ys.length) H):=by
 intro f s j H xs k Q I r h;obtain⟨p,ys,rfl,b,q⟩:=h;obtain⟨u,rfl,g⟩:=iN r;cases g;have l:=yF;rcases b with b | b
 ·obtain⟨e,c,d,i⟩:=I.list b;have a:=c.length;exact Calls.call_len_list d.isList (by simp only [QJ] <;> lia) ⟨.int ys.length,H,I.tok _,⟨s.toks+1,by rw [QJ,a]⟩,q⟩
 ·obtain⟨e,c,d,i⟩:=I.tuple b;have a:=c.length;exact len_tuple d (by simp only [QJ] <;> lia) ⟨.int ys.length,H,I.tok _,⟨s.toks+1,by rw [QJ,a]⟩,q⟩
theorem P4:dW X (.builtin "len") (fun xs H Q=>∃ z,xs=[.str z]/\z.length<=sizeLine/\Q (.int z.length) H):=by
 intro a s b H xs c Q I r h;obtain⟨z,rfl,d,q⟩:=h;obtain⟨u,rfl,t,rfl⟩:=iN r;have e:=yF;exact len_str (by lia) ⟨.int z.length,H,I.tok _,⟨_,rfl⟩,q⟩
theorem P6:dW X (.type "list") (fun xs H Q=>∃ p ys,xs=[.ref p]/\(bY X.K H p ys ∨ bJ X.K H p ys)/\∀ l,H l=none->Q (.ref l) (aJ H l (.lst ys))):=by
 intro g s z H xs B Q I r h;obtain⟨p,ys,rfl,k,q⟩:=h;obtain⟨u,rfl,A⟩:=iN r;cases A
 have fin:∀(a:List JZ),Vals ys a->ys.length<=sizeLine->∀(c:Heap) (f:Nat),(∀ b o',s.heap.get? b=some o'->c.get? b=some o')->
   c.get? s.heap.objs.size=some { cls:=.type "list",dict:=none,data:=.seq a.toArray f,slots:=#[] }->EP X g z Q (.ref s.heap.objs.size) { s with heap:=c }:=fun a d j c f i e=>
  ⟨.ref s.heap.objs.size,_,I.laid (t':=s.toks) i (Qk _) (show eG X.prog X.w _ c _ (.lst ys)from⟨j,a,f,d,e⟩),rfl,q _ (I.hok.fresh (Qk _))⟩
 rcases k with k | k
 ·obtain⟨a,d,t,j⟩:=I.list k;have m:=d.length;obtain⟨o,v,y,n,x⟩:=t.isList;exact call_list_seq p (.inl rfl) v y x (fun c f i e=>fin a d j c f i e) (by simp only [QJ] <;> lia)
 ·obtain⟨a,d,t,j⟩:=I.tuple k;have m:=d.length;obtain⟨o,v,y,n,x⟩:=t;exact call_list_seq p (.inr rfl) v y x (fun c f i e=>fin a d j c f i e) (by simp only [QJ] <;> lia)
theorem P9:dW X (.type "tuple") (fun xs H Q=>∃ p ys,xs=[.ref p]/\((bY X.K H p ys/\∀ l,H l=none->Q (.ref l) (aJ H l (.tup ys))) ∨ (bJ X.K H p ys/\Q (.ref p) H))):=by
 intro a s j H xs x Q I r h;obtain⟨p,ys,rfl,h⟩:=h;obtain⟨u,rfl,n⟩:=iN r;cases n;rcases h with⟨i,q⟩ | ⟨i,q⟩
 ·obtain⟨c,f,g,k⟩:=I.list i;have m:=f.length;refine call_tuple_list g.isList (fun d t=>?_) (by simp only [QJ] <;> lia);have I1:Inv X a j H { s with heap:=d }:=I.kept (t':=s.toks) t
  have v:Inv X a j (aJ H d.objs.size (.tup ys)) { s with heap:=d.push { cls:=.type "tuple",data:=.seq c.toArray } }:=
   I1.laid (t':=s.toks) (fun b o e=>Qe _ e) (Qk _) (show eG X.prog X.w _ _ _ (.tup ys)from⟨k,c,f,IsTup.new _ _⟩)
  exact⟨.ref d.objs.size,_,v,rfl,q _ (I1.hok.fresh (Qk _))⟩
 ·obtain⟨c,f,g,k⟩:=I.tuple i;exact call_tuple_same g ⟨.ref p,H,I,rfl,q⟩
def D2(K:PySem.W.Frag)(T:String)(x:V)(H:Hp):Prop:=match x with
 | .str _=>T="str"
 | .int _=>T="int"
 | .ref p=>(T="list"/\∃ xs,bY K H p xs) ∨ (T="tuple"/\∃ o,K.lookup p=some o/\o.cls=.type "tuple"/\o.dict=none) ∨
   (T="dict"/\((∃ kvs,H p=some (.dK kvs)) ∨ ∃ kvs,H p=some (.dT kvs))) ∨ (T="set"/\∃ S n,H p=some (.set S n))
 | _=>False
theorem zSK(I:Inv X pins σ H s)(r:RelV x v)(ty:D2 X.K T x H):
  s.TypeIs v T/\∀ a,v=.ref a->∃ ob,s.heap.get? a=some ob/\ob.dict=none:=by
 cases x with
 | str z=>
  obtain⟨t,rfl⟩:=r
  cases(show T="str" from ty)
  exact⟨typeIs_str s z t,fun _ e=>nomatch e⟩
 | int i=>
  obtain⟨t,rfl⟩:=r
  cases(show T="int" from ty)
  exact⟨typeIs_int s i t,fun _ e=>nomatch e⟩
 | ref p=>
  cases r;rcases ty with⟨rfl,q,l⟩ | ⟨rfl,o,b,m,g⟩ | ⟨rfl,b⟩ | ⟨rfl,S,n,b⟩
  ·obtain⟨k,_,j,_⟩:=I.list l
   refine⟨j.isList.typeIs,fun a e=>?_⟩
   cases e;obtain⟨o,n,e,c,g,_⟩:=j
   exact⟨o,e,g⟩
  ·refine⟨⟨o,I.kIn p o b,m⟩,fun a e=>?_⟩
   cases e
   exact⟨o,I.kIn _ o b,g⟩
  ·have z:∃ o,s.heap.get? p=some o/\o.ExactDict:=by
    rcases b with⟨f,b⟩ | ⟨f,b⟩
    ·obtain⟨_,_,_,_,o,_,_,e,d,_⟩:=I.hok p _ b
     exact⟨o,e,d⟩
    ·obtain⟨_,_,_,_,o,_,_,e,d,_⟩:=I.hok p _ b
     exact⟨o,e,d⟩
   obtain⟨o,e,d⟩:=z
   refine⟨⟨o,e,d.1⟩,fun a h=>?_⟩
   cases h
   exact⟨o,e,d.2.1⟩
  ·obtain⟨o,_,_,_,e,d,_⟩:=I.hok p _ b
   refine⟨⟨o,e,d.1⟩,fun a h=>?_⟩
   cases h
   exact⟨o,e,d.2.1⟩
 | _=>exact ZJ ty
def OM(K:PySem.W.Frag)(T:String)(r:V->List V->Hp->VK->Prop)(to:TE)(t:TA):TE:=fun a H Q=>to a H fun x b=>D2 K T x b/\t a b fun c d=>r x c d Q
variable {o e:Expr}{es:List Expr}{to:TE}{t:TA}{name:Str}{apos cpos:Pos}{T id:String}{r:V->List V->Hp->VK->Prop}
theorem Cz(A:PlainAttrs T)(slot:Slot T name id)(i:typeOf (.builtin id)=pure (.type "method_descriptor"))(E:y3 X id r)(B:PE X o to)(F:PA X (e::es) t)
  (d:ZE o name X.env (Zr o X.env)=Zr o X.env:=by rfl)
  (f:((Zt cpos (J2 (e::es) X.env)).all (fun x => !x.1) && (UC cpos (ZT [] X.env)).all (fun x=>x.1.isSome)
   && decide ((e::es).length+([]:List Us).length+(if([]:List Us).isEmpty then 0 else 1)<30))=true:=by rfl)
  (c:(apos.endLine == cpos.line)=true:=by rfl) (hs:J2 (e::es) X.env=(false,Zr e X.env)::J2 es X.env:=by rfl) (b:(Zt cpos (J2 es X.env)).any (·.1)=false:=by rfl):
  PE X (.Call (.Attribute o name apos) (e::es) [] cpos) (OM X.K T r to t):=by
 intro a s g H Q I h;refine wpAny_Call_method_late d f c rfl (aT (B a s g H _ I h) fun v u m=>?_);obtain⟨x,O,l,j,ty,z⟩:=m;obtain⟨J,G⟩:=zSK l j ty
 refine⟨T,id,A,slot,i,J,G,?_⟩
 have k:=F cpos a u g O _ l z;rw [hs]at k ⊢;refine Calls.callWith_builtin (by show(false || (Zt cpos (J2 es X.env)).any (·.1))=false;rw [b] <;> rfl) (Calls.evalArgs_plain ?_);exact aT k fun p q ⟨n,N,M,w,y⟩=>E a q g N x n v p Q M j w y
end
def CU(X:Cx)(id:String)(r:V->List V->Hp->VK->Prop):Prop:=
 ∀(pins:List (YP × Obj)) (s:J0) (σ:St) (H:Hp) (x:V) (xs:List V) (v:JZ) (us:List JZ) (Q:VK),Inv X pins σ H s->RelV x v->Vals xs us->r x xs H Q->
  J3 (J4 X.prog X.w) X.A (call (.builtin id) (v::us)) (EP X pins σ Q) X.xe s
theorem Vals.one{x:V}{us:List JZ}(h:Vals [x] us):∃ u,us=[u]/\RelV x u:=by
 cases h with
 | cons r h=>cases h;exact⟨_,rfl,r⟩
section
variable {X:Cx}{pins:List (YP × Obj)}{σ:St}{H:Hp}{s:J0}{l b:YP}{xs ys zs:List V}
theorem Inv.lset{a its':List JZ}{n:Nat}{f:Array JZ->Array JZ}{t':Nat}(I:Inv X pins σ H s)(h:H l=some (.lst xs))
  (e:s.heap.get? l=some { cls:=.type "list",data:=.seq a.toArray n }) (d:f a.toArray=its'.toArray) (b:Vals ys its') (hz:ys.length<=sizeLine):
  Inv X pins σ (aJ H l (.lst ys)) { s with heap:=s.heap.update l (Z5 f),toks:=t' }:=by
 have q:=PySem.IsL.update e f;rw [d]at q;refine I.write (x:=l) (e:=l) (by rw [h];exact trivial) (.inl rfl) (fun i u g c=>(Jy s.heap (Z5 f) (Z4 g)).trans c) ⟨_,q⟩ ?_
 exact⟨hz,its',_,b,q⟩
theorem Inv.lstM(I:Inv X pins σ H s)(a:H l=some (.lst xs)):xs.length<=sizeLine/\∃(its:List JZ) (n:Nat),Vals xs its/\xs.length=its.length/\s.heap.get? l=some { cls:=.type "list",data:=.seq its.toArray n }:=by
 obtain⟨z,its,n,r,e⟩:=I.hok l _ a
 exact⟨z,its,n,r,r.length,e⟩
theorem Wh{n:Nat}(h:n<=sizeLine):Uj n=false:=by
 unfold Uj;exact decide_eq_false (by lia)
end
section
variable {X:Cx}
def Xs:V->List V->Hp->VK->Prop:=fun x a H Q=>∃ l xs y,x=.ref l/\a=[y]/\H l=some (.lst xs)/\xs.length<sizeLine/\Q .non (aJ H l (.lst (xs++[y])))
theorem Co:CU X "list.append" Xs:=by
 intro b s i H x k v m Q I d f h;obtain⟨l,j,y,rfl,rfl,c,o,q⟩:=h;cases d;obtain⟨u,rfl,g⟩:=f.one;obtain⟨z,a,n,r,p,e⟩:=I.lstM c;refine call_meets F.slot_list_append ⟨_,e,rfl⟩ F.entry_list_append (F.args_list_append_2 _ _) (PySem.list_append l a.toArray n u (by rw [QJ];lia)) ⟨e,?_⟩
 refine⟨.non,_,I.lset (its':=a++[u]) c e (by simp) (r.append (.cons g .nil)) ?_,rfl,q⟩
 rw [Qj,Yd];lia
end
section
variable {prog:J5}{w:J6}{A:Around}{E:JZ->J0->Prop}{s:J0}
end
section
variable {X:Cx}
end
end L2
namespace Att
open PySem.W PySem.Calls
theorem VI:∀(ns:List Int) (vs:List JZ),WellAll P h vs (ns.map WData.int)->UE vs ns:=by
 intro ns
 induction ns with
 | nil=>
  intro vs w;rw [List.map_nil]at w;cases w;exact .nil
 | cons n ns c=>
  intro vs w;rw [Qs]at w
  cases w with
  | cons a b=>
   cases a;exact .cons _ _ (c _ b)
theorem XV{l:OpenLaw}{n:Nat}(u:l.most=some n){P:Params}{h:Heap}{args:List WData}{b:List JZ}
  (c:l.row.toRowW.claim.pre args=true) (j:WellAll P h b args):
  ∃ a vs ns,b=[Zb a]/\args=[WData.list (ns.map WData.int)]/\h.get? a=some { cls:=.type "list",data:=.seq vs.toArray }/\UE vs ns/\ns.length<=n:=by
 have k:WShape.hasAll [] args [.list .int]=true:=(pre_splitW c).1;have m:l.pre.holds [] { args:=args }=true:=(pre_splitW c).2;obtain⟨d,r,rfl,x,w⟩:=hasAllW_cons k
 obtain rfl:=hasAllW_nil w
 obtain⟨y,rfl,v⟩:=hasW_list x;obtain⟨ns,rfl⟩:=items_int v
 have e:ns.length<=n:=by
  unfold OpenLaw.pre at m
  have i:(WTm.not (.lt (.lit (.int (n:Int))) (.len (.arg 0)))).holds [] { args:=[.list (ns.map .int)] }=true:=by
   have i:=(holds_andW m).1;rw [u]at i;exact i
  have g:=condW_of i (w_not (w_lt w_lit (w_len_list (w_arg rfl))));rw [Qo]at g;refine YR fun q=>?_
  have s:(n:Int)<((ns.length:Nat):Int):=by lia
  first
   | (rw [decide_eq_true s]at g;exact absurd g (by decide))
   | (simp at g;lia)
 cases j with
 | cons p o=>
  cases o
  cases p with
  | list t f=>exact⟨_,_,ns,rfl,rfl,t,VI ns _ f,e⟩
theorem zRs(l:OpenLaw)(args:List WData):l.row.toRowW.claim.post args (.bool true) args=true:=
 postW_of (r:=l.row.toRowW) (X:=(true == true))
  (show WShape.has [] (.bool true) .bool=true by first | rfl | decide | simp [WShape.has,WShape.arms,WShape.armsAll])
  (show(WTm.eq .res (.lit (.bool true))).value [] { args:=args,res:=some (.bool true),after:=args }=some (.bool (true == true))from w_eq_bool (w_res rfl) w_lit) rfl
theorem attach_call{l:OpenLaw}{n:Nat}{q:J5}{b:List Str}{x:(Str->Option JZ)->Heap->Prop}{v:J6->Heap->Prop}{d:DefRec}
  (B:l.most=some n) (k:d.params.defaults=[])
  (call:∀(w:J6) (s₀ s₁:J0) (mg mb:Str->Option JZ) (fa:YP) (o:Obj) (pm cd doc:JZ) (a:YP) (vs:List JZ) (ns:List Int),
   Ground q b [] x w s₀ mg mb s₁.heap->v w s₁.heap->
   s₁.heap.get? fa=some o->o.data=.func (docDef d.name d.params d.body d.scope pm cd doc)->s₁.heap.CodeRec cd d.name->mg d.name=some (.ref fa)->
   s₁.heap.get? a=some { cls:=.type "list",data:=.seq vs.toArray }->UE vs ns->ns.length<=n->s₁.gens=#[]->
   Ud (J4 l.prog w) callerA (.call (.ref fa) ⟨[.ref a],[]⟩) (fun r s'=>r=.ok (.ret (.bool true))/\OldK s₁.heap s'.heap/\s'.os=s₁.os/\Vq s'.gens) s₁):
  WalkO q b x v l.row.toRowW d [] (fun f vs=>PySem.call f vs):=by
 intro w s₀ s₁ mg mb G Y fa o pm cd doc N kV A I m t j H u p O e s y i F
 obtain rfl:N=.none:=Dflts.none t k
 obtain rfl:kV=.none:=Dflts.noKw t
 obtain⟨a,vs,ns,rfl,rfl,g,c,h⟩:=XV B e i;refine enter_call (Jw (call w s₀ s₁ mg mb fa o pm cd doc a vs ns G Y A (fd_plain I) m j g c h H) fun r s' z=>?_);obtain⟨rfl,M,K,J⟩:=z
 exact⟨.inl ⟨.bool true,.bool true,[],rfl,fun _=>rfl,.bool true,zRs l _,fun _=>⟨ZU,fun _ E=>(nomatch E)⟩⟩,M,K,J⟩
section
variable {prog:J5}{w:J6}{A:Around}{E:JZ->J0->Prop}{s:J0}{K:Frag}
end
end Att
namespace L2
open PySem.Spec
theorem Kp:∀{vs:List JZ}{ns:List Int},UE vs ns->Vals (ns.map V.int) vs
 | _,_,.nil=>.nil
 | _,_,.cons n t h=>.cons ⟨t,rfl⟩ (Kp h)
def zF(H:Hp):Prop:=∀ b,H b=none ∨ ∃ o xs,H b=some (.frz o (.lst xs))
theorem TJ{P:J5}{w:J6}{K:PySem.W.Frag}{l M:Str->Option JZ}{CX:hW}{k:Nat}{S a:YP}{fd:Zh}{x:Str}{sp:Sp}{s₁:J0}{vs:List JZ}{ns:List Int}
  (KX:K.In s₁.heap) (A:s₁.heap.Ns Zj l) (c:s₁.heap.Ns builtinsNs M) (Q:∀ x:Str,x≠"__name__"->M x=Zw x) (B:s₁.heap.NoLimit) (hg:s₁.gens=#[])
  (I:s₁.heap.get? a=some { cls:=.type "list",data:=.seq vs.toArray }) (Y:UE vs ns) (X:ns.length<=sizeLine) (hr:cA k callerA)
  (F:∀ base:Heap,K.In base->base.Ns Zj l->aK P w K l base CX k S fd [x] sp) (i:∀(s:J0) (u:JZ),BindsTo s fd ⟨[u],[]⟩ [(x,u)])
  (N:∀ H:Hp,zF H->bY K H a (ns.map V.int)->sp [.ref a] H (fun v _=>v=.bl true) fun _ _ _=>False)
  (R:∀ H e s',CX [] H s₁ (fun _ _ _=>False) e s'->False):
  Ud (J4 P w) callerA (.call (.ref S) ⟨[.ref a],[]⟩) (fun r s'=>r=.ok (.ret (.bool true))/\OldK s₁.heap s'.heap/\s'.os=s₁.os/\Vq s'.gens) s₁:=by
 have U:=Kp Y;have p:=Y.length
 have g:∀ H:Hp,zF H->bY K H a (ns.map V.int)->c6 P w H s₁.heap->(∀ b,H b≠none->b=a)->(H a≠none->K.lookup a=none)->
   Ud (J4 P w) callerA (.call (.ref S) ⟨[.ref a],[]⟩) (fun r s'=>r=.ok (.ret (.bool true))/\OldK s₁.heap s'.heap/\s'.os=s₁.os/\Vq s'.gens) s₁:=by
  intro H Z hS y hA hK;have base_of:∀{b:YP}{o:Obj},s₁.heap.get? b=some o->H b=none->(kI s₁.heap H).get? b=some o:=fun e n=>VC e n
  have J:∀{b:YP}{o:Obj}{es:Array ZI}{ep:Nat},s₁.heap.get? b=some o->o.data=.dict es ep->H b=none:=fun{b o es ep} e d=>by
   cases q:H b with
   | none=>rfl
   | some u=>
    have T:b=a:=hA b (by rw [q];simp);subst T;rw [I]at e;cases e;have d':Data.seq vs.toArray _=Data.dict es ep:=d;cases d'
  have f:∀{b:YP}{m:Str->Option JZ},s₁.heap.Ns b m->(kI s₁.heap H).Ns b m:=fun{b m} ⟨o,es,ep,e,d,r⟩=>⟨o,es,ep,base_of e (J e d),d,r⟩
  have E:K.In (kI s₁.heap H):=fun b o e=>base_of (KX b o e) (by
   cases q:H b with
   | none=>rfl
   | some u=>
    have T:b=a:=hA b (by rw [q];simp);subst T
    rw [hK (by rw [q];simp)]at e;cases e)
  have hM:Mod K l (kI s₁.heap H):=⟨E,f A,⟨M,f c,Q⟩,let⟨mc,h1,h2⟩:=B;⟨mc,f h1,h2⟩⟩;have e0:mK P w K l (kI s₁.heap H) callerA [] s₁ H:=⟨rfl,hM,fun b o e=>Wi e,Nat.le_of_eq (VD _ _),trivial,fun b c=>absurd (show b∈([]:List YP)from c) (by simp),y,.of_eq hg⟩;refine Jw ((F _ E (f A)).run callerA [] s₁ H ⟨[.ref a],[]⟩ [.ref a] [.ref a] _ _ hr e0 (i s₁ (.ref a)) (.cons rfl .nil) (N H Z hS)) fun r s' h=>?_
  cases r with
  | error e=>exact(R H e s' h).elim
  | ok fl=>
   cases fl with
   | next=>exact ZJ h
   | brk=>exact ZJ h
   | cont=>exact ZJ h
   | ret u=>
    obtain⟨v,H',os,G,un,t,r',q⟩:=h;have q':v=.bl true:=q;subst q'
    obtain rfl:u=ZV true:=r'
    refine⟨rfl,OldK.of_keep fun b o e=>?_,os,G⟩
    cases q:H b with
    | none=>exact un.keep b o e q (by intro z;exact absurd (show b∈([]:List YP)from z) (by simp)) (by simp)
    | some u=>
     rcases Z b with z | ⟨ob,xs,z⟩
     ·rw [q]at z;cases z
     ·have z2:=un.frzs b ob _ z;obtain⟨e1,_⟩:=y b _ z;obtain⟨e2,_⟩:=t b _ z2;rw [e]at e1;cases e1;exact e2
 cases O:K.lookup a with
 | some o=>
  have e:=KX a o O;rw [I]at e;cases e;refine g (fun _=>none) (fun _=>.inl rfl) (.inr ⟨_,vs.toArray,_,O,rfl,rfl,rfl,by rw [QJ,p];exact X,by simpa using U⟩) (fun b u z=>by have j:(none:Option HO)=some u:=z;cases j) (fun b z=>absurd rfl z) fun z=>absurd rfl z
 | none=>
  refine g (fun b=>if b=a then some (.frz { cls:=.type "list",data:=.seq vs.toArray } (.lst (ns.map V.int)))else none) (fun b=>?_) (.inl (.inr ⟨{ cls:=.type "list",data:=.seq vs.toArray },if_pos rfl⟩)) (fun b u z=>?_) (fun b z=>?_) fun _=>O
  ·by_cases c:b=a
   ·exact .inr ⟨_,_,if_pos c⟩
   ·exact .inl (if_neg c)
  ·by_cases c:b=a
   ·have j:=(if_pos c).symm.trans z;cases j;subst c
    exact⟨I,by rw [Qo];exact X,vs,_,U,I⟩
   ·have j:=(if_neg c).symm.trans z;cases j
  ·by_cases c:b=a
   ·exact c
   ·exact absurd (if_neg c) z
theorem walk_of{l:PySem.W.OpenLaw}{n k:Nat}{q:J5}{i:List Str}{XP:(Str->Option JZ)->Heap->Prop}{E:J6->Heap->Prop}{d:DefRec}{K:Params->PySem.W.Frag}{CX:J6->hW}{sp:J6->Sp}{x:Str}
  (M:l.most=some n) (t:n<=sizeLine) (z:d.params.defaults=[]) (J:cA k callerA)
  (R:∀(w:J6) (h:Heap),E w h->(K w.params).In h)
  (F:∀(w:J6) (mg:Str->Option JZ) (fa:YP) (h:Heap),(K w.params).In h->h.Ns Zj mg->mg d.name=some (.ref fa)->
   ∃ fd:Zh,(∀(s:J0) (u:JZ),BindsTo s fd ⟨[u],[]⟩ [(x,u)]) /\
    ∀ base:Heap,(K w.params).In base->base.Ns Zj mg->aK l.prog w (K w.params) mg base (CX w) k fa fd [x] (sp w))
  (r:∀(w:J6) (H:Hp) (a:YP) (ns:List Int),ns.length<=n->zF H->bY (K w.params) H a (ns.map V.int)->sp w [.ref a] H (fun v _=>v=.bl true) fun _ _ _=>False)
  (A:∀(w:J6) (H:Hp) (s:J0) (e:JZ) (s':J0),CX w [] H s (fun _ _ _=>False) e s'->False):
  PySem.W.WalkO q i XP E l.row.toRowW d [] (fun f vs=>PySem.call f vs):=by
 refine Att.attach_call M z fun w B m mg mb fa o pm cd Z a vs ns G Y ho hd O y p j c N=>?_;have I:=R w _ Y;obtain⟨fd,Q,X⟩:=F w mg fa _ I G.T.g y;exact TJ I G.T.g G.T.b G.T.builtins G.T.nolimit N p j (QH c t) J X Q (fun H U S=>r w H a ns c U S) fun H e s'=>A w H m e s'
def tI(s:Zv)(j:Nat):Zv:=match s with
 | .ClassDef _ _ _ a _ _ _ _ _ _ _=>a.getD j (.Pass ⟨0,0,0,0⟩)
 | _=>.Pass ⟨0,0,0,0⟩
def eN(s:Zv):Arguments:=match s with
 | .FunctionDef _ a _ _ _ _ _ _ _ _=>a
 | _=>{ posonlyargs:=[],args:=[],vararg:=none,kwonlyargs:=[],kw_defaults:=[],kwarg:=none,defaults:=[] }
def dE(s:Zv):List Zv:=match s with
 | .FunctionDef _ _ b _ _ _ _ _ _ _=>b
 | _=>[]
def aS(s:Zv):Uf:=match s with
 | .FunctionDef _ _ _ _ _ _ a _ _ _=>a
 | _=>{ kind:=.function,names:=[],isGenerator:=false,isCoroutine:=false }
abbrev aM:hW:=fun _ _ _ _ _ _=>False
abbrev E0:XK:=fun _ _ _=>False
theorem l7:oF aM X E0:=fun _ _ _ _ _ _ _ h=>h.elim
structure gB(K:PySem.W.Frag)(x qual:Str)(st:Zv)(f:YP)(fd:Zh):Prop where
 ex:∃(oc:JZ) (od:Option YP) (kV doc pm:JZ) (an:Option YP) (cdv ct:JZ) (osl:Array (Option JZ)),
  fd=PySem.W.fnOf x qual (eN st) (dE st) (aS st) .none kV doc pm an cdv ct/\K.lookup f=some ⟨oc,od,.func fd,osl⟩/\PySem.W.codeIn K cdv qual=true
 kp:PySem.W.keepIn K (.ref f)=true
section
variable {P:J5}{w:J6}{K:PySem.W.Frag}{mg:Str->Option JZ}{base:Heap}
theorem gB.ok{x a:Str}{c:Zv}{f:YP}{i:Zh}{N d:List Str}{k:Nat}{sp:Sp}(F:gB K x a c f i)(S:bU N d (aS c))(len:∀ vs H Q E,sp vs H Q E->vs.length=d.length)
  (b:∀(cdv:JZ) (A:Around) (outer:List Env) (s:J0) (H:Hp) (vs:List V) (Q:VK) (E:XK),cA k (A.deeper (U8 a (aS c) s.heap.objs.size f cdv))->sp vs H Q E->
   ∃ t,fM (jQ aM P w K mg base N a (aS c) f cdv A outer s H E).nox (dE c) t/\t { nx:=fun _ H'=>Q .non H',rt:=Q } (start N vs) H):aK P w K mg base aM (k+1) f i d sp:=by
 obtain⟨r,p,kV,n,o,v,cdv,u,j,rfl,l,g⟩:=F.ex;refine MK l g S len fun A outer s H vs Q E m e=>?_;obtain⟨t,h,q⟩:=b cdv A outer s H vs Q E m e
 exact⟨t,h.nox,q⟩
theorem p9{x a:Str}{d:Zv}{f:YP}{j:JZ}{od i:Option YP}{g:Array (Option JZ)}{kV e h b ct:JZ}(l:K.lookup f=some ⟨j,od,.func (PySem.W.fnOf x a (eN d) (dE d) (aS d) .none kV e h i b ct),g⟩)
  (c:PySem.W.codeIn K b a=true) (k:PySem.W.keepIn K (.ref f)=true):gB K x a d f (PySem.W.fnOf x a (eN d) (dE d) (aS d) .none kV e h i b ct):=⟨⟨j,od,kV,e,h,i,b,ct,g,rfl,l,c⟩,k⟩
end
theorem uB(h:n<=1000):n<sizeLine:=YZ h (by decide)
section
variable {X:Cx}
theorem pv(i:Nat)(d:X.N[i]?=some x:=by rfl)(b:gD X.env.scope x:=by first | exact Zi rfl | exact Zd (Zi rfl) | exact Zd (Zd rfl))(c:(x == ("__debug__":Str))=false:=by decide)
  (a:(x == ("__classdict__":Str))=false:=by decide):PE X (.Name x pos) (D1 i):=gQ d b c a
end
def eI(H a:Hp):Prop:=∀ b o,H b=some o->a b=some o
theorem eI.refl(H:Hp):eI H H:=fun _ _ h=>h
theorem eI.trans(a:eI H H1)(b:eI H1 H2):eI H H2:=fun c o h=>b c o (a c o h)
theorem eI.free{H a:Hp}(e:eI H a){l:YP}(h:a l=Option.none):H l=Option.none:=by
 cases q:H l with
 | none=>rfl
 | some o=>
  rw [e l o q]at h;cases h
end L2
namespace SG
section
variable {prog:J5}{w:J6}{A:Around}{E:JZ->J0->Prop}{s:J0}{src:Array Zl}{κ:KeyKind}{kd:Z1}
def fZ(prog:J5)(w:J6)(A:Around)(s:J0)(κ:KeyKind)(kd:Z1):Prop:=
 ∀(x y:JZ) (a b:κ.α) (E:JZ->J0->Prop) (Q:Bool->J0->Prop),κ.keyOf x=some a->κ.keyOf y=some b->Q (κ.blt a b) s->J3 (J4 prog w) A (keyLt' kd x y) Q E s
end
end SG
namespace TS
open SG
structure Ft(src:Array Zl)(kd:Z1)(z:ZG):Prop where
 mix:(J7 z).Perm src
 kd:kindOf z=kd
 fine:Uk z=none
theorem Ft.len{src:Array Zl}{kd:Z1}{z:ZG}(f:Ft src kd z):(J7 z).size=src.size:=f.mix.size_eq
theorem Ft.re{src:Array Zl}{kd:Z1}{z:ZG}(f:Ft src kd z){a:Array Zl}(m:a.Perm (J7 z)):Ft src kd (ZR z a):=⟨m.trans f.mix,f.kd,f.fine⟩
def aL(d a top:Nat):StateT ZG Sem AscSt:=forIn [a:top] ((none,a):AscSt) fun _ c=>ltAt' (d+c.snd) (d+c.snd-1) >>= fun x=>match x with
 | some b=>if b=true then pure (.done (none,c.snd))else pure (.yield (none,c.snd+1))
 | _=>pure (.done (some none,c.snd))
def rX(a n top:Nat):StateT ZG Sem (Option Nat):=reverseSlice' a (a+n) >>= fun _=>aL a n top >>= fun c=>match c.fst with
 | some r=>pure r
 | none=>pure (some c.snd)
def dL(a n top:Nat):StateT ZG Sem DescSt:=forIn [n:top] ((none,n,0):DescSt) fun _ c=>ltAt' (a+c.snd.fst) (a+c.snd.fst-1) >>= fun x=>match x with
 | some b=>if b=true then(if c.snd.snd > 0 then(reverseSlice' (a+c.snd.fst-(c.snd.snd+1)) (a+c.snd.fst) >>= fun _=>pure (.yield (none,c.snd.fst+1,0)))else pure (.yield (none,c.snd.fst+1,0)))
  else ltAt' (a+c.snd.fst-1) (a+c.snd.fst) >>= fun y=>match y with
   | some g=>if g=true then pure (.done (none,c.snd.fst,c.snd.snd))else pure (.yield (none,c.snd.fst+1,c.snd.snd+1))
   | _=>pure (.done (some none,c.snd.fst,c.snd.snd))
 | _=>pure (.done (some none,c.snd.fst,c.snd.snd))
def dP(a n top:Nat):StateT ZG Sem (Option Nat):=liftM (rule "list.sort.descending-run") >>= fun _=>dL a (n+1) top >>= fun c=>match c.fst with
 | some r=>pure r
 | none=>if c.snd.snd > 0 then(reverseSlice' (a+c.snd.fst-(c.snd.snd+1)) (a+c.snd.fst) >>= fun _=>rX a c.snd.fst top)else rX a c.snd.fst top
theorem Mp(a top:Nat):countRun' a top=(aL a 1 top >>= fun c=>match c.fst with
  | some r=>pure r
  | none=>if(c.snd == top)=true then pure (some c.snd)else if c.snd > 1 then(ltAt' a (a+c.snd-1) >>= fun x=>match x with
    | some g=>if g=true then pure (some c.snd)else(reverseSlice' a (a+c.snd) >>= fun _=>dP a c.snd top)
    | _=>pure none)
   else dP a c.snd top):=by
 rw [countRun'_eq];unfold dP rX dL aL;refine bind_congr fun c=>?_;obtain⟨r,n⟩:=c
 cases r with
 | some r=>rfl
 | none=>
  dsimp only;split
  ·rfl
  ·split
   ·refine bind_congr fun x=>?_
    cases x with
    | none=>rfl
    | some g=>
     dsimp only;split
     ·rfl
     ·refine bind_congr fun _=>bind_congr fun _=>bind_congr fun f=>?_;obtain⟨e,j,i⟩:=f
      cases e with
      | some e=>rfl
      | none=>
       dsimp only;split
       ·refine bind_congr fun _=>bind_congr fun _=>bind_congr fun b=>?_;obtain⟨d,h⟩:=b
        cases d <;> rfl
       ·refine bind_congr fun _=>bind_congr fun b=>?_;obtain⟨d,h⟩:=b
        cases d <;> rfl
   ·refine bind_congr fun _=>bind_congr fun f=>?_;obtain⟨e,j,i⟩:=f
    cases e with
    | some e=>rfl
    | none=>
     dsimp only;split
     ·refine bind_congr fun _=>bind_congr fun _=>bind_congr fun b=>?_;obtain⟨d,h⟩:=b
      cases d <;> rfl
     ·refine bind_congr fun _=>bind_congr fun b=>?_;obtain⟨d,h⟩:=b
      cases d <;> rfl
def Up(κ:KeyKind)(xs:Array Zl)(a n:Nat):Prop:=∀ i j,i<=j->j<n->κ.kle (KK κ xs (a+i)) (KK κ xs (a+j))
def Dn(κ:KeyKind)(xs:Array Zl)(a n:Nat):Prop:=∀ i j,i<=j->j<n->κ.kle (KK κ xs (a+j)) (KK κ xs (a+i))
def Sm(κ:KeyKind)(b:Nat)(xs a:Array Zl):Prop:=∀ k,k<b->KK κ a k=KK κ xs k
theorem Sm.refl{a:Nat}(xs:Array Zl):Sm κ a xs xs:=fun _ _=>rfl
theorem Sm.trans{c:Nat}(a:Sm κ c xs ys)(b:Sm κ c ys zs):Sm κ c xs zs:=fun k h=>(b k h).trans (a k h)
theorem xQ{a i j:Nat}(b:j<=xs.size)(h:a<=i):Sm κ a xs (mirror xs i j ((j-i) / 2)):=fun k c=>by
 rw [KK_mirror b,if_neg (by lia)]
section
variable {prog:J5}{w:J6}{A:Around}{E:JZ->J0->Prop}{s:J0}{src:Array Zl}{κ:KeyKind}{kd:Z1}
theorem Ft.item(f:Ft src kd z)(all:KeysOf κ src)(h:i<src.size):∃ x y a,(J7 z)[i]?=some (x,y)/\κ.keyOf x=some a/\KK κ (J7 z) i=a:=by
 have c:i<(J7 z).size:=by rw [f.len];exact h
 have e:=getElem?_pos (J7 z) i c;obtain⟨a,b⟩:=all (J7 z)[i] ((YU.mp f.mix).mem_iff.mp (by simp))
 exact⟨_,_,a,e,b,by unfold KK;rw [e];simp [b]⟩
theorem rF(L:fZ prog w A s κ kd)(hz:kindOf z=kd)(d:κ.keyOf x.1=some a)(c:κ.keyOf y.1=some b)(k:Q (some (κ.blt a b)) z):wpS (J4 prog w) A E s (lt' x y) Q z:=by
 rw [lt'_eq];refine Qx (UW (Qx (Vw (UX ?_))));rw [hz];exact L x.1 y.1 a b _ _ d c ⟨rfl,QE k⟩
theorem dU(h:xs[i]?=some p)(k:Q p z):wpS (J4 prog w) A E s (elem' xs i) Q z:=by
 rw [elem'_eq,h];exact QE k
theorem rG(L:fZ prog w A s κ kd)(f:Ft src kd z)(all:KeysOf κ src)(l:i<src.size)(h:j<src.size)
  (k:Q (some (κ.blt (KK κ (J7 z) i) (KK κ (J7 z) j))) z):wpS (J4 prog w) A E s (ltAt' i j) Q z:=by
 obtain⟨x,p,a,n,g,d⟩:=f.item all l;obtain⟨y,o,b,m,e,c⟩:=f.item all h;rw [d,c]at k;rw [ltAt'_eq];exact Qx (UW (Qx (dU n (Qx (dU m (rF L f.kd g e k))))))
variable {lo:Nat}
theorem D3(L:fZ prog w A s κ kd)(all:KeysOf κ src)(f:Ft src kd z)(y:1<=a)(p:a<=top)(v:lo+top<=src.size)(r:Up κ (J7 z) lo a)
  (k:∀ n,a<=n->n<=top->Up κ (J7 z) lo n->n=top ∨ κ.klt (KK κ (J7 z) (lo+n)) (KK κ (J7 z) (lo+n-1))->Q (none,n) z):wpS (J4 prog w) A E s (aL lo a top) Q z:=by
 unfold aL;refine Yw (fun x c d=>d=z/\c=(none,x)/\Up κ (J7 z) lo x) (fun x c d u t l=>?_) (fun c d l=>?_) ⟨rfl,rfl,r⟩
 ·obtain⟨g,h,b⟩:=l;subst g h;dsimp only;refine Qx (rG L f all (by lia) (by lia) ?_)
  cases q:κ.blt (KK κ (J7 d) (lo+x)) (KK κ (J7 d) (lo+x-1))with
  | true=>simp only [if_true];exact QE (k x u (YJ t) b (Zd q))
  | false=>
   simp only [Qm,if_false];refine QE ⟨rfl,rfl,fun i j le lt=>?_⟩;rcases JM j x with o | o
   ·exact b i j le o
   ·obtain rfl:j=x:=by lia
    rcases YN le with m | m
    ·subst m;exact Yu _
    ·rw [show lo+j-1=lo+(j-1) by lia]at q;exact Yf (b i (j-1) (by lia) (by lia)) q
 ·obtain⟨g,h,b⟩:=l;subst g h
  have e:max a top=top:=by lia
  rw [e]at b ⊢;exact k top p (Qk _) b (Zi rfl)
theorem Ls(L:fZ prog w A s κ kd)(all:KeysOf κ src)(f:Ft src kd z)(a:1<=n)(e:n<=top)(d:lo+top<=src.size)(r:Dn κ (J7 z) lo n)
  (k:∀ m ys,Ft src kd (ZR z ys)->Sm κ lo (J7 z) ys->1<=m->m<=top->Up κ ys lo m->Q (some m) (ZR z ys)):wpS (J4 prog w) A E s (rX lo n top) Q z:=by
 have sz:lo+n<=(J7 z).size:=by rw [f.len];lia
 have b:Ft src kd (ZR z (mirror (J7 z) lo (lo+n) ((lo+n-lo) / 2))):=f.re (mirror_perm _ _ _ _)
 have c:Up κ (J7 (ZR z (mirror (J7 z) lo (lo+n) ((lo+n-lo) / 2)))) lo n:=by
  intro i j le lt
  show κ.kle (KK κ (mirror (J7 z) lo (lo+n) ((lo+n-lo) / 2)) (lo+i)) (KK κ (mirror (J7 z) lo (lo+n) ((lo+n-lo) / 2)) (lo+j))
  rw [KK_mirror sz,KK_mirror sz,if_pos ⟨by lia,by lia⟩,if_pos ⟨by lia,by lia⟩,show lo+(lo+n)-1-(lo+i)=lo+(n-1-i) by lia,show lo+(lo+n)-1-(lo+j)=lo+(n-1-j) by lia];exact r _ _ (by lia) (by lia)
 unfold rX;refine Qx (wpS_reverse (Qx (D3 L all b a e d c fun m l h g _=>?_)));exact QE (k m _ b (xQ sz (Qk _)) (QH a l) h g)
theorem RT(L:fZ prog w A s κ kd)(all:KeysOf κ src)(f:Ft src kd z)(N:1<=n)(M:n<=top)(S:lo+top<=src.size)(r:Dn κ (J7 z) lo n)
  (k:∀ m q ys,Ft src kd (ZR z ys)->Sm κ lo (J7 z) ys->n<=m->m<=top->Dn κ ys lo m->q+1<=m->(∀ i,m-(q+1)<=i->i<m->KK κ ys (lo+i)=KK κ ys (lo+(m-1)))->Q (none,m,q) (ZR z ys)):wpS (J4 prog w) A E s (dL lo n top) Q z:=by
 have one:∀(ys:Array Zl) (x:Nat) (i:Nat),x-(0+1)<=i->i<x->KK κ ys (lo+i)=KK κ ys (lo+(x-1)):=fun ys x i B o=>by
  have:i=x-1:=Vc (Nat.le_sub_one_of_lt o) B
  rw [this]
 unfold dL
 refine Yw (fun x c t=>∃ q ys,t=ZR z ys/\c=(none,x,q)/\Ft src kd t/\Sm κ lo (J7 z) ys/\Dn κ ys lo x/\q+1<=x/\∀ i,x-(q+1)<=i->i<x->KK κ ys (lo+i)=KK κ ys (lo+(x-1)))
  (fun x c t R O I=>?_) (fun c t I=>?_) ⟨0,J7 z,rfl,rfl,f,Sm.refl _,r,N,one _ _⟩
 ·obtain⟨q,ys,G,v,b,h,d,u,l⟩:=I;subst G v;dsimp only
  have J:lo+x<src.size:=by lia
  have sz:lo+x<=ys.size:=by have:=b.len;show lo+x<=(J7 (ZR z ys)).size;lia
  have g:lo+x-1=lo+(x-1):=by lia
  refine Qx (rG L b all J (by lia) ?_)
  show wpS _ _ _ _ (if κ.blt (KK κ ys (lo+x)) (KK κ ys (lo+x-1))=true then _ else _) _ _
  rw [g]
  cases B:κ.blt (KK κ ys (lo+x)) (KK κ ys (lo+(x-1)))with
  | true=>
   simp only [if_true]
   have more:∀ F:Array Zl,(∀ m,KK κ F m=KK κ ys m)->Dn κ F lo (x+1):=fun F a i j le lt=>by
    rw [a,a];rcases JM j x with p | p
    ·exact d i j le p
    ·obtain rfl:j=x:=Vc (JF lt) p
     rcases YN le with y | y
     ·subst y;exact Yu _
     ·exact Yf (YV B) (d i (j-1) (by lia) (by lia))
   by_cases o:q > 0
   ·rw [if_pos o]
    have H:∀ m,lo+x-(q+1)<=m->m<lo+x->KK κ ys m=KK κ ys (lo+x-1):=fun m p y=>by
     have:=l (m-lo) (by lia) (by lia)
     rw [show lo+(m-lo)=m by lia]at this;rw [this,g]
    refine Qx (wpS_reverse (QE ⟨0,_,rfl,rfl,b.re (mirror_perm _ _ _ _),h.trans (xQ sz (by lia)),more _ (JW sz H),Nat.succ_le_succ (Q2 _),one _ _⟩))
   ·rw [if_neg o];exact QE ⟨0,ys,rfl,rfl,b,h,more _ fun _=>rfl,Nat.succ_le_succ (Q2 _),one _ _⟩
  | false=>
   simp only [Qm,if_false];refine Qx (rG L b all (by lia) J ?_)
   show wpS _ _ _ _ (if κ.blt (KK κ ys (lo+(x-1))) (KK κ ys (lo+x))=true then _ else _) _ _
   cases o:κ.blt (KK κ ys (lo+(x-1))) (KK κ ys (lo+x))with
   | true=>simp only [if_true];exact QE (k x q ys b h R (YJ O) d u l)
   | false=>
    simp only [Qm,if_false];have a:KK κ ys (lo+x)=KK κ ys (lo+(x-1)):=KeyOrd.kle_antisymm o B;refine QE ⟨q+1,ys,rfl,rfl,b,h,fun i j le lt=>?_,by lia,fun i p y=>?_⟩
    ·rcases JM j x with g | g
     ·exact d i j le g
     ·obtain rfl:j=x:=by lia
      rcases YN le with K | K
      ·subst K;exact Yu _
      ·rw [a];exact d i (j-1) (by lia) (by lia)
    ·show KK κ ys (lo+i)=KK κ ys (lo+x)
     rcases JM i x with g | g
     ·rw [a];exact l i (by lia) g
     ·have:i=x:=by lia
      rw [this]
 ·obtain⟨q,ys,G,v,b,h,d,u,l⟩:=I
  have e:max n top=top:=by lia
  rw [e]at v d u l;subst v G;exact k top q ys b h M (Qk _) d u l
end
section
variable {prog:J5}{w:J6}{A:Around}{E:JZ->J0->Prop}{s:J0}{src:Array Zl}{κ:KeyKind}{kd:Z1}{lo:Nat}
theorem IL(L:fZ prog w A s κ kd)(all:KeysOf κ src)(f:Ft src kd z)(B:n+1<=top)(g:lo+top<=src.size)(r:Dn κ (J7 z) lo (n+1))
  (k:∀ m ys,Ft src kd (ZR z ys)->Sm κ lo (J7 z) ys->1<=m->m<=top->Up κ ys lo m->Q (some m) (ZR z ys)):wpS (J4 prog w) A E s (dP lo n top) Q z:=by
 unfold dP;refine Qx (Vw (Jg ⟨rfl,Qx (RT L all f (Nat.le_add_left 1 n) B g r fun m q ys l u G x v F y=>?_)⟩))
 have sz:lo+m<=ys.size:=by have:=l.len;show lo+m<=(J7 (ZR z ys)).size;lia
 dsimp only;by_cases c:q > 0
 ·rw [if_pos c]
  have b:∀ i,lo+m-(q+1)<=i->i<lo+m->KK κ ys i=KK κ ys (lo+m-1):=fun i I H=>by
   have:=y (i-lo) (by lia) (by lia)
   rw [show lo+(i-lo)=i by lia]at this;rw [this,show lo+m-1=lo+(m-1) by lia]
  refine Qx (wpS_reverse (Ls L all (l.re (mirror_perm _ _ _ _)) (by lia) x g (fun i j le lt=>?_) fun e d h a t p o=>k e d h ((u.trans (xQ sz (by lia))).trans a) t p o))
  show κ.kle (KK κ (mirror ys (lo+m-(q+1)) (lo+m) ((lo+m-(lo+m-(q+1))) / 2)) (lo+j)) (KK κ (mirror ys (lo+m-(q+1)) (lo+m) ((lo+m-(lo+m-(q+1))) / 2)) (lo+i))
  rw [JW sz b,JW sz b];exact v i j le lt
 ·rw [if_neg c];exact Ls L all l (by lia) x g v fun e d h a t p o=>k e d h (u.trans a) t p o
theorem Oj(L:fZ prog w A s κ kd)(all:KeysOf κ src)(f:Ft src kd z)(B:1<=top)(p:lo+top<=src.size)
  (k:∀ m ys,Ft src kd (ZR z ys)->Sm κ lo (J7 z) ys->1<=m->m<=top->Up κ ys lo m->Q (some m) (ZR z ys)):wpS (J4 prog w) A E s (countRun' lo top) Q z:=by
 have y:Up κ (J7 z) lo 1:=fun i j le lt=>by
  obtain rfl:i=j:=by lia
  exact Yu _
 rw [Mp];refine Qx (D3 L all f (Qk 1) B p y fun n t r g F=>?_);dsimp only;by_cases c:n=top
 ·rw [if_pos (beq_iff_eq.mpr c)];exact QE (k n (J7 z) f (Sm.refl _) t r g)
 ·rw [if_neg (fun h=>c (beq_iff_eq.mp h))];have a:=F.resolve_left c
  have q:lo+n-1=lo+(n-1):=by lia
  rw [q]at a;by_cases v:n > 1
  ·rw [if_pos v];refine Qx (rG L f all (by lia) (by lia) ?_);dsimp only;rw [q]
   cases I:κ.blt (KK κ (J7 z) lo) (KK κ (J7 z) (lo+(n-1)))with
   | true=>simp only [if_true];exact QE (k n (J7 z) f (Sm.refl _) t r g)
   | false=>
    simp only [Qm,if_false]
    have sz:lo+n<=(J7 z).size:=by rw [f.len];lia
    have l:∀ m,m<n->KK κ (J7 z) (lo+m)=KK κ (J7 z) (lo+(n-1)):=fun m lt=>
     KeyOrd.kle_antisymm (g m (n-1) (by lia) (by lia)) (Yf I (g 0 m (Q2 _) lt))
    have e:∀ m,lo<=m->m<lo+n->KK κ (J7 z) m=KK κ (J7 z) (lo+n-1):=fun m u b=>by
     have:=l (m-lo) (by lia)
     rw [show lo+(m-lo)=m by lia]at this;rw [this,q]
    refine Qx (wpS_reverse (IL L all (f.re (mirror_perm _ _ _ _)) (by lia) p (fun i j le lt=>?_) fun m x G o u b H=>k m x G ((xQ sz (Qk _)).trans o) u b H))
    show κ.kle (KK κ (mirror (J7 z) lo (lo+n) ((lo+n-lo) / 2)) (lo+j)) (KK κ (mirror (J7 z) lo (lo+n) ((lo+n-lo) / 2)) (lo+i))
    rw [JW sz e,JW sz e];rcases JM j n with d | d
    ·rw [l i (by lia),l j d];exact Yu _
    ·obtain rfl:j=n:=by lia
     rcases YN le with b | b
     ·subst b;exact Yu _
     ·rw [l i b];exact YV a
  ·rw [if_neg v]
   obtain rfl:n=1:=by lia
   refine IL L all f (by lia) p (fun i j le lt=>?_) k;rcases YN le with b | b
   ·subst b;exact Yu _
   ·obtain rfl:i=0:=by lia
    obtain rfl:j=1:=by lia
    exact YV a
theorem MY{n ok:Nat}(L:fZ prog w A s κ kd)(all:KeysOf κ src)(f:Ft src kd z)(h1:ok<=n)(h3:lo+n<=src.size)(r:Up κ (J7 z) lo ok)
  (k:∀ ys,Ft src kd (ZR z ys)->Sm κ lo (J7 z) ys->Up κ ys lo n->Q true (ZR z ys)):wpS (J4 prog w) A E s (binarySort' lo n ok) Q z:=by
 rw [binarySort'_eq]
 have R:Up κ (J7 z) lo (min (max ok 1) n):=fun i j le lt=>by
  rcases YN le with c | c
  ·subst c;exact Yu _
  ·exact r i j le (by lia)
 refine Qx (Jq (Yw (fun m c o=>∃ ys,o=ZR z ys/\c=(none,())/\Ft src kd o/\Sm κ lo (J7 z) ys/\Up κ ys lo (min m n)) (Q:=fun c o=>∃ ys,o=ZR z ys/\c=(none,())/\Ft src kd o/\Sm κ lo (J7 z) ys/\Up κ ys lo n)
  (fun m c o g1 g2 J=>?_) (fun c o J=>?_) ⟨J7 z,rfl,rfl,f,Sm.refl _,R⟩) fun c o W=>?_)
 ·obtain⟨ys,b,g,u,F,a⟩:=J;subst b g
  have Y:min m n=m:=by lia
  rw [Y]at a
  have T:lo+m<src.size:=by lia
  refine Qx (Jq (Yw (fun t c v=>v=ZR z ys/\∃ l h,c=(none,l,h)/\l<=h/\h<=m/\h+t<=m+l/\(∀ i,i<l->κ.kle (KK κ ys (lo+i)) (KK κ ys (lo+m))) /\
    ∀ i,h<=i->i<m->κ.klt (KK κ ys (lo+m)) (KK κ ys (lo+i)))
   (Q:=fun c v=>v=ZR z ys/\∃ l h,c=(none,l,h)/\l<=m/\(∀ i,i<l->κ.kle (KK κ ys (lo+i)) (KK κ ys (lo+m)))/\∀ i,l<=i->i<m->κ.klt (KK κ ys (lo+m)) (KK κ ys (lo+i)))
   (fun t c v _ lt G=>?_) (fun c v G=>?_) ⟨rfl,0,m,rfl,Q2 _,Qk _,by lia,fun i c=>absurd c (Yx _),fun i N p=>absurd p (Nat.not_lt.mpr N)⟩) fun c v G=>?_)
  ·obtain⟨b,l,h,g,N,p,O,B,y⟩:=G;subst b g;dsimp only;by_cases d:l >= h
   ·rw [if_pos d]
    obtain rfl:l=h:=by lia
    exact QE ⟨rfl,l,l,rfl,p,B,y⟩
   ·rw [if_neg d]
    have I:l<=(l+h) / 2/\(l+h) / 2<h:=by clear p O;lia
    generalize (l+h) / 2=x at I ⊢;refine Qx (rG L u all T (by lia) ?_)
    show wpS _ _ _ _ (if κ.blt (KK κ ys (lo+m)) (KK κ ys (lo+x))=true then _ else _) _ _
    cases q:κ.blt (KK κ ys (lo+m)) (KK κ ys (lo+x))with
    | true=>
     simp only [if_true];exact QE ⟨rfl,l,x,rfl,I.1,by lia,by lia,B,fun i M K=>KeyOrd.klt_of_klt_of_kle q (a _ _ M K)⟩
    | false=>
     simp only [Qm,if_false];refine QE ⟨rfl,x+1,h,rfl,I.2,p,by lia,fun i M=>?_,y⟩;have S:κ.kle (KK κ ys (lo+x)) (KK κ ys (lo+m)):=q;exact Yf (a i x (JF M) (by lia)) S
  ·obtain⟨b,l,h,g,N,p,O,B,y⟩:=G
   obtain rfl:l=h:=by lia
   exact⟨b,l,l,g,p,B,y⟩
  ·obtain⟨b,l,h,g,p,B,y⟩:=G;subst b g
   show wpS _ _ _ _ (moveDown' (lo+m) (lo+l) >>= fun _=>pure (ZK (none,()))) _ _
   rw [moveDown'_eq]
   have X:lo+m<ys.size:=by have:=u.len;show lo+m<(J7 (ZR z ys)).size;lia
   have Z:lo+m-(lo+m-(lo+l))=lo+l:=by lia
   have H:∀ i,KK κ (bubble ys (lo+m) (lo+m-(lo+l))) i=if i=lo+l then KK κ ys (lo+m)else if lo+l<i/\i<=lo+m then KK κ ys (i-1)else KK κ ys i:=fun i=>by
    rw [KK_bubble X (by lia),Z]
   refine Qx (JY (QE ⟨_,rfl,rfl,u.re (bubble_perm _ _ _),F.trans fun i hi=>by rw [H,if_neg (by lia),if_neg (by lia)],?_⟩))
   have K:min (m+1) n=m+1:=by lia
   rw [K];intro i j le lt
   show κ.kle (KK κ (bubble ys (lo+m) (lo+m-(lo+l))) (lo+i)) (KK κ (bubble ys (lo+m) (lo+m-(lo+l))) (lo+j))
   rw [H,H]
   by_cases i1:i=l <;> by_cases j1:j=l
   ·rw [if_pos (by lia),if_pos (by lia)];exact Yu _
   ·rw [if_pos (by lia),if_neg (by lia),if_pos ⟨by lia,by lia⟩,show lo+j-1=lo+(j-1) by lia];exact YV (y _ (by lia) (by lia))
   ·rw [if_neg (by lia),if_neg (by lia),if_pos (by lia)];exact B _ (by lia)
   ·rw [if_neg (by lia),if_neg (show ¬ lo+j=lo+l by lia)]
    by_cases i2:l<i/\i<=m <;> by_cases U:l<j/\j<=m
    ·rw [if_pos ⟨by lia,by lia⟩,if_pos ⟨by lia,by lia⟩,show lo+i-1=lo+(i-1) by lia,show lo+j-1=lo+(j-1) by lia];exact a _ _ (by lia) (by lia)
    ·exact absurd ⟨by lia,by lia⟩ U
    ·rw [if_neg (by lia),if_pos ⟨by lia,by lia⟩,show lo+j-1=lo+(j-1) by lia];exact a _ _ (by lia) (by lia)
    ·rw [if_neg (by lia),if_neg (by lia)];exact a _ _ le (by lia)
 ·obtain⟨ys,b,g,u,F,a⟩:=J
  have e:min (max (max ok 1) n) n=n:=by lia
  rw [e]at a
  exact⟨ys,b,g,u,F,a⟩
 ·obtain⟨ys,b,g,u,F,a⟩:=W;subst g b;exact QE (k ys u F a)
end
def gal:Bool->Zl->Array Zl->Nat->Nat->Nat->StateT ZG Sem (Option Nat):=sortPriv% PySem.Builtin.gallop
def oK(left:Bool)(key:Zl)(a:Array Zl)(base i:Nat):StateT ZG Sem (Option Bool):=elem' a (base+i) >>= fun x=>if left=true then lt' x key else lt' key x >>= fun r=>pure (r.map (!·))
def oM(left:Bool)(key:Zl)(a:Array Zl)(base n b d:Nat):StateT ZG Sem (Option Nat):=
 forIn [0:n] ((none,b,d):Option (Option Nat) × Nat × Nat) (fun _ c=>if c.snd.fst >= c.snd.snd then pure (.done (none,c.snd.fst,c.snd.snd))else oK left key a base (c.snd.fst+(c.snd.snd-c.snd.fst) / 2) >>= fun x=>match x with
  | some m=>if m=true then pure (.yield (none,c.snd.fst+(c.snd.snd-c.snd.fst) / 2+1,c.snd.snd))else pure (.yield (none,c.snd.fst,c.snd.fst+(c.snd.snd-c.snd.fst) / 2))
  | _=>pure (.done (some none,c.snd.fst,c.snd.snd))) >>= fun c=>match c.fst with
  | some r=>pure r
  | none=>pure (some c.snd.snd)
def bB(κ:KeyKind)(left:Bool)(kk:κ.α)(a:Array Zl)(base i:Nat):Bool:=if left=true then κ.blt (KK κ a (base+i)) kk else !κ.blt kk (KK κ a (base+i))
def Ks(κ:KeyKind)(b:Array Zl)(base n:Nat):Prop:=∀ i,i<n->∃ p a,b[base+i]?=some p/\κ.keyOf p.1=some a/\KK κ b (base+i)=a
section
variable {prog:J5}{w:J6}{A:Around}{E:JZ->J0->Prop}{s:J0}{κ:KeyKind}{kd:Z1}{left:Bool}{key:Zl}{kk:κ.α}{arr:Array Zl}{base n:Nat}{z:ZG}
theorem pG(u:Up κ arr base n)(le:i<=j)(lt:j<n)(h:bB κ left kk arr base j=true):bB κ left kk arr base i=true:=by
 have q:=u i j le lt;unfold bB at h ⊢
 cases left with
 | true=>exact KeyOrd.klt_of_kle_of_klt q h
 | false=>
  simp only [Qm,if_false,Yh]at h ⊢;exact Yf q h
variable (L:fZ prog w A s κ kd)(hz:kindOf z=kd)(hk:κ.keyOf key.1=some kk)(ks:Ks κ arr base n)
include L hz hk ks
theorem v8(c:i<n)(k:Q (some (bB κ left kk arr base i)) z):wpS (J4 prog w) A E s (oK left key arr base i) Q z:=by
 obtain⟨p,a,e,b,d⟩:=ks i c;unfold oK;refine Qx (dU e ?_);unfold bB at k;rw [d]at k
 cases left with
 | true=>rw [if_pos rfl]at k ⊢;exact rF L hz b hk k
 | false=>
  rw [if_neg QB]at k ⊢;exact Qx (rF L hz hk b (QE k))
theorem EB{j e:Nat}(u:Up κ arr base n)(G:j<=e)(F:e<=n)(b1:∀ i,i<j->bB κ left kk arr base i=true)(K:∀ i,e<=i->i<n->bB κ left kk arr base i=false)
  (k:∀ t,t<=n->(∀ i,i<t->bB κ left kk arr base i=true)->(∀ i,t<=i->i<n->bB κ left kk arr base i=false)->Q (some t) z):wpS (J4 prog w) A E s (oM left key arr base n j e) Q z:=by
 unfold oM
 refine Qx (Jq (Yw (fun t c b=>b=z/\∃ l h,c=(none,l,h)/\l<=h/\h<=n/\h+t<=n+l/\(∀ i,i<l->bB κ left kk arr base i=true)/\∀ i,h<=i->i<n->bB κ left kk arr base i=false)
  (Q:=fun c b=>b=z/\∃ l,c=(none,l,l)/\l<=n/\(∀ i,i<l->bB κ left kk arr base i=true)/\∀ i,l<=i->i<n->bB κ left kk arr base i=false)
  (fun t c b _ lt r=>?_) (fun c b r=>?_) ⟨rfl,j,e,rfl,G,F,by lia,b1,K⟩) fun c b B=>?_)
 ·obtain⟨rfl,l,h,rfl,J,a,v,g,f⟩:=r;dsimp only;by_cases d:l >= h
  ·rw [if_pos d]
   obtain rfl:l=h:=by lia
   exact QE ⟨rfl,l,rfl,a,g,f⟩
  ·rw [if_neg d]
   have p:l<=l+(h-l) / 2/\l+(h-l) / 2<h:=by clear a v;lia
   generalize l+(h-l) / 2=m at p ⊢;refine Qx (v8 L hz hk ks (by lia) ?_);dsimp only
   cases q:bB κ left kk arr base m with
   | true=>
    simp only [if_true];exact QE ⟨rfl,m+1,h,rfl,p.2,a,by lia,fun i e=>pG u (by lia) (by lia) q,f⟩
   | false=>
    simp only [Qm,if_false];refine QE ⟨rfl,l,m,rfl,p.1,by lia,by lia,g,fun i I H=>?_⟩
    cases x:bB κ left kk arr base i with
    | false=>rfl
    | true=>rw [pG u I H x]at q;cases q
 ·obtain⟨o,l,h,y,J,a,v,g,f⟩:=r
  have:max 0 n=n:=by lia
  rw [this]at v
  obtain rfl:l=h:=by lia
  exact⟨o,l,y,a,g,f⟩
 ·obtain⟨rfl,l,rfl,a,g,f⟩:=B;exact QE (k l a g f)
theorem qA(u:Up κ arr base n)(p:hint<n)
  (k:∀ t,t<=n->(∀ i,i<t->bB κ left kk arr base i=true)->(∀ i,t<=i->i<n->bB κ left kk arr base i=false)->Q (some t) z):wpS (J4 prog w) A E s (gal left key arr base n hint) Q z:=by
 unfold gal
 show wpS _ _ _ _ (oK left key arr base hint >>= _) Q z
 refine Qx (v8 L hz hk ks p ?_);dsimp only
 cases I:bB κ left kk arr base hint with
 | true=>
  simp only [if_true]
  refine Qx (Jq (Yw (fun t c e=>e=z/\∃ b a,c=(none,b,a)/\t<a/\b<a/\hint+b<n/\bB κ left kk arr base (hint+b)=true)
   (Q:=fun c e=>e=z/\∃ b a,c=(none,b,a)/\b<a/\hint+b<n/\bB κ left kk arr base (hint+b)=true/\(hint+a<n->bB κ left kk arr base (hint+a)=false))
   (fun t c e _ lt v=>?_) (fun c e v=>?_) ⟨rfl,0,1,rfl,by lia,by lia,by lia,I⟩) fun c e B=>?_)
  ·obtain⟨rfl,b,a,rfl,H,j,g,f⟩:=v;dsimp only;by_cases d:a >= n-hint
   ·rw [if_pos d];exact QE ⟨rfl,b,a,rfl,j,g,f,fun h=>by lia⟩
   ·rw [if_neg d]
    show wpS _ _ _ _ (oK left key arr base (hint+a) >>= _) _ _
    refine Qx (v8 L hz hk ks (by lia) ?_);dsimp only
    cases q:bB κ left kk arr base (hint+a)with
    | true=>
     simp only [Ys,Qm,if_false];exact QE ⟨rfl,a,2 * a+1,rfl,by lia,by lia,by lia,q⟩
    | false=>
     simp only [UF,if_true];exact QE ⟨rfl,b,a,rfl,j,g,f,fun _=>q⟩
  ·obtain⟨o,b,a,y,H,j,g,f⟩:=v
   exact⟨o,b,a,y,j,g,f,fun h=>by lia⟩
  ·obtain⟨rfl,b,a,rfl,j,g,f,x⟩:=B;dsimp only
   suffices p:wpS (J4 prog w) A E s (oM left key arr base n (hint+b+1) (hint+min a (n-hint))) Q e by
    unfold oM at p;refine Eq.mp (congrArg (fun m=>wpS (J4 prog w) A E s m Q e) ?_) p;congr 1
    funext c
    obtain⟨r,l,h⟩:=c
    cases r <;> rfl
   refine EB L hz hk ks u (by lia) (by lia) (fun i K=>pG u (by lia) g f) (fun i J G=>?_) k
   cases q:bB κ left kk arr base i with
   | false=>rfl
   | true=>
    have F:hint+a<n:=by lia
    rw [pG u (show hint+a<=i by lia) G q]at x;exact absurd (x F) (by decide)
 | false=>
  simp only [Qm,if_false]
  refine Qx (Jq (Yw (fun t c e=>e=z/\∃ b a,c=(none,b,a)/\t<a/\b<a/\b<=hint/\bB κ left kk arr base (hint-b)=false)
   (Q:=fun c e=>e=z/\∃ b a,c=(none,b,a)/\b<a/\b<=hint/\bB κ left kk arr base (hint-b)=false/\(a<=hint->bB κ left kk arr base (hint-a)=true))
   (fun t c e _ lt v=>?_) (fun c e v=>?_) ⟨rfl,0,1,rfl,by lia,by lia,by lia,I⟩) fun c e B=>?_)
  ·obtain⟨rfl,b,a,rfl,H,j,g,f⟩:=v;dsimp only;by_cases d:a >= hint+1
   ·rw [if_pos d];exact QE ⟨rfl,b,a,rfl,j,g,f,fun h=>by lia⟩
   ·rw [if_neg d]
    show wpS _ _ _ _ (oK left key arr base (hint-a) >>= _) _ _
    refine Qx (v8 L hz hk ks (by lia) ?_);dsimp only
    cases q:bB κ left kk arr base (hint-a)with
    | false=>
     simp only [Qm,if_false];exact QE ⟨rfl,a,2 * a+1,rfl,by lia,by lia,by lia,q⟩
    | true=>
     simp only [if_true];exact QE ⟨rfl,b,a,rfl,j,g,f,fun _=>q⟩
  ·obtain⟨o,b,a,y,H,j,g,f⟩:=v
   exact⟨o,b,a,y,j,g,f,fun h=>by lia⟩
  ·obtain⟨rfl,b,a,rfl,j,g,f,x⟩:=B;dsimp only
   suffices p:wpS (J4 prog w) A E s (oM left key arr base n (hint+1-min a (hint+1)) (hint-b)) Q e by
    unfold oM at p;refine Eq.mp (congrArg (fun m=>wpS (J4 prog w) A E s m Q e) ?_) p;congr 1
    funext c
    obtain⟨r,l,h⟩:=c
    cases r <;> rfl
   refine EB L hz hk ks u (by lia) (by lia) (fun i K=>?_) (fun i J G=>?_) k
   ·have F:a<=hint:=by lia
    exact pG u (by lia) (by lia) (x F)
   ·cases q:bB κ left kk arr base i with
    | false=>rfl
    | true=>rw [pG u J G q]at f;cases f
end
def kO(κ:KeyKind)(p:Zl):κ.α:=(κ.keyOf p.1).getD κ.dflt
def Rk(κ:KeyKind)(p q:Zl):Prop:=κ.kle (kO κ p) (kO κ q)
structure ML(κ:KeyKind)(T O A B:List Zl):Prop where
 pm:(O++(A++B)).Perm T
 so:O.Pairwise (Rk κ)
 sa:A.Pairwise (Rk κ)
 sb:B.Pairwise (Rk κ)
 oa:∀ p∈O,∀ q∈A,Rk κ p q
 ob:∀ p∈O,∀ q∈B,Rk κ p q
structure MR(κ:KeyKind)(T O A B:List Zl):Prop where
 pm:((A++B)++O).Perm T
 so:O.Pairwise (Rk κ)
 sa:A.Pairwise (Rk κ)
 sb:B.Pairwise (Rk κ)
 oa:∀ p∈O,∀ q∈A,Rk κ q p
 ob:∀ p∈O,∀ q∈B,Rk κ q p
structure Mg(κ:KeyKind)(T O:List Zl):Prop where
 pm:O.Perm T
 so:O.Pairwise (Rk κ)
variable {κ:KeyKind}{T O A B X:List Zl}{x:Zl}
theorem ML.swp(m:ML κ T O A B):ML κ T O B A:=⟨(List.perm_append_comm.append_left O).trans m.pm,m.so,m.sb,m.sa,m.ob,m.oa⟩
theorem MR.swp(m:MR κ T O A B):MR κ T O B A:=⟨(List.perm_append_comm.append_right O).trans m.pm,m.so,m.sb,m.sa,m.ob,m.oa⟩
theorem ML.mv(m:ML κ T O (X++A) B)(h:∀ p∈X,∀ q∈B,Rk κ p q):ML κ T (O++X) A B:=by
 obtain⟨f,d,c⟩:=Ya.mp m.sa
 refine⟨by have:=m.pm;simp only [QD]at this ⊢;exact this,Ya.mpr ⟨m.so,f,fun p b q a=>m.oa p b q (QL _ a)⟩,d,m.sb,fun p b q a=>?_,fun p b q a=>?_⟩
 ·rcases QA.mp b with e | e
  ·exact m.oa p e q (Qw _ a)
  ·exact c p e q a
 ·rcases QA.mp b with e | e
  ·exact m.ob p e q a
  ·exact h p e q a
theorem MR.mv(m:MR κ T O A (B++X))(h:∀ p∈X,∀ q∈A,Rk κ q p):MR κ T (X++O) A B:=by
 obtain⟨f,d,c⟩:=Ya.mp m.sb
 refine⟨by have:=m.pm;simp only [QD]at this ⊢;exact this,Ya.mpr ⟨d,m.so,fun p b q a=>m.ob q a p (Qw _ b)⟩,m.sa,f,fun p b q a=>?_,fun p b q a=>?_⟩
 ·rcases QA.mp b with e | e
  ·exact h p e q a
  ·exact m.oa p e q a
 ·rcases QA.mp b with e | e
  ·exact c q a p e
  ·exact m.ob p e q (QL _ a)
theorem ML.endB(m:ML κ T O A []):Mg κ T (O++A):=⟨by have:=m.pm;rwa [QP]at this,Ya.mpr ⟨m.so,m.sa,m.oa⟩⟩
theorem MR.endB(m:MR κ T O A []):Mg κ T (A++O):=⟨by have:=m.pm;rwa [QP]at this,Ya.mpr ⟨m.sa,m.so,fun p b q a=>m.oa q a p b⟩⟩
theorem ML.lastA(m:ML κ T O A B)(h:∀ p∈A,∀ q∈B,Rk κ q p):Mg κ T (O++B++A):=
 (ML.endB ((ML.mv (X:=B) (A:=[]) (B:=A) (by rw [QP];exact m.swp) fun p b q a=>h q a p b).swp))
theorem MR.lastB(m:MR κ T O A B)(h:∀ p∈B,∀ q∈A,Rk κ p q):Mg κ T (B++(A++O)):=
 MR.endB (MR.mv (X:=A) (B:=[]) (A:=B) (by rw [YK];exact m.swp) fun p b q a=>h q a p b)
theorem nJ(h:a[i]?=some p):KK κ a i=kO κ p:=by unfold KK;rw [h];rfl
theorem yI(h:p∈a.toList.drop i):∃ j,i+j<a.size/\KK κ a (i+j)=kO κ p:=by
 obtain⟨j,b,e⟩:=JK.mp h;rw [Yk,Qh]at b;rw [List.getElem_drop]at e
 refine⟨j,by lia,nJ ?_⟩
 rw [QC (by lia),<- e];rfl
theorem yL(h:p∈a.toList.take i):∃ j,j<i/\j<a.size/\KK κ a j=kO κ p:=by
 obtain⟨j,b,e⟩:=JK.mp h;rw [QQ,Qh]at b;rw [List.getElem_take]at e
 refine⟨j,by lia,by lia,nJ ?_⟩
 rw [QC (by lia),<- e];rfl
theorem nH(a:Array Zl)(i j:Nat):(a.extract i j).toList=(a.toList.drop i).take (j-i):=by simp [List.extract]
theorem yK(h:p∈(a.extract i j).toList):∃ k,i<=k/\k<j/\k<a.size/\KK κ a k=kO κ p:=by
 rw [nH]at h;obtain⟨k,b,e⟩:=JK.mp h;rw [QQ,Yk,Qh]at b;rw [List.getElem_take,List.getElem_drop]at e
 refine⟨i+k,by lia,by lia,by lia,nJ ?_⟩
 rw [QC (by lia),<- e];rfl
theorem KT(a:Array Zl)(i k:Nat):a.toList.drop i=(a.extract i (i+k)).toList++a.toList.drop (i+k):=by
 rw [nH,YS,<- List.drop_drop,QZ]
theorem KU(a:Array Zl)(h:i<=n):a.toList.take n=a.toList.take i++(a.extract i n).toList:=by
 rw [nH]
 conv=>lhs;rw [show n=i+(n-i) by lia,List.take_add]
theorem GE{a:Array Zl}{i:Nat}{p:Zl}(h:a[i]?=some p):(a.extract i (i+1)).toList=[p]:=by
 rw [nH,YS]
 have:a.toList[i]?=some p:=by rw [QI];exact h
 obtain⟨b,e⟩:=Qc.mp this;rw [Yc b,e];rfl
theorem Gs{a:Array Zl}{i:Nat}(h:a.size<=i):a.toList.drop i=[]:=YW (by rw [Qh];exact h)
theorem xZ(a:Array Zl)(i:Nat):(a.extract i a.size).toList=a.toList.drop i:=by
 rw [nH,Jz (by rw [Yk,Qh];exact Qk _)]
theorem xY(a:Array Zl)(i:Nat):(a.extract 0 i).toList=a.toList.take i:=by rw [nH];rfl
theorem wQ(u:Up κ a 0 a.size):a.toList.Pairwise (Rk κ):=by
 rw [YE];intro i j c b lt;have q:=u i j (YJ lt) b;rw [Q7,Q7,nJ (p:=a.toList[i]) (by rw [QC c];rfl),nJ (p:=a.toList[j]) (by rw [QC b];rfl)]at q;exact q
theorem Ke(h:a.toList.Pairwise (Rk κ)):Up κ a 0 a.size:=by
 intro i j le lt;rw [Q7,Q7];rcases YN le with e | e
 ·subst e;exact Yu _
 ·have q:=YE.mp h i j (by rw [Qh];lia) (by rw [Qh];exact lt) e;rw [nJ (i:=i) (p:=a.toList[i]'(by rw [Qh];lia)) (by rw [QC (by lia)];rfl),nJ (i:=j) (p:=a.toList[j]'(by rw [Qh];lia)) (by rw [QC (by lia)];rfl)];exact q
def MA(κ:KeyKind)(a b out:Array Zl)(i j:Nat):Prop:=ML κ (a.toList++b.toList) out.toList (a.toList.drop i) (b.toList.drop j)
def MZ(κ:KeyKind)(a b out:Array Zl)(n m:Nat):Prop:=MR κ (a.toList++b.toList) out.reverse.toList (a.toList.take n) (b.toList.take m)
def Md(κ:KeyKind)(a b out:Array Zl):Prop:=Mg κ (a.toList++b.toList) out.toList
section
variable {a b out:Array Zl}{i j:Nat}
theorem MA.nil(d:Up κ a 0 a.size)(c:Up κ b 0 b.size):MA κ a b #[] 0 0:=⟨.refl _,.nil,wQ d,wQ c,(fun _ h=>nomatch h),(fun _ h=>nomatch h)⟩
theorem MZ.nil(d:Up κ a 0 a.size)(c:Up κ b 0 b.size):MZ κ a b #[] a.size b.size:=by
 unfold MZ;rw [<- Qh,<- Qh,JN,JN]
 exact⟨by simp,by simp,wQ d,wQ c,fun _ h=>by simp at h,fun _ h=>by simp at h⟩
theorem MA.mvA(m:MA κ a b out i j)(d:Up κ b 0 b.size)(h:∀ t,i<=t->t<i+k->t<a.size->j<b.size->κ.kle (KK κ a t) (KK κ b j)):MA κ a b (out++a.extract i (i+k)) (i+k) j:=by
 unfold MA at m ⊢;rw [KT a i k]at m;rw [Q5];refine m.mv fun p r q o=>?_;obtain⟨t,n,l,g,e⟩:=yK (κ:=κ) r;obtain⟨v,c,f⟩:=yI (κ:=κ) o;unfold Rk;rw [<- e,<- f];refine Yf (h t n l g (by lia)) ?_
 have:=d j (j+v) (by lia) c
 rwa [Q7,Q7]at this
theorem MA.mvB(m:MA κ a b out i j)(d:Up κ a 0 a.size)(h:∀ t,j<=t->t<j+k->t<b.size->i<a.size->κ.kle (KK κ b t) (KK κ a i)):MA κ a b (out++b.extract j (j+k)) i (j+k):=by
 unfold MA at m ⊢;rw [KT b j k]at m;rw [Q5]
 refine(m.swp.mv fun p r q o=>?_).swp
 obtain⟨t,n,l,g,e⟩:=yK (κ:=κ) r;obtain⟨v,c,f⟩:=yI (κ:=κ) o;unfold Rk;rw [<- e,<- f];refine Yf (h t n l g (by lia)) ?_
 have:=d i (i+v) (by lia) c
 rwa [Q7,Q7]at this
theorem Kb{p:Zl}(h:a[i]?=some p):out.push p=out++a.extract i (i+1):=by
 apply Array.toList_inj.mp;rw [Q5,GE h,JG]
theorem MA.a1(m:MA κ a b out i j)(c:Up κ b 0 b.size)(e:a[i]?=some p)(h:j<b.size->κ.kle (KK κ a i) (KK κ b j)):MA κ a b (out.push p) (i+1) j:=by
 rw [Kb e]
 exact m.mvA c fun t g f _ d=>by
  obtain rfl:t=i:=by lia
  exact h d
theorem MA.b1(m:MA κ a b out i j)(c:Up κ a 0 a.size)(e:b[j]?=some p)(h:i<a.size->κ.kle (KK κ b j) (KK κ a i)):MA κ a b (out.push p) i (j+1):=by
 rw [Kb e]
 exact m.mvB c fun t g f _ d=>by
  obtain rfl:t=j:=by lia
  exact h d
theorem MA.done(m:MA κ a b out i j)(h:a.size<=i ∨ b.size<=j):Md κ a b (out++a.extract i a.size++b.extract j b.size):=by
 unfold MA at m;unfold Md;rw [Q5,Q5,xZ,xZ];rcases h with h | h
 ·rw [Gs h]at m ⊢;rw [QP];exact m.swp.endB
 ·rw [Gs h]at m ⊢;rw [QP];exact m.endB
theorem MA.last(m:MA κ a b out i j)(h:a.size<=i+1)(k:∀ t,t<b.size->κ.kle (KK κ b t) (KK κ a (a.size-1))):Md κ a b (out++b.extract j b.size++a.extract i a.size):=by
 unfold MA at m;unfold Md;rw [Q5,Q5,xZ,xZ];refine m.lastA fun p g q d=>?_;obtain⟨t,l,e⟩:=yI (κ:=κ) g;obtain⟨v,c,f⟩:=yI (κ:=κ) d;unfold Rk;rw [<- e,<- f,show i+t=a.size-1 by lia];exact k _ c
variable {n m:Nat}
theorem MZ.mvA(q:MZ κ a b out n m)(c:Up κ b 0 b.size)(u:m<=b.size)(o:i<=n)(h:∀ t,i<=t->t<n->t<a.size->0<m->κ.kle (KK κ b (m-1)) (KK κ a t)):MZ κ a b (out++(a.extract i n).reverse) i m:=by
 unfold MZ at q ⊢;rw [KU a o]at q;rw [Array.reverse_append,Array.reverse_reverse,Q5]
 refine(q.swp.mv fun p l q k=>?_).swp
 obtain⟨t,j,g,d,e⟩:=yK (κ:=κ) l;obtain⟨v,s,r,f⟩:=yL (κ:=κ) k;unfold Rk;rw [<- e,<- f];refine Yf ?_ (h t j g d (by lia))
 have:=c v (m-1) (by lia) (by lia)
 rwa [Q7,Q7]at this
theorem MZ.mvB(q:MZ κ a b out n m)(c:Up κ a 0 a.size)(u:n<=a.size)(o:i<=m)(h:∀ t,i<=t->t<m->t<b.size->0<n->κ.kle (KK κ a (n-1)) (KK κ b t)):MZ κ a b (out++(b.extract i m).reverse) n i:=by
 unfold MZ at q ⊢;rw [KU b o]at q;rw [Array.reverse_append,Array.reverse_reverse,Q5]
 refine(q.mv fun p l q k=>?_)
 obtain⟨t,j,g,d,e⟩:=yK (κ:=κ) l;obtain⟨v,s,r,f⟩:=yL (κ:=κ) k;unfold Rk;rw [<- e,<- f];refine Yf ?_ (h t j g d (by lia))
 have:=c v (n-1) (by lia) (by lia)
 rwa [Q7,Q7]at this
theorem Kc{p:Zl}(h:a[i]?=some p):out.push p=out++(a.extract i (i+1)).reverse:=by
 apply Array.toList_inj.mp;rw [Q5,Array.toList_reverse,GE h,JG];rfl
theorem MZ.a1(q:MZ κ a b out n m)(c:Up κ b 0 b.size)(d:m<=b.size)(k:0<n)(e:a[n-1]?=some p)(h:0<m->κ.kle (KK κ b (m-1)) (KK κ a (n-1))):MZ κ a b (out.push p) (n-1) m:=by
 rw [Kc e]
 have g:n-1+1=n:=by lia
 rw [g]
 exact q.mvA c d (by lia) fun t j i _ f=>by
  obtain rfl:t=n-1:=by lia
  exact h f
theorem MZ.b1(q:MZ κ a b out n m)(c:Up κ a 0 a.size)(d:n<=a.size)(k:0<m)(e:b[m-1]?=some p)(h:0<n->κ.kle (KK κ a (n-1)) (KK κ b (m-1))):MZ κ a b (out.push p) n (m-1):=by
 rw [Kc e]
 have g:m-1+1=m:=by lia
 rw [g]
 exact q.mvB c d (by lia) fun t j i _ f=>by
  obtain rfl:t=m-1:=by lia
  exact h f
theorem MZ.done(q:MZ κ a b out n m)(h:n=0 ∨ m=0):Md κ a b (a.extract 0 n++b.extract 0 m++out.reverse):=by
 unfold MZ at q;unfold Md;rw [Q5,Q5,xY,xY];rcases h with h | h
 ·subst h;exact q.swp.endB
 ·subst h;rw [List.take_zero]at q ⊢;rw [QP];exact q.endB
theorem MZ.last(q:MZ κ a b out n m)(h:m<=1)(i:∀ t,t<a.size->κ.kle (KK κ b 0) (KK κ a t)):Md κ a b (b.extract 0 m++a.extract 0 n++out.reverse):=by
 unfold MZ at q;unfold Md;rw [Q5,Q5,xY,xY,QD];refine q.lastB fun p g q d=>?_;obtain⟨t,l,k,e⟩:=yL (κ:=κ) g;obtain⟨v,j,c,f⟩:=yL (κ:=κ) d;unfold Rk;rw [<- e,<- f,show t=0 by lia];exact i _ c
end
end TS
namespace TS
open SG
def DH:Array Zl->Array Zl->StateT ZG Sem (Array Zl):=sortPriv% PySem.Builtin.mergeLo
def DF:Array Zl->Array Zl->StateT ZG Sem (Array Zl):=sortPriv% PySem.Builtin.mergeHi
def sG:Nat->StateT ZG Sem Unit:=sortPriv% PySem.Builtin.setMinGallop
abbrev IB(st:ZG)(g:Nat):ZG:=SortSt.mk' (kindOf st) (J7 st) (Zn st) g (Uk st)
structure Zq(z y:ZG):Prop where
 kd:kindOf y=kindOf z
 ar:J7 y=J7 z
 pe:Zn y=Zn z
 fa:Uk y=Uk z
theorem Zq.rfl:Zq z z:=⟨.refl _,.refl _,.refl _,.refl _⟩
theorem Zq.gal(q:Zq z y)(g:Nat):Zq z (IB y g):=⟨q.kd,q.ar,q.pe,q.fa⟩
section
variable {prog:J5}{w:J6}{A:Around}{E:JZ->J0->Prop}{s:J0}{κ:KeyKind}{kd:Z1}
theorem vJ(k:Q () (IB z g)):wpS (J4 prog w) A E s (sG g) Q z:=by
 unfold sG;exact JY k
theorem bW{a:Type}{p:Prop}[Decidable p]{m n:StateT ZG Sem a}{z:ZG}{Q:a->ZG->Prop}(d:p->wpS (J4 prog w) A E s m Q z)(b:¬p->wpS (J4 prog w) A E s n Q z):wpS (J4 prog w) A E s (if p then m else n) Q z:=by
 by_cases c:p
 ·rw [if_pos c];exact d c
 ·rw [if_neg c];exact b c
theorem iJ(c:KeysOf κ a)(h:i<a.size):∃ p x,a[i]?=some p/\κ.keyOf p.1=some x/\KK κ a i=x:=by
 obtain⟨x,b⟩:=c a[i] (by simp)
 refine⟨a[i],x,getElem?_pos a i h,b,?_⟩
 unfold KK;rw [getElem?_pos a i h];simp [b]
theorem qD(b:KeysOf κ a)(h:i+n<=a.size):Ks κ a i n:=fun j c=>iJ b (by lia)
theorem wP(u:Up κ a 0 a.size)(h:i+n<=a.size):Up κ a i n:=fun x y le lt=>by
 have:=u (i+x) (i+y) (by lia) (by lia)
 rwa [Q7,Q7]at this
theorem v5(h:bB κ false kk arr base i=true):κ.kle (KK κ arr (base+i)) kk:=by
 unfold bB at h;rw [if_neg QB,Yh]at h;exact h
theorem Bi(h:bB κ false kk arr base i=false):κ.kle kk (KK κ arr (base+i)):=by
 unfold bB at h;rw [if_neg QB,Uu]at h;exact YV h
theorem v6(h:bB κ true kk arr base i=true):κ.kle (KK κ arr (base+i)) kk:=by
 unfold bB at h;rw [if_pos rfl]at h;exact YV h
theorem v7(h:bB κ true kk arr base i=false):κ.kle kk (KK κ arr (base+i)):=by
 unfold bB at h;rw [if_pos rfl]at h;exact h
variable {a b:Array Zl}{z:ZG}
theorem Ni(L:fZ prog w A s κ kd)(hz:kindOf z=kd)(ka:KeysOf κ a)(kb:KeysOf κ b)(U:Up κ a 0 a.size)(T:Up κ b 0 b.size)(ha:0<a.size)(hb:0<b.size)
  (h1:κ.kle (KK κ b 0) (KK κ a 0)) (h2:∀ t,t<b.size->κ.kle (KK κ b t) (KK κ a (a.size-1))) (k:∀ out y,Md κ a b out->Zq z y->Q out y):wpS (J4 prog w) A E s (DH a b) Q z:=by
 unfold DH
 show wpS _ _ _ _ (_ >>= _) Q z
 refine Qx (Vw (Jg ⟨rfl,?_⟩));obtain⟨p0,x0,e0,-,-⟩:=iJ kb hb;refine Qx (dU e0 ?_);dsimp only;have m0:MA κ a b #[p0] 0 1:=(MA.nil U T).b1 U e0 fun _=>h1;refine bW (fun c=>QE (k _ _ (m0.done (Zd (by have:=beq_iff_eq.mp c;lia))) Zq.rfl)) fun H=>?_;refine bW (fun c=>QE (k _ _ (m0.last (by have:=beq_iff_eq.mp c;lia) h2) Zq.rfl)) fun M=>?_
 have J:1<b.size:=by rw [beq_iff_eq]at H;lia
 have g2:0+1<a.size:=by rw [beq_iff_eq]at M;lia
 refine Qx (UW ?_)
 refine Qx (Jq (Yw (fun t c y=>Zq z y/\∃ out i j g,c=(none,out,i,j,g)/\MA κ a b out i j/\i+1<a.size/\j<b.size/\t<i+j)
  (Q:=fun c y=>Zq z y/\∃ r,c.fst=some r/\Md κ a b r)
  (fun t c y _ lt I=>?_) (fun c y I=>?_) ⟨Zq.rfl,#[p0],0,1,_,rfl,m0,g2,J,by lia⟩) fun c y hQ=>?_)
 ·obtain⟨d,out,i,j,g,o,m,f,l,n⟩:=I;subst o;dsimp only;have hy:kindOf y=kd:=d.kd.trans hz;clear m0 H M
  refine Qx (Jq (Yw (fun u c K=>K=y/\∃ out i j F B,c=(none,out,i,j,F,B)/\MA κ a b out i j/\i+1<a.size/\j<b.size/\t<i+j)
   (Q:=fun c K=>K=y/\∃ r out i j F B,c=(r,out,i,j,F,B)/\(∀ v,r=some v->Md κ a b v)/\(r=none->MA κ a b out i j/\i+1<a.size/\j<b.size/\t<i+j))
   (fun u c K _ lt I=>?_) (fun c K I=>?_) ⟨rfl,out,i,j,0,0,rfl,m,f,l,n⟩) fun c K hQ=>?_)
  ·clear m f l n;obtain⟨e,out,i,j,F,B,o,m,f,l,n⟩:=I;subst e o;dsimp only;obtain⟨p,x,S,e2,e3⟩:=iJ kb l;obtain⟨q,x',N,f2,X⟩:=iJ ka (show i<a.size by lia);refine Qx (dU S (Qx (dU N (Qx (rF L hy e2 f2 ?_)))));dsimp only;refine bW (fun c=>?_) fun c=>?_
   ·have O:=m.b1 U S fun _=>by rw [e3,X];exact YV c
    refine Qx (dU S ?_);refine bW (fun c=>QE ⟨rfl,_,_,_,_,_,_,rfl,fun v G=>?_,nofun⟩) fun H=>?_
    ·cases G;exact O.done (Zd (by have:=beq_iff_eq.mp c;lia))
    ·have J:j+1<b.size:=by rw [beq_iff_eq]at H;lia
     exact bW (fun _=>QE ⟨rfl,_,_,_,_,_,_,rfl,nofun,fun _=>⟨O,f,J,by lia⟩⟩) fun _=>QE ⟨rfl,_,_,_,_,_,rfl,O,f,J,by lia⟩
   ·have O:=m.a1 T N fun _=>by rw [e3,X];exact KeyOrd.kle_of_not_klt c
    refine Qx (dU N ?_);refine bW (fun c=>QE ⟨rfl,_,_,_,_,_,_,rfl,fun v G=>?_,nofun⟩) fun H=>?_
    ·cases G;exact O.last (by have:=beq_iff_eq.mp c;lia) h2
    ·have J:i+1+1<a.size:=by rw [beq_iff_eq]at H;lia
     exact bW (fun _=>QE ⟨rfl,_,_,_,_,_,_,rfl,nofun,fun _=>⟨O,J,l,by lia⟩⟩) fun _=>QE ⟨rfl,_,_,_,_,_,rfl,O,J,l,by lia⟩
  ·obtain⟨e,out,i,j,F,B,o,m,f,l,n⟩:=I
   exact⟨e,none,out,i,j,F,B,o,nofun,fun _=>⟨m,f,l,n⟩⟩
  ·clear m f l n;obtain⟨e,r,out,i,j,F,B,o,Z,hn⟩:=hQ;subst e o
   cases r with
   | some r=>exact QE ⟨d,r,rfl,Z r rfl⟩
   | none=>
    dsimp only;obtain⟨m,f,l,n⟩:=hn rfl;refine Qx (Vw (Jg ⟨rfl,?_⟩))
    refine Qx (Jq (Yw (fun u c y=>Zq z y/\∃ out i j g F B,c=(none,out,i,j,g,F,B)/\MA κ a b out i j/\i+1<a.size/\j<b.size/\t+u<i+j)
     (Q:=fun c y=>Zq z y/\∃ r out i j g F B,c=(r,out,i,j,g,F,B)/\(∀ v,r=some v->Md κ a b v)/\(r=none->MA κ a b out i j/\i+1<a.size/\j<b.size/\t+1<i+j))
     (fun u c K _ lt I=>?_) (fun c K I=>?_) ⟨d,out,i,j,_,F,B,rfl,m,f,l,n⟩) fun c K hQ=>?_)
    ·clear m f l n d hy;obtain⟨d,out,i,j,g,F,B,o,m,f,l,n⟩:=I;subst o;dsimp only;obtain⟨p,x,S,e2,e3⟩:=iJ kb l;refine bW (fun _=>?_) fun _=>?_
     all_goals
      refine Qx (vJ (Qx (dU S (Qx (qA (left:=false) L ((d.gal _).kd.trans hz) e2 (qD ka (by lia)) (wP U (by lia)) (by lia) fun R a3 b1 b2=>?_)))));dsimp only
      have Y:=m.mvA T (k:=R) fun v v1 v2 _ _=>by
       have:=v5 (b1 (v-i) (by lia))
       rw [show i+(v-i)=v by lia]at this;rw [e3];exact this
      have m2:i+R<a.size->κ.kle (KK κ b j) (KK κ a (i+R)):=fun h=>by rw [e3];exact Bi (b2 R (Qk _) (by lia))
      clear b1 b2;refine bW (fun ck=>?_) fun ck=>?_;refine bW (fun c=>QE ⟨d.gal _,_,_,_,_,_,_,_,rfl,fun v G=>?_,nofun⟩) fun H=>?_
      ·cases G;exact Y.last (by have:=beq_iff_eq.mp c;lia) h2
      refine bW (fun c=>QE ⟨d.gal _,_,_,_,_,_,_,_,rfl,fun v G=>?_,nofun⟩) fun M=>?_
      ·cases G;exact Y.done (Zi (by have:=beq_iff_eq.mp c;lia))
      have J:i+R+1<a.size:=by rw [beq_iff_eq]at H M;lia
      have a0:t+u<i+R+j:=by lia
      clear H M ck f n
      rotate_left
      obtain rfl:R=0:=by lia
      clear Y;have Y:=m;rw [JO]at m2;have J:=f;have a0:=n;clear ck f n
      all_goals
       obtain⟨q,x',N,f2,X⟩:=iJ ka (Nat.lt_of_succ_lt J);have m3:=Y.b1 U S m2;refine Qx (dU S ?_);refine bW (fun c=>QE ⟨d.gal _,_,_,_,_,_,_,_,rfl,fun v G=>?_,nofun⟩) fun H=>?_
       ·cases G;exact m3.done (Zd (by have:=beq_iff_eq.mp c;lia))
       have g2:j+1<b.size:=by rw [beq_iff_eq]at H;lia
       refine Qx (dU N (Qx (qA (left:=true) L ((d.gal _).kd.trans hz) f2 (qD kb (by lia)) (wP T (by lia)) (by lia) fun W a2 b1 b2=>?_)));dsimp only
       have m4:=m3.mvB U (k:=W) fun v v1 v2 _ _=>by
        have:=v6 (b1 (v-(j+1)) (by lia))
        rw [show j+1+(v-(j+1))=v by lia]at this;rw [X];exact this
       have m5:j+1+W<b.size->κ.kle x' (KK κ b (j+1+W)):=fun h=>v7 (b2 W (Qk _) (by lia));clear b1 b2 H;refine bW (fun ck=>?_) fun ck=>?_;refine bW (fun c=>QE ⟨d.gal _,_,_,_,_,_,_,_,rfl,fun v G=>?_,nofun⟩) fun M=>?_
       ·cases G;exact m4.done (Zd (by have:=beq_iff_eq.mp c;lia))
       have g3:j+1+W<b.size:=by rw [beq_iff_eq]at M;lia
       have m6:=m4.a1 T N fun h=>by rw [X];exact m5 h
       rotate_left
       obtain rfl:W=0:=by lia
       have g3:=g2
       have m6:=m3.a1 T N fun h=>by rw [X];exact m5 h
       all_goals
        refine Qx (dU N ?_);refine bW (fun c=>QE ⟨d.gal _,_,_,_,_,_,_,_,rfl,fun v G=>?_,nofun⟩) fun M=>?_
        ·cases G;exact m6.last (by have:=beq_iff_eq.mp c;lia) h2
        rw [beq_iff_eq]at M;exact bW (fun _=>QE ⟨d.gal _,_,_,_,_,_,_,_,rfl,nofun,fun _=>⟨m6,by lia,g3,by lia⟩⟩) fun _=>QE ⟨d.gal _,_,_,_,_,_,_,rfl,m6,by lia,g3,by lia⟩
    ·obtain⟨d,out,i,j,g,F,B,o,m,f,l,n⟩:=I
     exact⟨d,none,out,i,j,g,F,B,o,nofun,fun _=>⟨m,f,l,by lia⟩⟩
    ·clear m f l n d hy;obtain⟨d,r,out,i,j,g,F,B,o,Z,hn⟩:=hQ;subst o
     cases r with
     | some r=>exact QE ⟨d,r,rfl,Z r rfl⟩
     | none=>
      dsimp only;obtain⟨m,f,l,n⟩:=hn rfl;exact Qx (vJ (QE ⟨d.gal _,out,i,j,_,rfl,m,f,l,by lia⟩))
 ·obtain⟨d,out,i,j,g,o,m,f,l,n⟩:=I;lia
 ·obtain⟨d,r,o,Z⟩:=hQ;obtain⟨r',c⟩:=c;dsimp only at o;subst o;exact QE (k _ _ Z d)
end
section
variable {prog:J5}{w:J6}{A:Around}{E:JZ->J0->Prop}{s:J0}{κ:KeyKind}{kd:Z1}
variable {a b:Array Zl}{z:ZG}
theorem MT(L:fZ prog w A s κ kd)(hz:kindOf z=kd)(ka:KeysOf κ a)(kb:KeysOf κ b)(Z:Up κ a 0 a.size)(T:Up κ b 0 b.size)(ha:0<a.size)(hb:0<b.size)
  (h1:∀ t,t<a.size->κ.kle (KK κ b 0) (KK κ a t)) (h2:κ.kle (KK κ b (b.size-1)) (KK κ a (a.size-1))) (k:∀ out y,Md κ a b out->Zq z y->Q out y):wpS (J4 prog w) A E s (DF a b) Q z:=by
 unfold DF
 show wpS _ _ _ _ (_ >>= _) Q z
 refine Qx (Vw (Jg ⟨rfl,?_⟩));obtain⟨p0,x0,e0,-,-⟩:=iJ ka (show a.size-1<a.size by lia);refine Qx (dU e0 ?_);dsimp only;have m0:MZ κ a b #[p0] (a.size-1) b.size:=(MZ.nil Z T).a1 T (Qk _) ha e0 fun _=>h2;refine bW (fun c=>QE (k _ _ (m0.done (Zi (beq_iff_eq.mp c))) Zq.rfl)) fun R=>?_;refine bW (fun c=>QE (k _ _ (m0.last (by have:=beq_iff_eq.mp c;lia) h1) Zq.rfl)) fun N=>?_
 have M:0<a.size-1:=by rw [beq_iff_eq]at R;lia
 have g2:1<b.size:=by rw [beq_iff_eq]at N;lia
 refine Qx (UW ?_)
 refine Qx (Jq (Yw (fun t c y=>Zq z y/\∃ i j out g,c=(none,i,j,out,g)/\MZ κ a b out i j/\0<i/\i<=a.size/\1<j/\j<=b.size/\i+j+t<a.size+b.size)
  (Q:=fun c y=>Zq z y/\∃ r,c.fst=some r/\Md κ a b r)
  (fun t c y _ lt K=>?_) (fun c y K=>?_) ⟨Zq.rfl,_,_,#[p0],_,rfl,m0,M,by lia,g2,Qk _,by lia⟩) fun c y hQ=>?_)
 ·obtain⟨n,i,j,out,g,B,m,o,f,F,d,I⟩:=K;subst B;dsimp only;have hy:kindOf y=kd:=n.kd.trans hz;clear m0 R N
  refine Qx (Jq (Yw (fun u c O=>O=y/\∃ i j out H G,c=(none,i,j,out,H,G)/\MZ κ a b out i j/\0<i/\i<=a.size/\1<j/\j<=b.size/\i+j+t<a.size+b.size)
   (Q:=fun c O=>O=y/\∃ r i j out H G,c=(r,i,j,out,H,G)/\(∀ v,r=some v->Md κ a b v)/\(r=none->MZ κ a b out i j/\0<i/\i<=a.size/\1<j/\j<=b.size/\i+j+t<a.size+b.size))
   (fun u c O _ lt K=>?_) (fun c O K=>?_) ⟨rfl,i,j,out,0,0,rfl,m,o,f,F,d,I⟩) fun c O hQ=>?_)
  ·clear m o f F d I;obtain⟨e,i,j,out,H,G,B,m,o,f,F,d,I⟩:=K;subst e B;dsimp only;obtain⟨p,x,X,e2,e3⟩:=iJ kb (show j-1<b.size by lia);obtain⟨q,x',S,f2,Y⟩:=iJ ka (show i-1<a.size by lia);refine Qx (dU X (Qx (dU S (Qx (rF L hy e2 f2 ?_)))));dsimp only;refine bW (fun c=>?_) fun c=>?_
   ·have U:=m.a1 T d o S fun _=>by rw [e3,Y];exact YV c
    refine Qx (dU S ?_);refine bW (fun c=>QE ⟨rfl,_,_,_,_,_,_,rfl,fun v J=>?_,nofun⟩) fun R=>?_
    ·cases J;exact U.done (Zi (beq_iff_eq.mp c))
    ·have M:0<i-1:=by rw [beq_iff_eq]at R;lia
     exact bW (fun _=>QE ⟨rfl,_,_,_,_,_,_,rfl,nofun,fun _=>⟨U,M,by lia,F,d,by lia⟩⟩) fun _=>QE ⟨rfl,_,_,_,_,_,rfl,U,M,by lia,F,d,by lia⟩
   ·have U:=m.b1 Z f (by lia) X fun _=>by rw [e3,Y];exact KeyOrd.kle_of_not_klt c
    refine Qx (dU X ?_);refine bW (fun c=>QE ⟨rfl,_,_,_,_,_,_,rfl,fun v J=>?_,nofun⟩) fun R=>?_
    ·cases J;exact U.last (by have:=beq_iff_eq.mp c;lia) h1
    ·have M:1<j-1:=by rw [beq_iff_eq]at R;lia
     exact bW (fun _=>QE ⟨rfl,_,_,_,_,_,_,rfl,nofun,fun _=>⟨U,o,f,M,by lia,by lia⟩⟩) fun _=>QE ⟨rfl,_,_,_,_,_,rfl,U,o,f,M,by lia,by lia⟩
  ·obtain⟨e,i,j,out,H,G,B,m,l⟩:=K
   exact⟨e,none,i,j,out,H,G,B,nofun,fun _=>⟨m,l⟩⟩
  ·clear m o f F d I;obtain⟨e,r,i,j,out,H,G,B,hr,hn⟩:=hQ;subst e B
   cases r with
   | some r=>exact QE ⟨n,r,rfl,hr r rfl⟩
   | none=>
    dsimp only;obtain⟨m,o,f,F,d,I⟩:=hn rfl;refine Qx (Vw (Jg ⟨rfl,?_⟩))
    refine Qx (Jq (Yw (fun u c y=>Zq z y/\∃ i j out g H G,c=(none,i,j,out,g,H,G)/\MZ κ a b out i j/\0<i/\i<=a.size/\1<j/\j<=b.size/\i+j+t+u<a.size+b.size)
     (Q:=fun c y=>Zq z y/\∃ r i j out g H G,c=(r,i,j,out,g,H,G)/\(∀ v,r=some v->Md κ a b v)/\(r=none->MZ κ a b out i j/\0<i/\i<=a.size/\1<j/\j<=b.size/\i+j+t+1<a.size+b.size))
     (fun u c O _ lt K=>?_) (fun c O K=>?_) ⟨n,i,j,out,_,H,G,rfl,m,o,f,F,d,I⟩) fun c O hQ=>?_)
    ·clear m o f F d I n hy;obtain⟨n,i,j,out,g,H,G,B,m,o,f,F,d,I⟩:=K;subst B;dsimp only;obtain⟨p,x,X,e2,e3⟩:=iJ kb (show j-1<b.size by lia);refine bW (fun _=>?_) fun _=>?_
     all_goals
      refine Qx (vJ (Qx (dU X (Qx (qA (left:=false) L ((n.gal _).kd.trans hz) e2 (qD ka (by lia)) (wP Z (by lia)) (by lia) fun k1 a3 b1 b2=>?_)))));dsimp only
      have m1:=m.mvA T d (i:=k1) a3 fun v v1 v2 _ _=>by
       have:=Bi (b2 v v1 v2)
       rw [Q7]at this;rw [e3];exact this
      have m2:0<k1->κ.kle (KK κ a (k1-1)) (KK κ b (j-1)):=fun h=>by
       have:=v5 (b1 (k1-1) (by lia))
       rw [Q7]at this;rw [e3];exact this
      clear b1 b2;refine bW (fun ck=>?_) fun ck=>?_;refine bW (fun c=>QE ⟨n.gal _,_,_,_,_,_,_,_,rfl,fun v J=>?_,nofun⟩) fun N=>?_
      ·cases J;exact m1.done (Zi (beq_iff_eq.mp c))
      have M:0<k1:=by rw [beq_iff_eq]at N;lia
      have W:k1<=a.size:=by lia
      have a0:k1+j+t+u<a.size+b.size:=by lia
      clear N ck o I
      rotate_left
      obtain rfl:k1=i:=by lia
      clear m1;have m1:=m;have M:=o;have W:=f;have a0:=I;clear ck o I
      all_goals
       obtain⟨q,x',S,f2,Y⟩:=iJ ka (show k1-1<a.size by lia);have m3:=m1.b1 Z W (by lia) X m2;refine Qx (dU X ?_);refine bW (fun c=>QE ⟨n.gal _,_,_,_,_,_,_,_,rfl,fun v J=>?_,nofun⟩) fun R=>?_
       ·cases J;exact m3.last (by have:=beq_iff_eq.mp c;lia) h1
       have g2:1<j-1:=by rw [beq_iff_eq]at R;lia
       refine Qx (dU S (Qx (qA (left:=true) L ((n.gal _).kd.trans hz) f2 (qD kb (by lia)) (wP T (by lia)) (by lia) fun k2 a2 b1 b2=>?_)));dsimp only
       have m4:=m3.mvB Z W (i:=k2) a2 fun v v1 v2 _ _=>by
        have:=v7 (b2 v v1 v2)
        rw [Q7]at this;rw [Y];exact this
       have m5:0<k2->κ.kle (KK κ b (k2-1)) x':=fun h=>by
        have:=v6 (b1 (k2-1) (by lia))
        rw [Q7]at this;exact this
       clear b1 b2 R;refine bW (fun ck=>?_) fun ck=>?_;refine bW (fun c=>QE ⟨n.gal _,_,_,_,_,_,_,_,rfl,fun v J=>?_,nofun⟩) fun N=>?_
       ·cases J;exact m4.last (by have:=beq_iff_eq.mp c;lia) h1
       refine bW (fun c=>QE ⟨n.gal _,_,_,_,_,_,_,_,rfl,fun v J=>?_,nofun⟩) fun c3=>?_
       ·cases J;exact m4.done (Zd (beq_iff_eq.mp c))
       have g3:1<k2:=by rw [beq_iff_eq]at N c3;lia
       have m6:=m4.a1 T (by lia) M S fun h=>by rw [Y];exact m5 h
       clear N c3
       rotate_left
       obtain rfl:k2=j-1:=by lia
       have g3:=g2
       have m6:=m3.a1 T (by lia) M S fun h=>by rw [Y];exact m5 h
       all_goals
        refine Qx (dU S ?_);refine bW (fun c=>QE ⟨n.gal _,_,_,_,_,_,_,_,rfl,fun v J=>?_,nofun⟩) fun N=>?_
        ·cases J;exact m6.done (Zi (beq_iff_eq.mp c))
        rw [beq_iff_eq]at N;exact bW (fun _=>QE ⟨n.gal _,_,_,_,_,_,_,_,rfl,nofun,fun _=>⟨m6,by lia,by lia,g3,by lia,by lia⟩⟩) fun _=>QE ⟨n.gal _,_,_,_,_,_,_,rfl,m6,by lia,by lia,g3,by lia,by lia⟩
    ·obtain⟨n,i,j,out,g,H,G,B,m,o,f,F,d,I⟩:=K
     exact⟨n,none,i,j,out,g,H,G,B,nofun,fun _=>⟨m,o,f,F,d,by lia⟩⟩
    ·clear m o f F d I n hy;obtain⟨n,r,i,j,out,g,H,G,B,hr,hn⟩:=hQ;subst B
     cases r with
     | some r=>exact QE ⟨n,r,rfl,hr r rfl⟩
     | none=>
      dsimp only;obtain⟨m,o,f,F,d,I⟩:=hn rfl;exact Qx (vJ (QE ⟨n.gal _,i,j,out,_,rfl,m,o,f,F,d,by lia⟩))
 ·obtain⟨n,i,j,out,g,B,m,o,f,F,d,I⟩:=K;lia
 ·obtain⟨n,r,B,hr⟩:=hQ;obtain⟨r',c⟩:=c;dsimp only at B;subst B;exact QE (k _ _ hr n)
end
theorem FO(base:Nat):∀(M X P S:List Zl) (n:Nat) (arr:Array Zl),M.length=X.length->P.length=base+n->arr.toList=P++(X++S)->
  ((M.zipIdx n).foldl (fun a x=>a.setIfInBounds (base+x.snd) x.fst) arr).toList=P++(M++S)
 | [],X,P,S,n,arr,h,hp,e=>by
  obtain rfl:X=[]:=YA.mp h.symm
  exact e
 | p::M,X,P,S,n,arr,h,hp,e=>by
  cases X with
  | nil=>cases h
  | cons x X=>
   rw [List.zipIdx_cons,YL]
   have:=FO base M X (P++[p]) S (n+1) (arr.setIfInBounds (base+n) p) (Nat.succ.inj h) (by rw [Qj,hp];rfl) (by
    rw [Array.toList_setIfInBounds,e,<- hp,List.set_append_right _ _ (Qk _),Nat.sub_self,QD]
    rfl)
   rw [this,QD];rfl
variable {κ:KeyKind}
theorem yA(e:arr.toList=l):KK κ arr v=((l[v]?).map (kO κ)).getD κ.dflt:=by
 subst e;unfold KK;rw [QI]
 cases arr[v]? <;> rfl
theorem wR(e:arr.toList=U++(S++V)):Up κ arr U.length S.length ↔ S.Pairwise (Rk κ):=by
 have a:∀ i (h:i<S.length),KK κ arr (U.length+i)=kO κ S[i]:=fun i h=>by
  rw [yA e,QK (Yg _ _),YS,QR h,Qi h];rfl
 constructor
 ·intro u;rw [YE];intro i j d b lt
  have:=u i j (YJ lt) b
  rw [a i d,a j b]at this;exact this
 ·intro h i j le lt;rw [a i (by lia),a j lt];rcases YN le with c | c
  ·subst c;exact Yu _
  ·exact YE.mp h i j (by lia) lt c
theorem Ty(e:arr.toList=U++(S++V))(b:arr'.toList=U++(S'++V))(a:S'.length=S.length)(h:v<U.length ∨ U.length+S.length<=v):KK κ arr' v=KK κ arr v:=by
 rw [yA e,yA b];congr 2;rcases h with h | h
 ·rw [QR h,QR h]
 ·rw [QK (by lia),QK (by lia),QK (by lia),QK (by lia),a]
theorem Mq(l:List Zl)(h:i+n<=l.length):∃ U S V,l=U++(S++V)/\U.length=i/\S.length=n:=
 ⟨l.take i,(l.drop i).take n,(l.drop i).drop n,by rw [QZ,QZ],by rw [QQ];lia,by rw [QQ,Yk];lia⟩
theorem GF{a:Array Zl}{U S V:List Zl}(e:a.toList=U++(S++V)){i j:Nat}(c:i=U.length)(b:j=U.length+S.length):(a.extract i j).toList=S:=by
 rw [nH,e,c,b,List.drop_left,YS,List.take_left]
def w6(p:Array (Nat × Nat × Nat))(i:Nat)(a b:Nat × Nat × Nat):Array (Nat × Nat × Nat):=(p.setIfInBounds i (a.1,a.2.1+b.2.1,a.2.2)).eraseIdxIfInBounds (i+1)
section
variable {prog:J5}{w:J6}{A:Around}{E:JZ->J0->Prop}{s:J0}{kd:Z1}{z:ZG}{src:Array Zl}
theorem OH(k:∀ y0,y0=y->Q ⟨⟩ y0):wpS (J4 prog w) A E s (set y:StateT ZG Sem PUnit) Q z:=by
 exact JY (f:=fun _=>y) (k y rfl)
theorem HG(h:t<j-i)(a:j<=arr.size):KK κ (arr.extract i j) t=KK κ arr (i+t):=by
 refine KK_congr ?_;rw [Array.getElem?_extract,if_pos (by lia)]
theorem mF(e:arr.toList=U++(S++V))(h:p∈S):∃ v,v<S.length/\KK κ arr (U.length+v)=kO κ p:=by
 obtain⟨v,a,q⟩:=JK.mp h
 refine⟨v,a,?_⟩
 rw [yA e,QK (Yg _ _),YS,QR a,Qi a,q];rfl
theorem Cg{a x:Array Zl}(all:KeysOf κ src)(b:a.Perm src)(h:∀ p,p∈x.toList->p∈a.toList):KeysOf κ x:=fun p c=>all p ((YU.mp b).mem_iff.mp (h p c))
theorem Nm{i:Nat}{Q:Bool->ZG->Prop}{l j:Nat × Nat × Nat}(L:fZ prog w A s κ kd)(all:KeysOf κ src)(f:Ft src kd z)(e1:(Zn z)[i]?=some l)(e2:(Zn z)[i+1]?=some j)
  (n1:0<l.2.1) (n2:0<j.2.1) (nx:j.1=l.1+l.2.1) (sz:j.1+j.2.1<=src.size) (u1:Up κ (J7 z) l.1 l.2.1) (T:Up κ (J7 z) j.1 j.2.1)
  (k:∀ y,Ft src kd y->Zn y=w6 (Zn z) i l j->Up κ (J7 y) l.1 (l.2.1+j.2.1)->(∀ v,v<l.1 ∨ j.1+j.2.1<=v->KK κ (J7 y) v=KK κ (J7 z) v)->Q true y):
  wpS (J4 prog w) A E s (mergeAt' i) Q z:=by
 have al:=f.len;unfold mergeAt'
 show wpS _ _ _ _ (_ >>= _) Q z
 refine Qx (UW ?_);dsimp only;split
 rotate_left
 ·rename_i hn;obtain⟨s1,c1,w1⟩:=l;obtain⟨s2,c2,w2⟩:=j;exact absurd (Jm e1 e2) (hn s1 c1 w1 s2 c2 w2)
 rename_i sa J pw sb nb X he
 obtain rfl:l=(sa,J,pw):=QF (e1.symm.trans (congrArg Prod.fst he))
 obtain rfl:j=(sb,nb,X):=QF (e2.symm.trans (congrArg Prod.snd he))
 clear he;dsimp only at n1 n2 nx sz u1 T k;subst nx;refine Qx (OH fun y0 Z=>?_)
 have N:kindOf y0=kd:=by rw [Z];exact f.kd
 have q2:J7 y0=J7 z:=by rw [Z]
 have q3:Zn y0=w6 (Zn z) i (sa,J,pw) (sa+J,nb,X):=by rw [Z];rfl
 have q4:Uk y0=none:=by rw [Z];exact f.fine
 clear Z e1 e2;obtain⟨U,S,V,e,hU,hS⟩:=Mq (J7 z).toList (i:=sa) (n:=J+nb) (by rw [Qh];lia);obtain⟨Al,Bl,rfl,hA,hB⟩:∃ Al Bl,S=Al++Bl/\Al.length=J/\Bl.length=nb:=⟨S.take J,S.drop J,(QZ _ _).symm,by rw [QQ];lia,by rw [Yk];lia⟩;subst hU hA hB;clear hS
 have M:(J7 z).toList=U++(Al++(Bl++V)):=by rw [e,QD]
 have eB:(J7 z).toList=(U++Al)++(Bl++V):=by rw [M,QD]
 have lB:(U++Al).length=U.length+Al.length:=Qj;have pA:=(wR M).mp u1;have pB:=(wR (κ:=κ) eB).mp (by rw [lB];exact T);have kz:KeysOf κ (J7 z):=Cg all f.mix fun _ h=>h
 have stay:∀ h:(∀ p∈Al,∀ q∈Bl,Rk κ p q),Q true y0:=fun h=>by
  refine k y0 ⟨by rw [q2];exact f.mix,N,q4⟩ q3 ?_ fun v _=>by rw [q2]
  rw [q2,<- Qj]
  exact(wR e).mpr (Ya.mpr ⟨pA,pB,h⟩)
 obtain⟨p,x,f1,f2,f3⟩:=iJ kz (show U.length+Al.length<(J7 z).size by lia);refine Qx (dU f1 (Qx (qA (left:=false) L N f2 (qD kz (by lia)) u1 n1 fun k1 b3 b1 b2=>?_)));dsimp only;refine bW (fun c=>QE (stay fun p' g q' B=>?_)) fun c=>?_
 ·have:=beq_iff_eq.mp c
  obtain⟨v,R,H⟩:=mF (κ:=κ) M g;obtain⟨t,W,I⟩:=mF (κ:=κ) eB B;unfold Rk;rw [<- H,<- I,lB];refine Yf (v5 (b1 v (by lia))) ?_;rw [<- f3]
  have:=T 0 t (Q2 _) W
  rwa [JO]at this
 rw [beq_iff_eq]at c;obtain⟨p2,x2,g1,g2,g3⟩:=iJ kz (show U.length+k1+(Al.length-k1)-1<(J7 z).size by lia)
 have ei:U.length+k1+(Al.length-k1)-1=U.length+(Al.length-1):=by lia
 rw [ei]at g3;refine Qx (dU g1 (Qx (qA (left:=true) L N g2 (qD kz (by lia)) T (by lia) fun k2 b0 d1 d2=>?_)));dsimp only
 have G:∀ v,v<Al.length->κ.kle (KK κ (J7 z) (U.length+v)) x2:=fun v hv=>by rw [<- g3];exact u1 v (Al.length-1) (by lia) (by lia)
 have Y:∀ t,t<Bl.length->κ.kle x (KK κ (J7 z) (U.length+Al.length+t)):=fun t O=>by
  rw [<- f3]
  have:=T 0 t (Q2 _) O
  rwa [JO]at this
 refine bW (fun c=>QE (stay fun p' g q' B=>?_)) fun c2=>?_
 ·have:=beq_iff_eq.mp c
  obtain⟨v,R,H⟩:=mF (κ:=κ) M g;obtain⟨t,W,I⟩:=mF (κ:=κ) eB B;unfold Rk;rw [<- H,<- I,lB];exact Yf (G v R) (v7 (d2 t (by lia) W))
 rw [beq_iff_eq]at c2;clear stay;obtain⟨A1,A2,rfl,a9⟩:∃ A1 A2,Al=A1++A2/\A1.length=k1:=⟨Al.take k1,Al.drop k1,(QZ _ _).symm,by rw [QQ];lia⟩;obtain⟨B1,B2,rfl,a8⟩:∃ B1 B2,Bl=B1++B2/\B1.length=k2:=⟨Bl.take k2,Bl.drop k2,(QZ _ _).symm,by rw [QQ];lia⟩;subst a9 a8;simp only [Qj]at *
 have r:(J7 z).toList=(U++A1)++(A2++(B1++(B2++V))):=by rw [M];simp only [QD]
 have K:(J7 z).toList=(U++A1++A2)++(B1++(B2++V)):=by rw [M];simp only [QD]
 have eM:(J7 z).toList=(U++A1)++((A2++B1)++(B2++V)):=by rw [M];simp only [QD]
 have ex:((J7 z).extract (U.length+A1.length) (U.length+(A1.length+A2.length))).toList=A2:=GF r (by simp only [Qj]) (by simp only [Qj];lia);have ey:((J7 z).extract (U.length+(A1.length+A2.length)) (U.length+(A1.length+A2.length)+B1.length)).toList=B1:=GF K (by simp only [Qj];lia) (by simp only [Qj];lia);have sx:=congrArg Vr ex;have sy:=congrArg Vr ey;rw [Qh]at sx sy;obtain⟨a7,a6,a5⟩:=Ya.mp pA;obtain⟨a4,a3,a2⟩:=Ya.mp pB;have ux:=Ke (κ:=κ) (a:=(J7 z).extract (U.length+A1.length) (U.length+(A1.length+A2.length))) (by rw [ex];exact a6);have uy:=Ke (κ:=κ) (a:=(J7 z).extract (U.length+(A1.length+A2.length)) (U.length+(A1.length+A2.length)+B1.length)) (by rw [ey];exact a4)
 have kx:KeysOf κ ((J7 z).extract (U.length+A1.length) (U.length+(A1.length+A2.length))):=Cg all f.mix fun p g=>by
  rw [ex]at g;rw [r];exact Qw _ (QL _ g)
 have ky:KeysOf κ ((J7 z).extract (U.length+(A1.length+A2.length)) (U.length+(A1.length+A2.length)+B1.length)):=Cg all f.mix fun p g=>by
  rw [ey]at g;rw [K];exact Qw _ (QL _ g)
 have xx:∀ t,t<A2.length->KK κ ((J7 z).extract (U.length+A1.length) (U.length+(A1.length+A2.length))) t=KK κ (J7 z) (U.length+A1.length+t):=fun t O=>HG (by lia) (by lia);have yy:∀ t,t<B1.length->KK κ ((J7 z).extract (U.length+(A1.length+A2.length)) (U.length+(A1.length+A2.length)+B1.length)) t=KK κ (J7 z) (U.length+(A1.length+A2.length)+t):=fun t O=>HG (by lia) (by lia)
 have a0:∀ t,t<A2.length->κ.kle x (KK κ (J7 z) (U.length+A1.length+t)):=fun t O=>by
  have:=Bi (b2 (A1.length+t) (by lia) (by lia))
  rwa [<- Nat.add_assoc]at this
 generalize hx:(J7 z).extract (U.length+A1.length) (U.length+(A1.length+A2.length))=xs at ex sx ux kx xx ⊢;generalize hy:(J7 z).extract (U.length+(A1.length+A2.length)) (U.length+(A1.length+A2.length)+B1.length)=ys at ey sy uy ky yy ⊢
 have c0:κ.kle (KK κ ys 0) x:=by rw [yy 0 (by lia),JO,f3];exact Yu _
 have c9:KK κ xs (xs.size-1)=x2:=by rw [sx,xx _ (by lia),<- g3];congr 1;lia
 have cl:∀ d u,Md κ xs ys d->Zq y0 u->∀ y2:ZG,kindOf y2=kindOf u->Zn y2=Zn u->Uk y2=Uk u->J7 y2=List.foldl (fun a x=>a.setIfInBounds (U.length+A1.length+x.snd) x.fst) (J7 u) d.toList.zipIdx->Q true y2:=by
  intro d u m F y2 l j r3 r4
  have mp:d.toList.Perm (A2++B1):=by have:=m.pm;rwa [ex,ey]at this
  have ml:d.toList.length=A2.length+B1.length:=by rw [mp.length_eq,Qj]
  have en:(J7 y2).toList=(U++A1)++(d.toList++(B2++V)):=by
   rw [r4,F.ar,q2];exact FO _ d.toList (A2++B1) (U++A1) (B2++V) 0 _ (by rw [ml,Qj]) (by rw [Qj,JO]) eM
  have e3:(J7 y2).toList=U++((A1++(d.toList++B2))++V):=by rw [en];simp only [QD]
  have hA:∀ p∈A1,∀ q∈A2++B1,Rk κ p q:=fun p g q B=>by
   rcases QA.mp B with h | h
   ·exact a5 p g q h
   ·obtain⟨v,R,H⟩:=mF (κ:=κ) (S:=A1) (U:=U) (V:=A2++(B1++(B2++V))) (by rw [r];simp only [QD]) g;obtain⟨t,W,I⟩:=mF (κ:=κ) K h;unfold Rk;rw [<- H,<- I];simp only [Qj];rw [Nat.add_assoc U.length];exact Yf (v5 (b1 v R)) (Y t (by lia))
  have hB:∀ p∈A2++B1,∀ q∈B2,Rk κ p q:=fun p g q B=>by
   rcases QA.mp g with h | h
   ·obtain⟨v,R,H⟩:=mF (κ:=κ) r h;obtain⟨t,W,I⟩:=mF (κ:=κ) (S:=B2) (U:=U++A1++A2++B1) (V:=V) (by rw [r];simp only [QD]) B;unfold Rk;rw [<- H,<- I];simp only [Qj];have z1:=G (A1.length+v) (by lia);have z2:=v7 (d2 (B1.length+t) (by lia) (by lia));rw [show U.length+A1.length+v=U.length+(A1.length+v) by lia,show U.length+A1.length+A2.length+B1.length+t=U.length+(A1.length+A2.length)+(B1.length+t) by lia];exact Yf z1 z2
   ·exact a2 p h q B
  have hS:(A1++(d.toList++B2)).Pairwise (Rk κ):=by
   refine Ya.mpr ⟨a7,Ya.mpr ⟨m.so,a3,fun p g q B=>hB p (mp.mem_iff.mp g) q B⟩,fun p g q B=>?_⟩;rcases QA.mp B with h | h
   ·exact hA p g q (mp.mem_iff.mp h)
   ·obtain⟨o,ho⟩:∃ o,o∈B1:=List.exists_mem_of_length_pos (by lia);exact Yf (hA p g o (Qw _ ho)) (hB o (Qw _ ho) q h)
  refine k y2 ⟨?_,by rw [l,F.kd,N],by rw [r3,F.fa,q4]⟩ (by rw [j,F.pe,q3]) ?_ fun v hv=>?_
  ·refine Array.Perm.trans (YU.mpr ?_) f.mix;rw [en,eM]
   exact(mp.append_right _).append_left _
  ·have:=(wR (κ:=κ) e3).mpr hS
   simp only [Qj,ml]at this
   rwa [show A1.length+(A2.length+B1.length+B2.length)=A1.length+A2.length+(B1.length+B2.length) by lia]at this
  ·refine Ty (U:=U) (V:=V) (S:=A1++((A2++B1)++B2)) (by rw [r];simp only [QD]) e3 (by simp only [Qj,ml]) ?_;simp only [Qj];rcases hv with h | h
   ·exact Zi h
   ·exact Zd (by lia)
 refine bW (fun _=>Qx (Ni L N kx ky ux uy (by lia) (by lia) ?_ (fun t O=>?_) fun d u m F=>?_)) fun _=>Qx (MT L N kx ky ux uy (by lia) (by lia) (fun t O=>?_) ?_ fun d u m F=>?_)
 ·rw [xx 0 (by lia)];exact Yf c0 (a0 0 (by lia))
 ·rw [c9,yy t (by lia)];exact v6 (d1 t (by lia))
 ·have fin:=cl d u m F;refine Qx (JY (Qx (UW (QE ((congrArg (fun b=>Q b _) (show Option.isNone (Uk u)=true by rw [F.fa,q4];rfl)).mpr ?_)))));exact fin _ rfl rfl rfl rfl
 ·rw [xx t (by lia)];exact Yf c0 (a0 t (by lia))
 ·rw [c9,yy _ (by lia)];exact v6 (d1 _ (by lia))
 ·have fin:=cl d u m F;refine Qx (JY (Qx (UW (QE ((congrArg (fun b=>Q b _) (show Option.isNone (Uk u)=true by rw [F.fa,q4];rfl)).mpr ?_)))));exact fin _ rfl rfl rfl rfl
end
end TS
namespace TS
open SG
abbrev oJ:=Nat × Nat × Nat
def iP(κ:KeyKind)(a:Array Zl):Nat->List oJ->Nat->Prop
 | n,[],m=>n=m
 | n,r::rs,m=>r.1=n/\0<r.2.1/\Up κ a n r.2.1/\iP κ a (n+r.2.1) rs m
variable {κ:KeyKind}{arr arr':Array Zl}
theorem sC:∀{xs ys:List oJ}{n m:Nat},iP κ arr n (xs++ys) m ↔ ∃ k,iP κ arr n xs k/\iP κ arr k ys m
 | [],ys,n,m=>⟨fun h=>⟨n,rfl,h⟩,fun⟨k,e,h⟩=>by cases e;exact h⟩
 | x::xs,ys,n,m=>⟨fun f=>by
   obtain⟨a,b,c,d⟩:=f;obtain⟨k,i,g⟩:=sC.mp d
   exact⟨k,⟨a,b,c,i⟩,g⟩,fun⟨k,⟨a,b,c,d⟩,h⟩=>⟨a,b,c,sC.mpr ⟨k,d,h⟩⟩⟩
theorem wD:∀{xs:List oJ}{n m:Nat},iP κ arr n xs m->n+xs.length<=m
 | [],n,m,h=>by cases h;exact Qk _
 | x::xs,n,m,⟨_,b,_,d⟩=>by have:=wD d;rw [Qt];lia
theorem wE:∀{xs:List oJ}{n m:Nat},iP κ arr n xs m->(∀ v,n<=v->v<m->KK κ arr' v=KK κ arr v)->iP κ arr' n xs m
 | [],n,m,h,_=>h
 | x::xs,n,m,⟨a,b,c,d⟩,h=>⟨a,b,fun i j le lt=>by
   have:=wD d
   rw [h _ (by lia) (by lia),h _ (by lia) (by lia)]
   exact c i j le lt,wE d fun v f e=>h v (by lia) e⟩
theorem EU(g:∀ r,(f r).1=r.1)(e:∀ r,(f r).2.1=r.2.1):∀{xs:List oJ}{i n m:Nat},iP κ arr n xs m->iP κ arr n (xs.modify i f) m
 | [],i,n,m,h=>by cases i <;> exact h
 | x::xs,0,n,m,⟨a,b,c,d⟩=>by
   rw [List.modify_zero_cons]
   refine⟨(g x).trans a,?_,?_,?_⟩
   ·rw [e];exact b
   ·rw [e];exact c
   ·rw [e];exact d
 | x::xs,i+1,n,m,⟨a,b,c,d⟩=>by
   rw [List.modify_succ_cons]
   exact⟨a,b,c,EU g e d⟩
theorem Lu:∀(l:List oJ) (i:Nat),i+1<l.length->∃ pre r1 r2 post,l=pre++r1::r2::post/\pre.length=i
 | [],i,h=>by cases h
 | [x],i,h=>by rw [Yd]at h;lia
 | x::y::l,0,h=>⟨[],x,y,l,rfl,rfl⟩
 | x::y::l,i+1,h=>by
  obtain⟨pre,r1,r2,post,e,a⟩:=Lu (y::l) i (by rw [Qt]at h;lia)
  exact⟨x::pre,r1,r2,post,by rw [e];rfl,by rw [Qt,a]⟩
theorem X7(e:p.toList=pre++r1::r2::post)(a:pre.length=i):(w6 p i r1 r2).toList=pre++(r1.1,r1.2.1+r2.2.1,r1.2.2)::post:=by
 unfold w6
 have:p=(pre++r1::r2::post).toArray:=by rw [<- e]
 subst this a
 simp [List.eraseIdx_append_of_length_le,List.set_append_right]
section
variable {prog:J5}{w:J6}{A:Around}{E:JZ->J0->Prop}{s:J0}{kd:Z1}{z:ZG}{src:Array Zl}
structure hY(κ:KeyKind)(src:Array Zl)(kd:Z1)(lo:Nat)(z:ZG):Prop where
 ft:Ft src kd z
 co:iP κ (J7 z) 0 (Zn z).toList lo
 le:lo<=src.size
theorem DJ{c i:Nat}(L:fZ prog w A s κ kd)(all:KeysOf κ src)(f:hY κ src kd c z)(t:i+1<(Zn z).size)(k:∀ y,hY κ src kd c y->(Zn y).size+1=(Zn z).size->(∀ v,c<=v->KK κ (J7 y) v=KK κ (J7 z) v)->Q true y):wpS (J4 prog w) A E s (mergeAt' i) Q z:=by
 obtain⟨pre,r1,r2,b,e,g⟩:=Lu (Zn z).toList i (by rw [Qh];exact t);have l:=f.co;rw [e]at l;obtain⟨m,x,a1,o,G,b1,F,B,n⟩:=sC.mp l;have H:=wD n;have sz:=f.le
 have r:(Zn z)[i]?=some r1:=by rw [<- QI,e,<- g,QK (Qk _),Nat.sub_self];rfl
 have q:(Zn z)[i+1]?=some r2:=by rw [<- QI,e,<- g,QK (Yg _ 1),YS];rfl
 refine Nm L all f.ft r q o F (by rw [b1,a1]) (by rw [b1];lia) (by rw [a1];exact G) (by rw [b1];exact B) fun y u p j a=>?_;have d:=X7 e g;rw [<- p]at d;rw [a1,b1]at a;refine k y ⟨u,?_,f.le⟩ ?_ fun v h=>a v (Zd (by lia))
 ·rw [d];refine sC.mpr ⟨m,wE x fun v _ h=>a v (Zi h),a1,QX o (Yg _ _),by rw [a1]at j;exact j,?_⟩
  show iP κ (J7 y) (m+(r1.2.1+r2.2.1)) b c
  rw [<- Nat.add_assoc];exact wE n fun v h _=>a v (Zd h)
 ·rw [<- Qh,<- Qh,d,e];simp;lia
theorem KW{a:Nat}(f:hY κ src kd a z)(c:Ft src kd (ZR z ys))(b:Sm κ a (J7 z) ys):hY κ src kd a (ZR z ys):=⟨c,wE f.co fun v _ h=>b v h,f.le⟩
theorem KY{a n:Nat}(f:hY κ src kd a z)(b:Up κ (J7 z) a n)(d:1<=n)(c:a+n<=src.size):hY κ src kd (a+n) (setPending z ((Zn z).push (a,n,0))):=⟨⟨f.ft.mix,f.ft.kd,f.ft.fine⟩,by
 show iP κ (J7 z) 0 ((Zn z).push (a,n,0)).toList (a+n)
 rw [JG]
 exact sC.mpr ⟨a,f.co,rfl,d,b,rfl⟩,c⟩
theorem all_z(L:fZ prog w A s κ kd)(all:KeysOf κ src)(f:Ft src kd z)(W:Zn z=#[])(h2:2<=src.size)
  (k:∀ z',(J7 z').Perm src->Uk z'=none->SortedToK κ (J7 z') src.size->Q () z'):wpS (J4 prog w) A E s sortRuns' Q z:=by
 rw [sortRuns'_eq];refine Qx (UW ?_);dsimp only;simp only [f.len];have M:hY κ src kd 0 z:=⟨f,by rw [W];rfl,Q2 _⟩
 refine Qx (Jq (Yw (fun t c y=>∃ b,c=(none,b)/\t<=b/\hY κ src kd b y) (Q:=fun c y=>c=(none,src.size)/\hY κ src kd src.size y)
  (fun t c y _ lt q=>?_) (fun c y q=>?_) ⟨0,rfl,Q2 _,M⟩) fun c y J=>?_)
 ·obtain⟨b,g,S,a⟩:=q;subst g;dsimp only;refine bW (fun c=>?_) fun c=>?_
  ·have e:b=src.size:=Vc a.le c;subst e;exact QE ⟨rfl,a⟩
  ·refine Qx (Oj L all a.ft (by lia) (by lia) fun m ys O T X g2 p=>?_);dsimp only;have F:=KW a O T;refine bW (fun Z=>?_) fun Z=>?_;refine Qx (Vw (Jg ⟨rfl,Qx (MY L all O (n:=min (src.size-b) (minRun' src.size src.size 0)) (by lia) (by lia) p fun us Y N l=>?_)⟩));have x:=KW F Y N;simp only [Ys,Qm,if_false]
   have H:1<=min (src.size-b) (minRun' src.size src.size 0):=by lia
   have G:b+min (src.size-b) (minRun' src.size src.size 0)<=src.size:=by lia
   generalize min (src.size-b) (minRun' src.size src.size 0)=n at H G l ⊢
   rotate_left
   have x:=F;have l:=p;have H:=X
   have G:b+m<=src.size:=by lia
   generalize m=n at H G l ⊢
   all_goals
    refine Qx (UW ?_);split
    ·refine Qx (Jq (Yw (fun _ c o=>c=(none,())/\hY κ src kd b o/\Up κ (J7 o) b n) (Q:=fun c o=>c=(none,())/\hY κ src kd b o/\Up κ (J7 o) b n) (fun t c o _ lt q=>?_) (fun _ _ h=>h) ⟨rfl,x,l⟩) fun c o J=>?_)
     ·obtain⟨g,a,p⟩:=q;subst g;refine Qx (UW ?_);by_cases c:(Zn o).size > 1
      ·split
       ·refine bW (fun _=>QE ⟨rfl,a,p⟩) fun _=>?_;refine Qx (DJ L all a (by lia) fun y2 B _ v=>?_);simp only [Ys,Qm,if_false];exact QE ⟨rfl,B,fun i j le lt=>by rw [v _ (Yg _ _),v _ (Yg _ _)];exact p i j le lt⟩
       ·exact QE ⟨rfl,a,p⟩
      ·rw [if_neg c];exact QE ⟨rfl,a,p⟩
     ·obtain⟨g,a,p⟩:=J;subst g;dsimp only;refine Qx (JY (Qx (JY (QE ⟨b+n,rfl,by lia,KY ⟨⟨a.ft.mix,a.ft.kd,a.ft.fine⟩,?_,a.le⟩ p H G⟩))));rw [Array.toList_modify];refine EU ?_ ?_ a.co
      ·exact fun _=>rfl
      ·exact fun _=>rfl
    ·exact Qx (JY (QE ⟨b+n,rfl,by lia,KY x l H G⟩))
 ·obtain⟨b,g,S,a⟩:=q
  have:b=src.size:=by have:=a.le;lia
  subst this
  exact⟨g,a⟩
 ·obtain⟨g,a⟩:=J;subst g;dsimp only
  refine Qx (Jq (Yw (fun t c y=>c=(none,())/\hY κ src kd src.size y/\((Zn y).size<=1 ∨ (Zn y).size+t<=src.size)) (Q:=fun c y=>c=(none,())/\hY κ src kd src.size y/\(Zn y).size<=1)
   (fun t c y _ lt q=>?_) (fun c y q=>?_) ⟨rfl,a,Zd ?_⟩) fun c y J=>?_)
  ·obtain⟨g,a,I⟩:=q;subst g;refine Qx (UW ?_);refine bW (fun c=>QE ⟨rfl,a,c⟩) fun c=>?_;refine Qx (DJ L all a ?_ fun o B sz _=>?_)
   ·repeat' split
    all_goals lia
   ·simp only [Ys,Qm,if_false];exact QE ⟨rfl,B,Zd (by lia)⟩
  ·obtain⟨g,a,I⟩:=q
   exact⟨g,a,by lia⟩
  ·have:=wD a.co;rw [Qh]at this;lia
  ·obtain⟨g,a,I⟩:=J;subst g;refine QE (k y a.ft.mix a.ft.fine ?_);have K:=a.co;rw [<- Qh]at I
   cases e:(Zn y).toList with
   | nil=>rw [e]at K;have:0=src.size:=K;lia
   | cons r U=>
    rw [e]at K I
    cases U with
    | cons _ _=>simp at I
    | nil=>
     obtain⟨_,_,u,d⟩:=K;have R:0+r.2.1=src.size:=d;rw [Q7]at R;rw [R]at u;intro i j le lt
     have:=u i j le lt
     rwa [Q7,Q7]at this
end
end TS
namespace SG
section
variable {prog:J5}{w:J6}{A:Around}{E:JZ->J0->Prop}{s:J0}{κ:KeyKind}{kd:Z1}
theorem zSe(f:s.heap.get? a=some (UG "list" vs.toArray n))(all:KeysOf κ (Vt vs))(u:vs.length<=1000)
  (kind:∀ h',(∀ b o,b≠a->s.heap.get? b=some o->h'.get? b=some o)->2<=vs.length->J3 (J4 prog w) A (keyKind' vs.toArray) (fun q s'=>q=kd/\s'={ s with heap:=h' }) E { s with heap:=h' })
  (L:∀ h',(∀ b o,b≠a->s.heap.get? b=some o->h'.get? b=some o)->fZ prog w A { s with heap:=h' } κ kd)
  (k:∀ z':ZG,(J7 z').Perm (Vt vs)->SortedToK κ (J7 z') (Vt vs).size->P (.done (.ret .none)) { s with heap:=sortedHeap s.heap a vs ((J7 z').map (·.2)) }):
  J3 (J4 prog w) A (Builtin.«list.sort» ⟨[.ref a],[]⟩) P E s:=by
 have x:a<s.heap.objs.size:=Qu f
 have v:vs.toArray.size=vs.length:=by simp
 rw [list_sort_plain];refine Qa (listItems_at f rfl (Qa (listUpdate_at f rfl ?_)));obtain⟨t,p⟩:∃ t,(s.heap.update a (Z5 fun _=>#[])).get? a=some (UG "list" #[] t):=⟨_,get?_update_seq f fun _=>#[]⟩;refine Qa (seqEpoch_at p rfl (Qa (wpAny_newTuple (Qa (wpAny_newList (Yb ?_))))))
 show J3 (J4 prog w) A _ P E { s with heap:=((s.heap.update a (Z5 fun _=>#[])).push (UG "tuple" vs.toArray 0)).push (UG "list" #[] 0) }
 have keep:∀ b o,b≠a->s.heap.get? b=some o->(((s.heap.update a (Z5 fun _=>#[])).push (UG "tuple" vs.toArray 0)).push (UG "list" #[] 0)).get? b=some o:=fun b o nb e=>
  Qe _ (Qe _ (by rw [Heap.get?_update_ne _ _ _ _ nb];exact e))
 have g:(((s.heap.update a (Z5 fun _=>#[])).push (UG "tuple" vs.toArray 0)).push (UG "list" #[] 0)).get? a=some (UG "list" #[] t):=Qe _ (Qe _ p);dsimp only;by_cases c:vs.toArray.size<2
 ·rw [if_pos c,if_pos c];refine Qa (Qb ?_);rw [StateT.run_pure]
  refine Qa (Qb (Qa (seqEpoch_at g rfl (Qa (listUpdate_at g rfl ?_ (hsz2:=by
   rw [Jh];show(Vt vs).size<=_;rw [UH,Yo];lia))))))
  simp only [bne_self_eq_false,Qm,if_false];refine Qb (k (SortSt.mk' general' (vs.toArray.zip vs.toArray) #[] 7 none) (Array.Perm.refl _) fun i j le lt=>?_)
  obtain rfl:i=j:=by rw [UH]at lt;lia
  exact Yu _
 ·rw [if_neg c,if_neg c];refine Qa (Y5 (kind _ keep (by lia)) (fun q s' m=>?_) fun _ _ e=>e);obtain⟨rfl,rfl⟩:=m
  refine Qa (Y5 (TS.all_z (src:=Vt vs) (z:=SortSt.mk' q (vs.toArray.zip vs.toArray) #[] 7 none)
   (Q:=fun _ z'=>(J7 z').Perm (Vt vs)/\Uk z'=none/\SortedToK κ (J7 z') (Vt vs).size)
   (L _ keep) all ⟨Array.Perm.refl _,rfl,rfl⟩ rfl (by rw [UH];lia) fun z' d l h=>⟨d,l,h⟩) (fun r s' m=>?_) fun _ _ e=>e)
  obtain⟨⟨⟩,z'⟩:=r;obtain⟨rfl,d,l,h⟩:=m;dsimp only at d l h ⊢
  refine Qa (seqEpoch_at g rfl (Qa (listUpdate_at g rfl ?_ (hsz2:=by
   refine QH (Nat.le_of_eq ((Jh ..).trans (d.size_eq.trans (UH _)))) ?_
   rw [Yo];lia))))
  rw [l];simp only [bne_self_eq_false,Qm,if_false];exact Qb (k z' d h)
end
end SG
namespace DL
open PySem.Spec L2
abbrev D:=PyData
def kB(K:PySem.W.Frag)(F:YP->Prop)(H:Hp)(a:YP)(vs:List V):Prop:=(F a/\Rd H a (.lst vs)) ∨ bY K (fun _=>none) a vs
theorem kB.sq{K:PySem.W.Frag}{F:YP->Prop}{H:Hp}{a:YP}{vs:List V}(h:kB K F H a vs):bY K H a vs:=by
 rcases h with⟨_,h⟩ | (h | ⟨o,h⟩) | h
 ·exact .inl h
 ·cases h
 ·cases h
 ·exact .inr h
abbrev eH:=Sum (List Int) (List (List Int))
def gF(a:List Int):D:=.tuple (a.map .int)
def jA:eH->D
 | .inl b=>gF b
 | .inr a=>.tuple (a.map gF)
def FF(a:List Int):Int:=reduceHash (Builtin.Tuple.tupleHashOf (a.map hashInt))
def AF:eH->Int
 | .inl b=>FF b
 | .inr a=>reduceHash (Builtin.Tuple.tupleHashOf (a.map FF))
def oD(K:PySem.W.Frag)(H:Hp)(k:eH)(b:YP):Prop:=match k with
 | .inl c=>bJ K H b (c.map V.int)
 | .inr a=>a≠[]/\∃ bs:List YP,bJ K H b (bs.map V.ref)/\Paired (fun(c:List Int) (b:YP)=>bJ K H b (c.map V.int)) a bs
def bI(a:YP)(es:List (eH × YP × V))(ep:Nat):HO:=.ext fun h=>(a == Zm)=false/\∃ o raw,h.get? a=some o/\o.ExactDict/\o.data=.dict raw ep/\Paired (fun(e:eH × YP × V) (r:ZI)=>r.hash=AF e.1/\r.key=.ref e.2.1/\RelV e.2.2 r.val) es raw.toList
def LC(a C:YP):HO:=.ext fun h=>∃ o,h.get? a=some o/\o.cls=.ref C
def MH(x:Str):D:=.dict [(.none,.str x)]
def LR(a:YP)(vs:List V):HO:=.ext fun h=>vs.length<=sizeLine/\∃(its:List JZ) (n:Nat),Vals vs its/\h.get? a=some { cls:=.type "list",data:=.seq its.toArray n }
mutual
inductive aO(K:PySem.W.Frag)(F:YP->Prop)(H:Hp):D->V->Prop
 | non:aO K F H .none .non
 | bl (b:Bool):aO K F H (.bool b) (.bl b)
 | int (i:Int):aO K F H (.int i) (.int i)
 | str (x:Str):aO K F H (.str x) (.str x)
 | tup {a:YP}{vs:List V}{ds:List D}:bJ K H a vs->Reps K F H ds vs->aO K F H (.tuple ds) (.ref a)
 | lst {a:YP}{vs:List V}{ds:List D}:kB K F H a vs->Reps K F H ds vs->aO K F H (.list ds) (.ref a)
 | dct {a:YP}{es:List (eH × YP × V)}{kvs:List (D × D)}{ep:Nat}:F a->H a=some (bI a es ep)->(es.map (·.1)).Nodup->es.length<=1000->DReps K F H kvs es->aO K F H (.dict kvs) (.ref a)
 | exn {a C:YP}{x:Str}:F a->H a=some (LC a C)->PySem.W.nsIn K Zj x=some (some (.ref C))->aO K F H (MH x) (.ref a)
inductive DReps(K:PySem.W.Frag)(F:YP->Prop)(H:Hp):List (D × D)->List (eH × YP × V)->Prop
 | nil:DReps K F H [] []
 | cons {k:eH}{b:YP}{d:D}{v:V}{kvs:List (D × D)}{es:List (eH × YP × V)}:oD K H k b->aO K F H d v->DReps K F H kvs es->DReps K F H ((jA k,d)::kvs) ((k,b,v)::es)
inductive Reps(K:PySem.W.Frag)(F:YP->Prop)(H:Hp):List D->List V->Prop
 | nil:Reps K F H [] []
 | cons {d:D}{v:V}{ds:List D}{vs:List V}:aO K F H d v->Reps K F H ds vs->Reps K F H (d::ds) (v::vs)
end
structure bA(K:PySem.W.Frag)(F F':YP->Prop)(H H':Hp):Prop where
 up:∀ a,F a->F' a
 tp:∀ a xs,bJ K H a xs->bJ K H' a xs
 ls:∀ a xs,F a->Rd H a (.lst xs)->Rd H' a (.lst xs)
 xt:∀ a φ,F a->H a=some (.ext φ)->H' a=some (.ext φ)
theorem oD.stay{K:PySem.W.Frag}{F f:YP->Prop}{H a:Hp}(S:bA K F f H a){k:eH}{b:YP}(h:oD K H k b):oD K a k b:=by
 cases k with
 | inl g=>exact S.tp _ _ h
 | inr c=>obtain⟨n,bs,e,d⟩:=h;exact⟨n,bs,S.tp _ _ e,Paired.mapP d fun _ _ z=>S.tp _ _ z⟩
theorem kB.stay{K:PySem.W.Frag}{F c:YP->Prop}{H b:Hp}(S:bA K F c H b){a:YP}{vs:List V}(h:kB K F H a vs):kB K c b a vs:=by
 rcases h with⟨f,h⟩ | h
 ·exact .inl ⟨S.up a f,S.ls a vs f h⟩
 ·exact .inr h
mutual
theorem aO.stay{K:PySem.W.Frag}{F c:YP->Prop}{H a:Hp}(S:bA K F c H a){d:D}{v:V}(h:aO K F H d v):aO K c a d v:=by
 cases h with
 | non=>exact .non
 | bl b=>exact .bl b
 | int i=>exact .int i
 | str x=>exact .str x
 | tup h r=>exact .tup (S.tp _ _ h) (Reps.stay S r)
 | lst h r=>exact .lst (h.stay S) (Reps.stay S r)
 | dct f h n l r=>exact .dct (S.up _ f) (S.xt _ _ f h) n l (DReps.stay S r)
 | exn f h n=>exact .exn (S.up _ f) (S.xt _ _ f h) n
theorem DReps.stay{K:PySem.W.Frag}{F c:YP->Prop}{H b:Hp}(S:bA K F c H b){a:List (D × D)}{es:List (eH × YP × V)}(h:DReps K F H a es):DReps K c b a es:=by
 cases h with
 | nil=>exact .nil
 | cons h r t=>exact .cons (h.stay S) (aO.stay S r) (DReps.stay S t)
theorem Reps.stay{K:PySem.W.Frag}{F b:YP->Prop}{H a:Hp}(S:bA K F b H a){ds:List D}{vs:List V}(h:Reps K F H ds vs):Reps K b a ds vs:=by
 cases h with
 | nil=>exact .nil
 | cons h r=>exact .cons (aO.stay S h) (Reps.stay S r)
end
theorem Reps.length{K:PySem.W.Frag}{F:YP->Prop}{H:Hp}:∀{ds:List D}{vs:List V},Reps K F H ds vs->ds.length=vs.length
 | _,_,.nil=>rfl
 | _,_,.cons _ r=>by simp [Reps.length r]
theorem Reps.get{K:PySem.W.Frag}{F:YP->Prop}{H:Hp}:∀{ds:List D}{vs:List V}{i:Nat}{d:D},Reps K F H ds vs->ds[i]?=some d->∃ v,vs[i]?=some v/\aO K F H d v
 | _,_,_,_,.nil,e=>by simp at e
 | _,_,0,_,.cons h _,e=>by simp at e;subst e;exact⟨_,rfl,h⟩
 | _,_,i+1,d,.cons _ r,e=>by
  obtain⟨v,b,a⟩:=Reps.get (i:=i) (d:=d) r (by simpa using e)
  exact⟨v,by simpa using b,a⟩
theorem Reps.append{K:PySem.W.Frag}{F:YP->Prop}{H:Hp}:∀{ds es:List D}{vs us:List V},Reps K F H ds vs->Reps K F H es us->Reps K F H (ds++es) (vs++us)
 | _,_,_,_,.nil,s=>s
 | _,_,_,_,.cons h r,s=>.cons h (Reps.append r s)
theorem Reps.take{K:PySem.W.Frag}{F:YP->Prop}{H:Hp}:∀{ds:List D}{vs:List V} (n:Nat),Reps K F H ds vs->Reps K F H (ds.take n) (vs.take n)
 | _,_,0,_=>.nil
 | _,_,_+1,.nil=>.nil
 | _,_,n+1,.cons h r=>.cons h (Reps.take n r)
theorem Reps.drop{K:PySem.W.Frag}{F:YP->Prop}{H:Hp}:∀{ds:List D}{vs:List V} (n:Nat),Reps K F H ds vs->Reps K F H (ds.drop n) (vs.drop n)
 | _,_,0,r=>r
 | _,_,_+1,.nil=>.nil
 | _,_,n+1,.cons _ r=>Reps.drop n r
structure aI(F F':YP->Prop)(H H':Hp):Prop where
 same:eI H H'
 up:∀ a,F a->F' a
 new:∀ a,F' a->F a ∨ (H a=none/\H' a≠none)
theorem aI.refl(F:YP->Prop)(H:Hp):aI F F H H:=⟨eI.refl H,fun _ h=>h,fun _ h=>.inl h⟩
theorem aI.trans(a:aI F F1 H H1)(b:aI F1 F2 H1 H2):aI F F2 H H2:=
 ⟨a.same.trans b.same,fun x h=>b.up x (a.up x h),fun x h=>by
  rcases b.new x h with d | ⟨d,f⟩
  ·rcases a.new x d with c | ⟨c,e⟩
   ·exact .inl c
   ·refine .inr ⟨c,fun z=>e (b.same.free z)⟩
  ·exact .inr ⟨a.same.free d,f⟩⟩
theorem eI.sqT{K:PySem.W.Frag}{H b:Hp}{a:YP}{xs:List V}(e:eI H b)(h:bJ K H a xs):bJ K b a xs:=by
 rcases h with(h | ⟨o,h⟩) | h
 ·exact .inl (.inl (e _ _ h))
 ·exact .inl (.inr ⟨o,e _ _ h⟩)
 ·exact .inr h
theorem eI.rd(e:eI H H')(h:Rd H a u):Rd H' a u:=by
 rcases h with h | ⟨o,h⟩
 ·exact .inl (e _ _ h)
 ·exact .inr ⟨o,e _ _ h⟩
theorem aI.stay{K:PySem.W.Frag}{F a:YP->Prop}{H H':Hp}(e:aI F a H H'):bA K F a H H':=
 ⟨e.up,fun _ _ h=>eI.sqT e.same h,fun _ _ _ h=>eI.rd e.same h,fun _ _ _ h=>e.same _ _ h⟩
theorem Iv(a:H p=none):eI H (aJ H p o):=fun b u e=>by
 rw [aU (j8 e a)];exact e
theorem aI.fresh(a:H p=none):aI F F H (aJ H p o):=⟨Iv a,fun _ h=>h,fun _ h=>.inl h⟩
theorem aI.frozen(b:H p=none):aI F (fun a=>F a ∨ a=p) H (aJ H p o):=
 ⟨Iv b,fun _ h=>.inl h,fun a h=>h.elim .inl fun e=>.inr (by subst e;exact⟨b,by rw [cP];simp⟩)⟩
theorem aO.newTup{K:PySem.W.Frag}{F:YP->Prop}{H:Hp}{p:YP}{vs:List V}{ds:List D}(a:H p=none)(r:Reps K F H ds vs):aO K F (aJ H p (.tup vs)) (.tuple ds) (.ref p):=
 .tup (.inl (.inl cP)) (r.stay (aI.fresh a).stay)
theorem aO.newLst{K:PySem.W.Frag}{F:YP->Prop}{H:Hp}{p:YP}{vs:List V}{ds:List D}(b:H p=none)(r:Reps K F H ds vs):aO K (fun a=>F a ∨ a=p) (aJ H p (.lst vs)) (.list ds) (.ref p):=
 .lst (.inl ⟨.inr rfl,.inl cP⟩) (r.stay (aI.frozen b).stay)
inductive Sl where
 | no
 | dat (d:D)
 | own (ds:List D)
 | ownD (kvs:List (D × D))
 | ownM (kvs:List (List Int × List D))
structure Q4 where
 k:List Int
 b:YP
 c:YP
 vs:List V
def Q4.ent(q:Q4):eH × YP × V:=(.inl q.k,q.b,.ref q.c)
structure LS(K:PySem.W.Frag)(F:YP->Prop)(H H₀:Hp)(kv:List Int × List D)(q:Q4):Prop where
 key:kv.1=q.k
 sq:bJ K H q.b (q.k.map V.int)
 hc:H q.c=some (LR q.c q.vs)
 nf:¬ F q.c
 h0:H₀ q.c=none
 rs:Reps K F H kv.2 q.vs
structure v4(K:PySem.W.Frag)(F:YP->Prop)(H H₀:Hp)(kvs:List (List Int × List D))(a:YP)(qs:List Q4)(ep:Nat):Prop where
 hd:H a=some (bI a (qs.map Q4.ent) ep)
 nf:¬ F a
 h0:H₀ a=none
 nd:(qs.map (·.k)).Nodup
 ln:qs.length<=1000
 nv:(qs.map (·.c)).Nodup
 na:a∉qs.map (·.c)
 ps:Paired (LS K F H H₀) kvs qs
def qV(K:PySem.W.Frag)(F:YP->Prop)(H H₀:Hp):Option V->Sl->Prop
 | _,.no=>True
 | o,.dat d=>∃ v,o=some v/\aO K F H d v
 | o,.own ds=>∃ a vs,o=some (.ref a)/\H a=some (.lst vs)/\¬ F a/\H₀ a=none/\Reps K F H ds vs
 | o,.ownD kvs=>∃ a es ep,o=some (.ref a)/\H a=some (bI a es ep)/\¬ F a/\H₀ a=none/\(es.map (·.1)).Nodup/\es.length<=1000/\DReps K F H kvs es
 | o,.ownM kvs=>∃ a es ep,o=some (.ref a)/\v4 K F H H₀ kvs a es ep
structure aZ(K:PySem.W.Frag)(F:YP->Prop)(H H₀:Hp)(σ:L2.St)(ρ:List Sl):Prop where
 len:σ.length=ρ.length
 sl:∀(i:Nat) (s:Sl),ρ[i]?=some s->∃ o,σ[i]?=some o/\qV K F H H₀ o s
 sep:∀(i j:Nat) (a:YP) (ds es:List D),i≠j->ρ[i]?=some (.own ds)->ρ[j]?=some (.own es)->σ[i]?=some (some (.ref a))->σ[j]?≠some (some (.ref a))
 fz:∀ a,F a->H a≠none
theorem v4.to{K:PySem.W.Frag}{F e:YP->Prop}{H d H₀:Hp}{c:List (List Int × List D)}{a:YP}{es:List Q4}{ep:Nat}(m:v4 K F H H₀ c a es ep)(T:bA K F e H d)
  (k:∀ b φ,H b=some (.ext φ)->¬ F b->d b=some (.ext φ)/\¬ e b):v4 K e d H₀ c a es ep:=
 ⟨(k _ _ m.hd m.nf).1,(k _ _ m.hd m.nf).2,m.h0,m.nd,m.ln,m.nv,m.na,Paired.mapP m.ps fun _ _ q=>⟨q.key,T.tp _ _ q.sq,(k _ _ q.hc q.nf).1,(k _ _ q.hc q.nf).2,q.h0,q.rs.stay T⟩⟩
theorem qV.ext{K:PySem.W.Frag}{F w:YP->Prop}{H u H₀:Hp}(e:aI F w H u){o:Option V}{s:Sl}(h:qV K F H H₀ o s):qV K w u H₀ o s:=by
 cases s with
 | no=>trivial
 | ownM i=>
  obtain⟨a,k,p,q,m⟩:=h
  refine⟨a,k,p,q,m.to e.stay fun b y t c=>⟨e.same _ _ t,fun f=>?_⟩⟩
  rcases e.new b f with f | ⟨f,_⟩
  ·exact c f
  ·rw [t]at f;cases f
 | ownD i=>
  obtain⟨a,k,p,q,g,c,j,n,l,r⟩:=h
  refine⟨a,k,p,q,e.same _ _ g,fun f=>?_,j,n,l,r.stay e.stay⟩
  rcases e.new a f with f | ⟨f,_⟩
  ·exact c f
  ·rw [g]at f;cases f
 | dat d=>obtain⟨v,q,r⟩:=h;exact⟨v,q,r.stay e.stay⟩
 | own z=>
  obtain⟨a,x,q,g,c,j,r⟩:=h
  refine⟨a,x,q,e.same _ _ g,fun f=>?_,j,r.stay e.stay⟩
  rcases e.new a f with f | ⟨f,_⟩
  ·exact c f
  ·rw [g]at f;cases f
theorem aI.fz(e:aI F F' H H')(z:∀ a,F a->H a≠none):∀ a,F' a->H' a≠none:=fun a f q=>by
 rcases e.new a f with f | ⟨_,f⟩
 ·exact z a f (e.same.free q)
 ·exact f q
theorem aZ.ext{K:PySem.W.Frag}{F c:YP->Prop}{H b H₀:Hp}{a:L2.St}{ρ:List Sl}(S:aZ K F H H₀ a ρ)(e:aI F c H b):aZ K c b H₀ a ρ:=
 ⟨S.len,fun i s h=>let⟨o,q,r⟩:=S.sl i s h;⟨o,q,r.ext e⟩,S.sep,e.fz S.fz⟩
theorem aZ.dat{K:PySem.W.Frag}{F:YP->Prop}{H H₀:Hp}{a:L2.St}{ρ:List Sl}(S:aZ K F H H₀ a ρ){i:Nat}{d:D}(h:ρ[i]?=some (.dat d)):∃ v,a[i]?=some (some v)/\aO K F H d v:=by
 obtain⟨o,q,v,e,r⟩:=S.sl i _ h
 exact⟨v,by rw [q,e],r⟩
theorem aZ.ownD{K:PySem.W.Frag}{F:YP->Prop}{H H₀:Hp}{c:L2.St}{ρ:List Sl}(S:aZ K F H H₀ c ρ){i:Nat}{b:List (D × D)}(h:ρ[i]?=some (.ownD b)):
  ∃ a es ep,c[i]?=some (some (.ref a))/\H a=some (bI a es ep)/\¬ F a/\H₀ a=none/\(es.map (·.1)).Nodup/\es.length<=1000/\DReps K F H b es:=by
 obtain⟨o,q,a,es,ep,e,r⟩:=S.sl i _ h
 exact⟨a,es,ep,by rw [q,e],r⟩
theorem aZ.own{K:PySem.W.Frag}{F:YP->Prop}{H H₀:Hp}{b:L2.St}{ρ:List Sl}(S:aZ K F H H₀ b ρ){i:Nat}{ds:List D}(h:ρ[i]?=some (.own ds)):
  ∃ a vs,b[i]?=some (some (.ref a))/\H a=some (.lst vs)/\¬ F a/\H₀ a=none/\Reps K F H ds vs:=by
 obtain⟨o,q,a,vs,e,r⟩:=S.sl i _ h
 exact⟨a,vs,by rw [q,e],r⟩
theorem aZ.put{K:PySem.W.Frag}{F:YP->Prop}{H H₀:Hp}{m:L2.St}{ρ:List Sl}(S:aZ K F H H₀ m ρ){i:Nat}{d:D}{v:V}(r:aO K F H d v):aZ K F H H₀ (m.set i (some v)) (ρ.set i (.dat d)):=by
 refine⟨by simp [S.len],fun j s h=>?_,fun j k a x u l g f n=>?_,S.fz⟩
 ·by_cases b:i=j
  ·subst b
   have c:i<ρ.length:=by
    have:=Qc.mp h
    simpa using this.1
   rw [Qy c]at h;cases h
   exact⟨some v,by rw [Qy (by rw [S.len];exact c)],v,rfl,r⟩
  ·rw [Qr b]at h;obtain⟨o,q,w⟩:=S.sl j s h
   exact⟨o,by rw [Qr b];exact q,w⟩
 ·have t:i≠j:=by
   intro e;subst e
   have c:i<ρ.length:=by
    have:=Qc.mp g
    simpa using this.1
   rw [Qy c]at g;cases g
  have p:i≠k:=by
   intro e;subst e
   have c:i<ρ.length:=by
    have:=Qc.mp f
    simpa using this.1
   rw [Qy c]at f;cases f
  rw [Qr t]at g n;rw [Qr p]at f ⊢;exact S.sep j k a x u l g f n
theorem aZ.putOwn{K:PySem.W.Frag}{F:YP->Prop}{H H₀:Hp}{A:L2.St}{ρ:List Sl}(S:aZ K F H H₀ A ρ){i:Nat}{ds:List D}{vs:List V}{p:YP}(B:H p=none)(O:H₀ p=none)(r:Reps K F H ds vs):
  aZ K F (aJ H p (.lst vs)) H₀ (A.set i (some (.ref p))) (ρ.set i (.own ds)):=by
 have e:aI F F H (aJ H p (.lst vs)):=aI.fresh B;have S':=S.ext e;have N:¬ F p:=fun f=>S.fz p f B
 refine⟨by simp [S.len],fun j s h=>?_,fun j k a v u l y x t n=>?_,S'.fz⟩
 ·by_cases c:i=j
  ·subst c
   have g:i<ρ.length:=by
    have:=Qc.mp h
    simpa using this.1
   rw [Qy g]at h;cases h
   exact⟨some (.ref p),by rw [Qy (by rw [S.len];exact g)],p,vs,rfl,cP,N,O,r.stay e.stay⟩
  ·rw [Qr c]at h;obtain⟨o,q,w⟩:=S'.sl j s h
   exact⟨o,by rw [Qr c];exact q,w⟩
 ·have old:∀(m:Nat) (a:YP) (u:List D),i≠m->(ρ.set i (.own ds))[m]?=some (.own u)->(A.set i (some (.ref p)))[m]?=some (some (.ref a))->a≠p:=fun m a u M I E z=>by
   rw [Qr M]at I E;obtain⟨b,Q,J,G,_⟩:=S.own I;rw [J]at E;cases E;subst z;rw [B]at G;cases G
  by_cases c:i=j
  ·subst c;have d:i≠k:=l
   have g:i<ρ.length:=by
    have:=Qc.mp y
    simpa using this.1
   rw [Qy (by rw [S.len];exact g)]at t;cases t;exact old k p u d x n rfl
  ·by_cases d:i=k
   ·subst d
    have g:i<ρ.length:=by
     have:=Qc.mp x
     simpa using this.1
    rw [Qy (by rw [S.len];exact g)]at n;cases n;exact old j p v c y t rfl
   ·rw [Qr c]at y t;rw [Qr d]at x n;exact S.sep j k a v u l y x t n
theorem aZ.turn{K:PySem.W.Frag}{F:YP->Prop}{H H₀:Hp}{N:L2.St}{ρ:List Sl}(S:aZ K F H H₀ N ρ){i:Nat}{ds es:List D}{vs us:List V}{p:YP}(J:ρ[i]?=some (.own ds))(hs:N[i]?=some (some (.ref p)))
  (I:H p=some (.lst vs)) (M:¬ F p) (r:Reps K F H es us):aZ K F (aJ H p (.lst us)) H₀ N (ρ.set i (.own es))/\bA K F F H (aJ H p (.lst us)):=by
 have T:bA K F F H (aJ H p (.lst us)):=⟨fun _ h=>h,fun a xs h=>by
   rcases h with(h | ⟨o,h⟩) | h
   ·exact .inl (.inl (by rw [aU (by intro z;subst z;rw [I]at h;cases h)];exact h))
   ·exact .inl (.inr ⟨o,by rw [aU (by intro z;subst z;rw [I]at h;cases h)];exact h⟩)
   ·exact .inr h,fun a xs f h=>by
   have x:a≠p:=fun z=>M (z ▸ f);rcases h with h | ⟨o,h⟩
   ·exact .inl (by rw [aU x];exact h)
   ·exact .inr ⟨o,by rw [aU x];exact h⟩,fun a Z f h=>by rw [aU (fun z=>M (by rw [<- z];exact f))];exact h⟩
 refine⟨⟨by simp [S.len],fun j s h=>?_,fun j k a u c Q h1 h2 h3=>?_,fun a f z=>S.fz a f (by
  have x:a≠p:=fun y=>M (by rw [<- y];exact f)
  rwa [aU x]at z)⟩,T⟩
 ·by_cases t:i=j
  ·subst t;have hl:i<ρ.length:=(Qc.mp J).1;rw [Qy hl]at h;cases h;obtain⟨a,ws,Y,_,_,q4,_⟩:=S.own J;rw [hs]at Y;cases Y
   exact⟨_,hs,p,us,rfl,cP,M,q4,r.stay T⟩
  ·rw [Qr t]at h;obtain⟨o,q,w⟩:=S.sl j s h
   refine⟨o,q,?_⟩
   cases s with
   | no=>trivial
   | ownM O=>
    obtain⟨a,c,X,e,m⟩:=w
    exact⟨a,c,X,e,m.to T fun b Z R B=>⟨by rw [aU (by intro z;subst z;rw [I]at R;cases R)];exact R,B⟩⟩
   | ownD O=>
    obtain⟨a,c,X,e,G,B,U,n,l,A⟩:=w
    exact⟨a,c,X,e,by rw [aU (by intro z;subst z;rw [I]at G;cases G)];exact G,B,U,n,l,A.stay T⟩
   | dat d=>obtain⟨v,e,A⟩:=w;exact⟨v,e,A.stay T⟩
   | own u=>
    obtain⟨a,ws,e,G,B,U,A⟩:=w
    have x:a≠p:=by
     intro z;subst z;exact S.sep i j a ds u t J h hs (by rw [q,e])
    exact⟨a,ws,e,by rw [aU x];exact G,B,U,A.stay T⟩
 ·have get:∀(m:Nat) (c:List D),(ρ.set i (.own es))[m]?=some (.own c)->∃ ds'':List D,ρ[m]?=some (.own ds''):=fun m c g=>by
   by_cases E:i=m
   ·subst E;exact⟨ds,J⟩
   ·rw [Qr E]at g;exact⟨c,g⟩
  obtain⟨d1,g1⟩:=get j u h1;obtain⟨d2,g2⟩:=get k c h2;exact S.sep j k a d1 d2 Q g1 g2 h3
def frz:Sl->Sl
 | .own b=>.dat (.list b)
 | .ownD a=>.dat (.dict a)
 | .ownM _=>.no
 | s=>s
def dY(b:L2.St)(ρ:List Sl)(a:YP):Prop:=(∃(i:Nat) (ds:List D),ρ[i]?=some (.own ds)/\b[i]?=some (some (.ref a))) ∨ ∃(i:Nat) (kvs:List (D × D)),ρ[i]?=some (.ownD kvs)/\b[i]?=some (some (.ref a))
theorem aZ.frz{K:PySem.W.Frag}{F:YP->Prop}{H H₀:Hp}{t:L2.St}{ρ:List Sl}(S:aZ K F H H₀ t ρ):aZ K (fun a=>F a ∨ dY t ρ a) H H₀ t (ρ.map frz):=by
 have T:bA K F (fun a=>F a ∨ dY t ρ a) H H:=⟨fun _ h=>.inl h,fun _ _ h=>h,fun _ _ _ h=>h,fun _ _ _ h=>h⟩
 refine⟨by simp [S.len],fun j s h=>?_,fun j k a B J _ p=>?_,fun a f=>?_⟩
 ·rw [QN]at h
  cases e:ρ[j]? with
  | none=>rw [e]at h;cases h
  | some u=>
   rw [e]at h;obtain⟨o,q,w⟩:=S.sl j u e
   refine⟨o,q,?_⟩
   cases u with
   | no=>cases h;trivial
   | ownM g=>cases h;trivial
   | ownD g=>
    cases h;obtain⟨a,J,M,c,y,G,I,n,l,r⟩:=w
    exact⟨.ref a,c,.dct (.inr (.inr ⟨j,g,e,by rw [q,c]⟩)) y n l (r.stay T)⟩
   | dat d=>cases h;obtain⟨v,c,r⟩:=w;exact⟨v,c,r.stay T⟩
   | own B=>
    cases h;obtain⟨a,E,c,y,G,I,r⟩:=w
    exact⟨.ref a,c,.lst (.inl ⟨.inr (.inl ⟨j,B,e,by rw [q,c]⟩),.inl y⟩) (r.stay T)⟩
 ·rw [QN]at p
  cases e:ρ[j]? with
  | none=>rw [e]at p;cases p
  | some u=>rw [e]at p;cases u <;> cases p
 ·rcases f with f | ⟨i,B,x,m⟩ | ⟨i,g,x,m⟩
  ·exact S.fz a f
  ·obtain⟨b,E,A,z,_⟩:=S.own x;rw [A]at m;cases m;rw [z];simp
  ·obtain⟨b,E,M,A,z,_⟩:=S.ownD x;rw [A]at m;cases m;rw [z];simp
theorem aZ.frz1{K:PySem.W.Frag}{F:YP->Prop}{H H₀:Hp}{R:L2.St}{ρ:List Sl}(S:aZ K F H H₀ R ρ){i:Nat}{ds:List D}(O:ρ[i]?=some (.own ds)):
  ∃ a,H₀ a=none/\aZ K (fun b=>F b ∨ b=a) H H₀ R (ρ.set i (.dat (.list ds))):=by
 obtain⟨a,vs,U,A,nf,h0,r⟩:=S.own O;have T:bA K F (fun b=>F b ∨ b=a) H H:=⟨fun _ h=>.inl h,fun _ _ h=>h,fun _ _ _ h=>h,fun _ _ _ h=>h⟩;have M:i<ρ.length:=(Qc.mp O).1
 refine⟨a,h0,by simp [S.len],fun j s h=>?_,fun j k b y es N I G h3=>?_,fun b f=>f.elim (S.fz b) fun z=>by subst z;rw [A];simp⟩
 ·by_cases t:i=j
  ·subst t;rw [Qy M]at h;cases h
   exact⟨_,U,.ref a,rfl,.lst (.inl ⟨.inr rfl,.inl A⟩) (r.stay T)⟩
  ·rw [Qr t]at h;obtain⟨o,q,w⟩:=S.sl j s h
   refine⟨o,q,?_⟩
   cases s with
   | no=>trivial
   | ownM J=>
    obtain⟨b,x,Q,p,m⟩:=w
    refine⟨b,x,Q,p,m.to T fun c φ X g=>⟨X,fun f=>?_⟩⟩
    rcases f with f | f
    ·exact g f
    ·subst f;rw [X]at A;cases A
   | ownD J=>
    obtain⟨b,x,Q,p,E,g,u,n,l,B⟩:=w
    refine⟨b,x,Q,p,E,fun f=>?_,u,n,l,B.stay T⟩
    rcases f with f | f
    ·exact g f
    ·subst f;rw [E]at A;cases A
   | dat d=>obtain⟨v,p,B⟩:=w;exact⟨v,p,B.stay T⟩
   | own y=>
    obtain⟨b,ws,p,E,g,u,B⟩:=w
    refine⟨b,ws,p,E,fun f=>?_,u,B.stay T⟩
    rcases f with f | f
    ·exact g f
    ·subst f;exact S.sep i j b ds y t O h U (by rw [q,p])
 ·have Z:i≠j:=by intro e;subst e;rw [Qy M]at I;cases I
  have Y:i≠k:=by intro e;subst e;rw [Qy M]at G;cases G
  rw [Qr Z]at I;rw [Qr Y]at G;exact S.sep j k b y es N I G h3
end DL
namespace DL
open PySem.Spec L2
abbrev aA:=List Sl
section
variable {X:Cx}
theorem cJ{e:Expr}{t t':TE}(h:PE X e t)(m:∀ σ H Q,t' σ H Q->t σ H Q):PE X e t':=fun a s σ H Q I q=>h a s σ H Q I (m σ H Q q)
theorem l8{e:Expr}{t t':TT}(h:PT X e t)(m:∀ σ H Q,t' σ H Q->t σ H Q):PT X e t':=fun a s σ H Q I q=>h a s σ H Q I (m σ H Q q)
theorem Kd{e:Expr}{t t':TT}(h:PW X e t)(m:∀ σ H Q,t' σ H Q->t σ H Q):PW X e t':=fun b a s σ H Q I q=>h b a s σ H Q I (m σ H Q q)
theorem nQ{es:List Expr}{t t':TA}(h:PA X es t)(m:∀ σ H Q,t' σ H Q->t σ H Q):PA X es t':=fun b a s σ H Q I q=>h b a s σ H Q I (m σ H Q q)
theorem ps_mono(h:PS X e t)(m:∀ W σ H,t' W σ H->t W σ H):PS X e t':=fun a s σ H W I q=>h a s σ H W I (m W σ H q)
theorem t6(h:fM X e t)(m:∀ W σ H,t' W σ H->t W σ H):fM X e t':=fun a s σ H W I q=>h a s σ H W I (m W σ H q)
theorem tW(h:bF X f r)(m:∀ x y H Q,r' x y H Q->r x y H Q):bF X f r':=fun a s b H x y v u Q I d c q=>h a s b H x y v u Q I d c (m x y H Q q)
theorem zSQ(h:mU X f r)(m:∀ x H Q,r' x H Q->r x H Q):mU X f r':=fun a s b H x v Q I c q=>h a s b H x v Q I c (m x H Q q)
theorem pZ(h:dW X f r)(m:∀ x H Q,r' x H Q->r x H Q):dW X f r':=fun a s b H x v Q I c q=>h a s b H x v Q I c (m x H Q q)
theorem V3(h:gC X r)(m:∀ x y H Q,r' x y H Q->r x y H Q):gC X r':=fun a b c s d H x y v u Q I f e q g=>h a b c s d H x y v u Q I f e (m x y H Q q) g
end
inductive mP(K:PySem.W.Frag)(σ:L2.St)(H:Hp){α:Type}(g:aA->Option α)(h:(YP->Prop)->α->Prop):Prop
 | mk (F:YP->Prop) (H₀:Hp) (ρ:aA) (x:α) (S:aZ K F H H₀ σ ρ) (q:g ρ=some x) (k:h F x):mP K σ H g h
def tD(K:PySem.W.Frag)(g:aA->Option D):TE:=fun a H Q=>mP K a H g fun F d=>∀ F' H' v,aI F F' H H'->aO K F' H' d v->Q v H'
def nA(K:PySem.W.Frag)(g:aA->Option Bool):TT:=fun a H Q=>mP K a H g fun F b=>∀ F' H',aI F F' H H'->Q b H'
def DX(K:PySem.W.Frag)(g:aA->Option (List D)):TA:=fun a H Q=>mP K a H g fun F b=>∀ F' H' vs,aI F F' H H'->Reps K F' H' b vs->Q vs H'
def DE(X:Cx)(e:Expr)(g:aA->Option D):Prop:=PE X e (tD X.K g)
def DT(X:Cx)(e:Expr)(g:aA->Option Bool):Prop:=PT X e (nA X.K g)
def DW(X:Cx)(e:Expr)(g:aA->Option Bool):Prop:=PW X e (nA X.K g)
def DA(X:Cx)(es:List Expr)(g:aA->Option (List D)):Prop:=PA X es (DX X.K g)
def eC(d:D):aA->Option D:=fun _=>some d
def eV(i:Nat):aA->Option D:=fun a=>match a[i]? with
 | some (.dat d)=>some d
 | _=>none
def aE(f:D->D->Option D)(b gb:aA->Option D):aA->Option D:=fun a=>(b a).bind fun x=>(gb a).bind fun y=>f x y
def lE(f:D->Option D)(b:aA->Option D):aA->Option D:=fun a=>(b a).bind f
def aG:aA->Option (List D):=fun _=>some []
def aD(c:aA->Option D)(gr:aA->Option (List D)):aA->Option (List D):=fun a=>(c a).bind fun x=>(gr a).bind fun b=>some (x::b)
def bV(c:aA->Option (List D)):aA->Option D:=fun b=>(c b).bind fun a=>if a.length<=1000 then some (.tuple a)else none
def dG(c:aA->Option (List D)):aA->Option D:=fun b=>(c b).bind fun a=>if a.length<=1000 then some (.list a)else none
def aY(G:List D->Option D)(b:aA->Option (List D)):aA->Option D:=fun a=>(b a).bind G
def eY:D->Option Bool
 | .bool b=>some b
 | _=>none
def uR:D->Option Int
 | .int i=>some i
 | _=>none
def eB(b:aA->Option D):aA->Option Bool:=fun a=>(b a).bind eY
def fW(t u:aA->Option Bool):aA->Option Bool:=fun a=>(t a).bind fun b=>if b=true then u a else some false
def mX(t u:aA->Option Bool):aA->Option Bool:=fun a=>(t a).bind fun b=>if b=true then some true else u a
def lD(t:aA->Option Bool):aA->Option Bool:=fun a=>(t a).bind fun b=>some (!b)
def uU(t:aA->Option Bool)(c gb:aA->Option D):aA->Option D:=fun a=>(t a).bind fun b=>if b=true then c a else gb a
def j4(b gb:aA->Option D):aA->Option D:=fun a=>(b a).bind fun x=>(eY x).bind fun c=>if c=true then gb a else some (.bool false)
def MD(b gb:aA->Option D):aA->Option D:=fun a=>(b a).bind fun x=>(eY x).bind fun c=>if c=true then some (.bool true)else gb a
def AM(b:aA->Option D):aA->Option D:=fun a=>(b a).bind fun x=>(eY x).bind fun c=>some (.bool (!c))
def g7(h h':D->D->Option D)(c gb b:aA->Option D):aA->Option D:=fun a=>(c a).bind fun x=>(gb a).bind fun y=>(h x y).bind fun z=>(eY z).bind fun k=>if k=true then(b a).bind fun w=>h' y w else some (.bool false)
inductive Dg(K:PySem.W.Frag)(h:D->D->Option D)(x y:V)(H:Hp)(Q:VK):Prop
 | mk (F:YP->Prop) (d e r:D) (z:∀ a,F a->H a≠none) (R1:aO K F H d x) (R2:aO K F H e y) (q:h d e=some r) (k:∀ F' H' v,aI F F' H H'->aO K F' H' r v->Q v H'):Dg K h x y H Q
def cD(K:PySem.W.Frag)(h:D->D->Option D):R2:=fun x y H Q=>Dg K h x y H Q
inductive Df(K:PySem.W.Frag)(h:D->Option D)(x:V)(H:Hp)(Q:VK):Prop
 | mk (F:YP->Prop) (d r:D) (z:∀ a,F a->H a≠none) (R1:aO K F H d x) (q:h d=some r) (k:∀ F' H' v,aI F F' H H'->aO K F' H' r v->Q v H'):Df K h x H Q
def DP(K:PySem.W.Frag)(h:D->Option D):V->Hp->VK->Prop:=fun x H Q=>Df K h x H Q
inductive Dh(K:PySem.W.Frag)(h:List D->Option D)(xs:List V)(H:Hp)(Q:VK):Prop
 | mk (F:YP->Prop) (ds:List D) (r:D) (z:∀ a,F a->H a≠none) (R1:Reps K F H ds xs) (q:h ds=some r) (k:∀ F' H' v,aI F F' H H'->aO K F' H' r v->Q v H'):Dh K h xs H Q
def jE(K:PySem.W.Frag)(h:List D->Option D):List V->Hp->VK->Prop:=fun a H Q=>Dh K h a H Q
section
variable {X:Cx}{a b c e:Expr}{es:List Expr}{ga gb gc:aA->Option D}{pos p:Pos}
theorem aF{d c:Type}{o:Option d}{f:d->Option c}{b:c}(h:o.bind f=some b):∃ a,o=some a/\f a=some b:=by
 cases o with
 | none=>cases h
 | some a=>exact⟨a,rfl,h⟩
theorem wM(h:PE X e (tC v))(r:∀ K F H,aO K F H d v):DE X e (eC d):=
 cJ h fun c H Q b=>by
  obtain⟨F,a,f,g,S,q,k⟩:=b;cases q;exact k F H v (aI.refl F H) (r _ _ _)
theorem aQ:DE X (.Constant (.int i) j pos) (eC (.int i)):=wM Wd fun _ _ _=>.int i
theorem iX:DE X (.Constant (.bool i) j pos) (eC (.bool i)):=wM N0 fun _ _ _=>.bl i
theorem Ep:DE X (.Constant .none j pos) (eC .none):=wM X0 fun _ _ _=>.non
theorem Gj:DE X (.Constant (.str x) j pos) (eC (.str x)):=wM X6 fun _ _ _=>.str x
theorem aC(i:Nat)(j:X.N[i]?=some x:=by rfl)(f:gD X.env.scope x:=by first | exact Zi rfl | exact Zd (Zi rfl) | exact Zd (Zd rfl))(h:(x == ("__debug__":Str))=false:=by decide)
  (a:(x == ("__classdict__":Str))=false:=by decide):DE X (.Name x pos) (eV i):=
 cJ (gQ j f h a) fun l H Q c=>by
  obtain⟨F,b,m,d,S,q,k⟩:=c;unfold eV at q
  split at q
  ·rename_i n e;cases q;obtain⟨v,g,r⟩:=S.dat e
   exact⟨v,g,k F H v (aI.refl F H) r⟩
  ·cases q
theorem yE{h:D->D->Option D}{b:L2.St}{H:Hp}{Q:VK}(q:tD X.K (aE h ga gb) b H Q):lL (cD X.K h) (tD X.K ga) (tD X.K gb) b H Q:=by
 obtain⟨F,a,c,d,S,q,k⟩:=q;obtain⟨x,f,q⟩:=aF q;obtain⟨y,e,q⟩:=aF q
 exact⟨F,a,c,x,S,f,fun m p v E1 R1=>⟨m,a,c,y,S.ext E1,e,fun l o u E2 R2=>⟨l,x,y,d,((S.ext E1).ext E2).fz,R1.stay E2.stay,R2,q,fun j i w n g=>k j i w (E1.trans (E2.trans n)) g⟩⟩⟩
theorem bE(c:bF X (ZD op) (cD X.K h))(e:DE X a ga)(d:DE X b gb):DE X (.BinOp a op b pos) (aE h ga gb):=
 cJ (N1 c e d) fun _ _ _ q=>yE q
theorem Br(c:bF X (Ze op) (cD X.K h))(f:DE X a ga)(e:DE X b gb)(d:ZN op b=false):DE X (.Compare a [op] [b] pos) (aE h ga gb):=
 cJ (Wa c f e d) fun _ _ _ q=>yE q
theorem bL(c:gC X (cD X.K h))(e:DE X a ga)(d:DE X b gb)(hs:sA b:=by exact fun _ _=>rfl):DE X (.Subscript a b pos) (aE h ga gb):=
 cJ (w5 c e d hs) fun _ _ _ q=>yE q
theorem vQ{op:UnaryOp}{h:D->Option D}(f:mU X (unaryOp op) (DP X.K h))(g:DE X a ga):DE X (.UnaryOp op a pos) (lE h ga):=
 cJ (N2 f g) fun r H Q e=>by
  obtain⟨F,b,c,d,S,q,k⟩:=e;obtain⟨x,i,q⟩:=aF q
  exact⟨F,b,c,x,S,i,fun o s v E1 l=>⟨o,x,d,(S.ext E1).fz,l,q,fun n m w p j=>k n m w (E1.trans p) j⟩⟩
theorem mD{K:PySem.W.Frag}{F:YP->Prop}{H:Hp}{d:D}{v:V}{b:Bool}(r:aO K F H d v)(h:eY d=some b):v=.bl b:=by
 cases r with
 | bl c=>cases h;rfl
 | _=>cases h
theorem XD{K:PySem.W.Frag}{F:YP->Prop}{H:Hp}{d:D}{v:V}{i:Int}(r:aO K F H d v)(h:uR d=some i):v=.int i:=by
 cases r with
 | int c=>cases h;rfl
 | _=>cases h
theorem Ck{t:TE}{g:aA->Option D}(m:∀ a H Q,tD X.K g a H Q->t a H Q){a:L2.St}{H:Hp}{Q:Bool->Hp->Prop}(q:nA X.K (eB g) a H Q):xU t a H Q:=by
 obtain⟨F,c,e,b,S,q,k⟩:=q;obtain⟨d,f,q⟩:=aF q;exact m a H _ ⟨F,c,e,d,S,f,fun j i v l h=>⟨b,mD h q,k j i l⟩⟩
theorem cQ(c:bF X (Ze op) (cD X.K h))(f:DE X a ga)(e:DE X b gb)(d:ZN op b=false):DT X (.Compare a [op] [b] pos) (eB (aE h ga gb)):=
 l8 (xG c f e d) fun _ _ _ q=>Ck (fun _ _ _=>yE) q
theorem GZ{h h':D->D->Option D}{c:L2.St}{H:Hp}{Q:VK}(q:tD X.K (g7 h h' ga gb gc) c H Q):B6 (cD X.K h) (cD X.K h') (tD X.K ga) (tD X.K gb) (tD X.K gc) c H Q:=by
 obtain⟨F,a,b,d,S,q,k⟩:=q;obtain⟨x,o,q⟩:=aF q;obtain⟨y,n,q⟩:=aF q;obtain⟨z,m,q⟩:=aF q;obtain⟨f,l,q⟩:=aF q
 refine⟨F,a,b,x,S,o,fun I R v E1 R1=>⟨I,a,b,y,S.ext E1,n,fun G O u E2 R2=>⟨G,x,y,z,((S.ext E1).ext E2).fz,R1.stay E2.stay,R2,m,fun g A w E3 s=>⟨f,mD s l,?_⟩⟩⟩⟩
 cases f with
 | false=>
  simp only [Qm,if_false]at q ⊢;cases q;exact k g A _ (E1.trans (E2.trans E3)) (.bl false)
 | true=>
  simp only [if_true]at q ⊢;obtain⟨e,j,q⟩:=aF q;have S3:=((S.ext E1).ext E2).ext E3
  exact⟨g,a,b,e,S3,j,fun E N M E4 r=>⟨E,y,e,d,(S3.ext E4).fz,(R2.stay E3.stay).stay E4.stay,r,q,fun B t i J p=>k B t i (E1.trans (E2.trans (E3.trans (E4.trans J)))) p⟩⟩
theorem En(e:bF X (Ze op) (cD X.K h))(d:bF X (Ze op') (cD X.K h'))(j:DE X a ga)(i:DE X b gb)(g:DE X c gc)
  (f:lastMarks [op,op'] [b,c]=false:=by with_unfolding_all rfl):DE X (.Compare a [op,op'] [b,c] pos) (g7 h h' ga gb gc):=
 cJ (V9 e d j i g f) fun _ _ _ q=>GZ q
theorem Gx(e:bF X (Ze op) (cD X.K h))(d:bF X (Ze op') (cD X.K h'))(j:DE X a ga)(i:DE X b gb)(g:DE X c gc)
  (f:lastMarks [op,op'] [b,c]=false:=by with_unfolding_all rfl):DT X (.Compare a [op,op'] [b,c] pos) (eB (g7 h h' ga gb gc)):=
 l8 (zRt e d j i g f) fun _ _ _ q=>Ck (fun _ _ _=>GZ) q
theorem lU(g:DE X a ga)(he:∀ whole,isTrue a X.env whole=(do let v <- whole;standAt a.pos;UB [v] (truthy v)):=by intro _;rfl):DT X a (eB ga):=
 l8 (zRv g he) fun n H Q f=>by
  obtain⟨F,c,e,b,S,q,k⟩:=f;obtain⟨d,h,q⟩:=aF q
  exact⟨F,c,e,d,S,h,fun l j v m i=>⟨b,mD i q,k l j m⟩⟩
variable {t u:aA->Option Bool}{rest:List Expr}
theorem vX(b:DT X a t):DW X (.BoolOp .And [a] pos) t:=Xp b
theorem AJ(b:DT X a t):DW X (.BoolOp .Or [a] pos) t:=Xq b
theorem vW(i:DT X a t)(h:DW X (.BoolOp .And (b::rest) pos) u):DW X (.BoolOp .And (a::b::rest) pos) (fW t u):=
 Kd (Xn i h) fun p H Q g=>by
  obtain⟨F,c,e,r,S,q,k⟩:=g;obtain⟨d,j,q⟩:=aF q
  refine⟨F,c,e,d,S,j,fun f m E1=>?_⟩
  cases d with
  | true=>simp only [if_true]at q ⊢;exact⟨f,c,e,r,S.ext E1,q,fun n l o=>k n l (E1.trans o)⟩
  | false=>simp only [Qm,if_false]at q ⊢;cases q;exact k f m E1
theorem Bz(i:DT X a t)(h:DW X (.BoolOp .Or (b::rest) pos) u):DW X (.BoolOp .Or (a::b::rest) pos) (mX t u):=
 Kd (N6 i h) fun p H Q g=>by
  obtain⟨F,c,e,r,S,q,k⟩:=g;obtain⟨d,j,q⟩:=aF q
  refine⟨F,c,e,d,S,j,fun f m E1=>?_⟩
  cases d with
  | false=>simp only [Qm,if_false]at q ⊢;exact⟨f,c,e,r,S.ext E1,q,fun n l o=>k n l (E1.trans o)⟩
  | true=>simp only [if_true]at q ⊢;cases q;exact k f m E1
theorem mW(h:DW X a t):DT X a t:=PW.pt h
theorem vV(f:DT X a t):DT X (.UnaryOp .Not a pos) (lD t):=
 l8 (zRu f) fun l H Q e=>by
  obtain⟨F,b,c,r,S,q,k⟩:=e;obtain⟨d,g,q⟩:=aF q;cases q
  exact⟨F,b,c,d,S,g,fun i h j=>k i h j⟩
theorem vP(b:DE X a ga):DE X (.BoolOp op [a] pos) ga:=X4 b
theorem wL(j:DE X a ga)(i:DE X (.BoolOp .And (b::rest) pos) gb):DE X (.BoolOp .And (a::b::rest) pos) (j4 ga gb):=
 cJ (V6 j i) fun u H Q h=>by
  obtain⟨F,e,f,r,S,q,k⟩:=h;obtain⟨d,m,q⟩:=aF q;obtain⟨c,l,q⟩:=aF q
  refine⟨F,e,f,d,S,m,fun g p v E1 n=>⟨c,mD n l,?_⟩⟩
  cases c with
  | true=>simp only [if_true]at q ⊢;exact⟨g,e,f,r,S.ext E1,q,fun s o w t R2=>k s o w (E1.trans t) R2⟩
  | false=>simp only [Qm,if_false]at q ⊢;cases q;exact k g p _ E1 (.bl false)
theorem SU(g:DE X a ga):DE X (.UnaryOp .Not a pos) (AM ga):=
 cJ (X3 g) fun o H Q f=>by
  obtain⟨F,b,e,r,S,q,k⟩:=f;obtain⟨d,i,q⟩:=aF q;obtain⟨c,h,q⟩:=aF q;cases q
  exact⟨F,b,e,d,S,i,fun m l v n j=>⟨c,mD j h,k m l _ n (.bl _)⟩⟩
theorem Eo(m:DT X c t)(o:DE X a ga)(n:DE X b gb):DE X (.IfExp c a b pos) (uU t ga gb):=
 cJ (Wc m o n) fun s H Q l=>by
  obtain⟨F,e,f,r,S,q,k⟩:=l;obtain⟨d,p,q⟩:=aF q
  refine⟨F,e,f,d,S,p,fun j u E1=>?_⟩
  cases d with
  | true=>simp only [if_true]at q ⊢;exact⟨j,e,f,r,S.ext E1,q,fun h g w i R2=>k h g w (E1.trans i) R2⟩
  | false=>simp only [Qm,if_false]at q ⊢;exact⟨j,e,f,r,S.ext E1,q,fun h g w i R2=>k h g w (E1.trans i) R2⟩
variable {gr:aA->Option (List D)}
theorem aN:DA X [] aG:=nQ hE fun c H Q b=>by
 obtain⟨F,a,e,d,S,q,k⟩:=b;cases q;exact k F H [] (aI.refl F H) .nil
theorem SM(h:DE X e ga)(g:DA X es gr)(hs:J2 (e::es) X.env=(false,Zr e X.env)::J2 es X.env:=by rfl):DA X (e::es) (aD ga gr):=
 nQ (fS h g hs) fun o H Q c=>by
  obtain⟨F,a,b,d,S,q,k⟩:=c;obtain⟨x,j,q⟩:=aF q;obtain⟨f,i,q⟩:=aF q;cases q
  exact⟨F,a,b,x,S,j,fun n r v E1 R1=>⟨n,a,b,f,S.ext E1,i,fun m l p E2 R2=>k m l _ (E1.trans E2) (.cons (R1.stay E2.stay) R2)⟩⟩
theorem fJ{n:Nat}(h:n<=1000):n<=sizeLine:=YJ (uB h)
theorem SX{x1}(h:DA X es gr):DE X (.Tuple es x1 pos) (bV gr):=
 cJ (IN h) fun l H Q g=>by
  obtain⟨F,a,f,d,S,q,k⟩:=g;obtain⟨c,i,q⟩:=aF q
  refine⟨F,a,f,c,S,i,fun j n m E1 R1=>?_⟩
  by_cases b:c.length<=1000
  ·rw [if_pos b]at q;cases q
   refine⟨fJ (by rw [<- R1.length];exact b),fun p e=>k j _ _ (E1.trans (aI.fresh e)) (aO.newTup e R1)⟩
  ·rw [if_neg b]at q;cases q
theorem gM(h:DA X es gr):DE X (.List es pos) (dG gr):=
 cJ (CD h) fun j H Q g=>by
  obtain⟨F,a,f,d,S,q,k⟩:=g;obtain⟨c,i,q⟩:=aF q
  refine⟨F,a,f,c,S,i,fun n m l E1 R1=>?_⟩
  by_cases b:c.length<=1000
  ·rw [if_pos b]at q;cases q
   refine⟨fJ (by rw [<- R1.length];exact b),fun p e=>k _ _ _ (E1.trans (aI.frozen e)) (aO.newLst e R1)⟩
  ·rw [if_neg b]at q;cases q
theorem G0{h:List D->Option D}{b:L2.St}{H:Hp}{Q:VK}(q:tD X.K (aY h gr) b H Q):As (jE X.K h) (DX X.K gr) b H Q:=by
 obtain⟨F,a,e,d,S,q,k⟩:=q;obtain⟨c,f,q⟩:=aF q
 exact⟨F,a,e,c,S,f,fun l o n E1 g=>⟨l,c,d,(S.ext E1).fz,g,q,fun j i w m R2=>k j i w (E1.trans m) R2⟩⟩
theorem j3{id:String}{x:Str}{h:List D->Option D}(g:dW X (.builtin id) (jE X.K h))(f:Gl X x)(d:X.mg x=none)(b:Zw x=some (.builtin id))(i:DA X (e::es) gr)(c:x≠"__name__":=by decide)(a:(x == ("__debug__":Str))=false:=by decide)
  (he:J2 (e::es) X.env=(false,Zr e X.env)::J2 es X.env:=by rfl) (hpl:(Zt pos (J2 es X.env)).any (·.1)=false:=by rfl):DE X (.Call (.Name x p) (e::es) [] pos) (aY h gr):=
 cJ (CA g f d b i c a he hpl) fun _ _ _ q=>G0 q
theorem Bq(g:dW X (.type T) (jE X.K h))(f:Gl X x)(d:X.mg x=none)(b:Zw x=some (.type T))(i:DA X (e::es) gr)(c:x≠"__name__":=by decide)(a:(x == ("__debug__":Str))=false:=by decide)
  (he:J2 (e::es) X.env=(false,Zr e X.env)::J2 es X.env:=by rfl) (hpl:(Zt pos (J2 es X.env)).any (·.1)=false:=by rfl):DE X (.Call (.Name x p) (e::es) [] pos) (aY h gr):=
 cJ (wZ g f d b i c a he hpl) fun _ _ _ q=>G0 q
def aW(K:PySem.W.Frag)(n:Nat)(G:List D->Option D):Sp:=fun b H Q _=>∃(F:YP->Prop) (ds:List D) (d:D),ds.length=n/\(∀ a,F a->H a≠none)/\Reps K F H ds b/\G ds=some d/\∀ F' H' v,aI F F' H H'->aO K F' H' d v->Q v H'
theorem SQ{k n:Nat}{f:YP}{i:Zh}{h:List Str}{x:Str}{G:List D->Option D}(F:aK X.prog X.w X.K X.mg X.base aM k f i h (aW X.K n G))(o:cA k X.A)(t:Gl X x)(r:X.mg x=some (.ref f))(s:PySem.W.keepIn X.K (.ref f)=true)(u:Binds X.K i h [])
  (v:DA X (e::es) gr) (c:∀ ρ ds,gr ρ=some ds->ds.length=n) (g:(x == ("__debug__":Str))=false:=by decide) (he:J2 (e::es) X.env=(false,Zr e X.env)::J2 es X.env:=by rfl) (hpl:(Zt pos (J2 es X.env)).any (·.1)=false:=by rfl):
  DE X (.Call (.Name x p) (e::es) [] pos) (aY G gr):=
 cJ (tY (E:=E0) F o t r s u .nil l7 v g he hpl) fun N H Q l=>by
  obtain⟨F,a,ρ,d,S,q,k⟩:=l;obtain⟨b,j,q⟩:=aF q
  exact⟨F,a,ρ,b,S,j,fun J B m E1 y=>by
   show aW X.K n G (m++[]) B Q E0
   rw [QP]
   exact⟨J,b,d,c ρ b j,(S.ext E1).fz,y,q,fun I z w M R2=>k I z w (E1.trans M) R2⟩⟩
theorem R5(h:aG ρ=some ds):ds.length=0:=by cases h;rfl
theorem vY{n:Nat}(h':∀ ρ ds,gr ρ=some ds->ds.length=n)(ρ:aA)(ds:List D)(h:aD ga gr ρ=some ds):ds.length=n+1:=by
 obtain⟨x,c,q⟩:=aF h;obtain⟨a,b,q⟩:=aF q;cases q
 simp [h' ρ a b]
end
end DL
namespace EX
open PySem.Spec L2
def LD(h:Heap)(e:YP)(cls:JZ)(a:Option YP):Prop:=
 ∃ oe vs,h.get? e=some oe/\oe.cls=cls/\oe.data=.fields vs/\match a with
  | none=>vs[1]?=some .none
  | some T=>vs[1]?=some (.ref T)/\T≠e/\∃ oT ts,h.get? T=some oT/\oT.data=.fields ts/\ts[3]?=some .none
structure ThrownC(X:Cx)(pins:List (YP × Obj))(H:Hp)(s:J0)(a:YP)(cls:JZ)(tr:Option YP):Prop where
 fly:LD s.heap a cls tr
 new:∀ b,(b=a ∨ some b=tr)->X.s₀.heap.get? b=none/\H b=none/\b≠X.env.locals/\(∀ x c,X.env.cells.lookup x=some c->c≠b)/\∀ p∈X.pn++pins,p.1≠b
section
variable {M:Model}{A:Around}{E:JZ->J0->Prop}{s:J0}
end
end EX
namespace DL
open PySem.Spec L2
inductive aV where
 | nx (ρ:aA)
 | rt (d:D)
 | bk (ρ:aA)
 | ct (ρ:aA)
 | ex (x:Str) (ρ:aA)
theorem bA.refl(K:PySem.W.Frag)(F:YP->Prop)(H:Hp):bA K F F H H:=⟨fun _ h=>h,fun _ _ h=>h,fun _ _ _ h=>h,fun _ _ _ h=>h⟩
theorem bA.trans{K:PySem.W.Frag}{F i g:YP->Prop}{H e H2:Hp}(a:bA K F i H e)(b:bA K i g e H2):bA K F g H H2:=
 ⟨fun x h=>b.up x (a.up x h),fun x c h=>b.tp x c (a.tp x c h),fun x c f h=>b.ls x c (a.up x f) (a.ls x c f h),fun x d f h=>b.xt x d (a.up x f) (a.xt x d f h)⟩
def r8(X:Cx)(b:YP->Prop)(H₀:Hp)(F:YP->Prop)(H:Hp)(W:jN):aV->Prop
 | .nx ρ=>∀ F' H' σ,aI b F' H₀ H'->bA X.K F F' H H'->aZ X.K F' H' H₀ σ ρ->W.nx σ H'
 | .rt d=>∀ F' H' v,aI b F' H₀ H'->aO X.K F' H' d v->W.rt v H'
 | .bk ρ=>∀ F' H' σ,aI b F' H₀ H'->bA X.K F F' H H'->aZ X.K F' H' H₀ σ ρ->W.bk σ H'
 | .ct ρ=>∀ F' H' σ,aI b F' H₀ H'->bA X.K F F' H H'->aZ X.K F' H' H₀ σ ρ->W.ct σ H'
 | .ex x ρ=>∀ F' H' σ pins s a C tr,aI b F' H₀ H'->aZ X.K F' H' H₀ σ ρ->Inv X pins σ H' s->PySem.W.nsIn X.K Zj x=some (some (.ref C))->EX.ThrownC X pins H' s a (.ref C) tr->X.xe (.ref a) s
theorem r8.from{X:Cx}{a F h:YP->Prop}{H₀ H g:Hp}{W:jN}{o:aV}(T:bA X.K F h H g)(k:r8 X a H₀ F H W o):r8 X a H₀ h g W o:=by
 cases o with
 | nx ρ=>exact fun f e b E c S=>k f e b E (T.trans c) S
 | rt d=>exact k
 | bk ρ=>exact fun f e b E c S=>k f e b E (T.trans c) S
 | ct ρ=>exact fun f e b E c S=>k f e b E (T.trans c) S
 | ex x ρ=>exact k
inductive Dk(X:Cx)(g:aA->Option aV)(W:jN)(σ:L2.St)(H:Hp):Prop
 | mk (F₀:YP->Prop) (H₀:Hp) (F:YP->Prop) (ρ:aA) (o:aV) (E:aI F₀ F H₀ H) (S:aZ X.K F H H₀ σ ρ) (q:g ρ=some o) (k:r8 X F₀ H₀ F H W o):Dk X g W σ H
def vL(X:Cx)(g:aA->Option aV):TS:=fun W a H=>Dk X g W a H
def DS(X:Cx)(a:Zv)(g:aA->Option aV):Prop:=PS X a (vL X g)
def iQ(X:Cx)(a:List Zv)(g:aA->Option aV):Prop:=fM X a (vL X g)
def bC(g1 b:aA->Option aV):aA->Option aV:=fun a=>(g1 a).bind fun o=>match o with
 | .nx ρ'=>b ρ'
 | o=>some o
def fA:aA->Option aV:=fun a=>some (.nx a)
def cH(g:aA->Option D):aA->Option aV:=fun a=>(g (a.map frz)).bind fun d=>some (.rt d)
def cE(i:Nat)(g:aA->Option D):aA->Option aV:=fun a=>(g a).bind fun d=>some (.nx (a.set i (.dat d)))
def lK(i:Nat)(g:aA->Option (List D)):aA->Option aV:=fun a=>(g a).bind fun b=>if b.length<=1000 then some (.nx (a.set i (.own b)))else none
def x6(i:Nat)(ρ:aA):aA:=match ρ[i]? with
 | some (.own ds)=>ρ.set i (.dat (.list ds))
 | _=>ρ
def rQ(i:Nat)(g:aA->Option aV):aA->Option aV:=fun a=>g (x6 i a)
def dV(t:aA->Option Bool)(g1 c:aA->Option aV):aA->Option aV:=fun a=>(t (a.map frz)).bind fun b=>if b=true then g1 a else c a
def pN(g:aA->Option D):aA->Option aV:=fun a=>(g a).bind fun _=>some (.nx a)
def kN(i:Nat)(g:aA->Option D):aA->Option aV:=fun a=>match a[i]? with
 | some (.own ds)=>(g a).bind fun d=>if ds.length<1000 then some (.nx (a.set i (.own (ds++[d]))))else none
 | _=>none
def i6(t:aA->Option Bool)(g:aA->Option aV):Nat->aA->Option aV
 | 0,_=>none
 | n+1,ρ=>(t (ρ.map frz)).bind fun b=>if b=true then(g ρ).bind fun o=>match o with
   | .nx ρ'=>i6 t g n ρ'
   | .ct ρ'=>i6 t g n ρ'
   | .bk ρ'=>some (.nx ρ')
   | .rt d=>some (.rt d)
   | .ex x ρ'=>some (.ex x ρ')
  else some (.nx ρ)
def fX(s:D->aA->Option aA)(g:aA->Option aV):List D->aA->Option aV
 | [],ρ=>some (.nx ρ)
 | d::ds,ρ=>(s d ρ).bind fun a=>(g a).bind fun o=>match o with
   | .nx ρ'=>fX s g ds ρ'
   | .ct ρ'=>fX s g ds ρ'
   | .bk ρ'=>some (.nx ρ')
   | .rt d=>some (.rt d)
   | .ex x ρ'=>some (.ex x ρ')
def gX(gi:aA->Option (List D))(s:D->aA->Option aA)(g:aA->Option aV):aA->Option aV:=fun a=>(gi a).bind fun b=>fX s g b a
section
variable {X:Cx}{e a b c tg:Expr}{es:List Expr}{st:Zv}{rest body orelse:List Zv}{g g1 g2 gb:aA->Option aV}{ga:aA->Option D}{gr:aA->Option (List D)}{t:aA->Option Bool}{pos p:Pos}
theorem iI:iQ X [] fA:=t6 Ka fun W c H d=>by
 obtain⟨b,a,F,e,o,E,S,q,k⟩:=d;cases q;exact k F H c E (bA.refl _ F H) S
theorem Xc(E:aI F₀ F H₀ H)(S:aZ X.K F H H₀ σ ρ)(q:bC g1 g2 ρ=some o)(k:r8 X F₀ H₀ F H W o):vL X g1 { W with nx:=vL X g2 W } σ H:=by
 obtain⟨a,c,q⟩:=aF q
 refine⟨F₀,H₀,F,ρ,a,E,S,c,?_⟩
 cases a with
 | nx ρ'=>exact fun g i b h e f=>⟨F₀,H₀,g,ρ',o,h,f,q,k.from e⟩
 | rt d=>cases q;exact k
 | bk ρ'=>cases q;exact k
 | ct ρ'=>cases q;exact k
 | ex x ρ'=>cases q;exact k
theorem bM(d:DS X st g1)(c:iQ X rest g2):iQ X (st::rest) (bC g1 g2):=
 t6 (xE d c) fun W e H ⟨b,a,F,f,o,E,S,q,k⟩=>Xc E S q k
theorem bN(a:DS X st g):iQ X [st] g:=xF a
theorem aI.thaw{K:PySem.W.Frag}{c F l:YP->Prop}{H₀ H H':Hp}{k:L2.St}{ρ:aA}(E:aI c F H₀ H)(S:aZ K F H H₀ k ρ)(E':aI (fun a=>F a ∨ dY k ρ a) l H H'):aI c l H₀ H':=
 ⟨E.same.trans E'.same,fun a f=>E'.up a (.inl (E.up a f)),fun a f=>by
  rcases E'.new a f with(f | ⟨i,q,e,d⟩ | ⟨i,q,e,d⟩) | ⟨o,n⟩
  ·rcases E.new a f with f | ⟨f,p⟩
   ·exact .inl f
   ·exact .inr ⟨f,fun z=>p (E'.same.free z)⟩
  ·obtain⟨b,m,j,h,_,g,_⟩:=S.own e;rw [j]at d;cases d;exact .inr ⟨g,by rw [E'.same _ _ h];simp⟩
  ·obtain⟨b,m,r,j,h,_,g,_⟩:=S.ownD e;rw [j]at d;cases d;exact .inr ⟨g,by rw [E'.same _ _ h];simp⟩
  ·exact .inr ⟨E.same.free o,n⟩⟩
theorem cY(g:DE X e ga):DS X (.Return (some e) pos) (cH ga):=ps_mono (BM g) fun W n H f=>by
 obtain⟨b,a,F,c,o,E,S,q,k⟩:=f;obtain⟨d,h,q⟩:=aF q;cases q
 exact⟨_,a,c.map frz,d,S.frz,h,fun l j v m i=>k l j v (E.thaw S m) i⟩
theorem dI(m:X.N.Nodup)(l:DE X e ga)(h:X.N[i]?=some x:=by rfl)(g:Loc X.env.scope x:=by first | exact Zi rfl | exact Zd rfl)(hs:ZC e (some (.Name x pos')) pos.line X.env=pure false:=by rfl)(j:X.fn x=true ∨ X.env.scope.names.lookup x=some .local:=by first | exact .inl rfl | exact .inr rfl | assumption):
  DS X (.Assign [.Name x pos'] e pos) (cE i ga):=ps_mono (nX m h g l hs j) fun W t H f=>by
 obtain⟨b,a,F,c,o,E,S,q,k⟩:=f;obtain⟨d,n,q⟩:=aF q;cases q
 exact⟨F,a,c,d,S,n,fun s r v E' p=>k s r _ (E.trans E') E'.stay ((S.ext E').put p)⟩
theorem aI.lend{K:PySem.W.Frag}{F j:YP->Prop}{H H₀ H':Hp}{d:L2.St}{ρ:aA}(S:aZ K F H H₀ d ρ)(E':aI (fun a=>F a ∨ dY d ρ a) j H H'):aI F (fun a=>j a/\¬ dY d ρ a) H H':=
 ⟨E'.same,fun a f=>⟨E'.up a (.inl f),fun z=>by
   rcases z with⟨i,o,e,c⟩ | ⟨i,o,e,c⟩
   ·obtain⟨b,l,h,m,g,_⟩:=S.own e;rw [h]at c;cases c;exact g f
   ·obtain⟨b,l,p,h,m,g,_⟩:=S.ownD e;rw [h]at c;cases c
    exact g f⟩,fun a k=>by
  obtain⟨f,n⟩:=k;rcases E'.new a f with(f | f) | f
  ·exact .inl f
  ·exact absurd f n
  ·exact .inr f⟩
theorem sH(n:X.N.Nodup)(m:DA X es gr)(j:X.N[i]?=some x:=by rfl)(h:Loc X.env.scope x:=by first | exact Zi rfl | exact Zd rfl)(hs:ZC (.List es pos'') (some (.Name x pos')) pos.line X.env=pure false:=by rfl)(l:X.fn x=true ∨ X.env.scope.names.lookup x=some .local:=by first | exact .inl rfl | exact .inr rfl | assumption):
  DS X (.Assign [.Name x pos'] (.List es pos'') pos) (lK i gr):=ps_mono (nX n j h (CD m) hs l) fun W s H g=>by
 obtain⟨e,a,F,f,o,E,S,q,k⟩:=g;obtain⟨d,p,q⟩:=aF q;by_cases c:d.length<=1000
 ·rw [if_pos c]at q;cases q
  refine⟨F,a,f,d,S,p,fun r v t E' R'=>⟨fJ (by rw [<- R'.length];exact c),fun u b=>?_⟩⟩
  exact k r _ _ ((E.trans E').trans (aI.fresh b)) (E'.stay.trans (aI.fresh b).stay) ((S.ext E').putOwn b ((E.trans E').same.free b) R')
 ·rw [if_neg c]at q;cases q
theorem RZ(i:Nat)(h:iQ X rest g):iQ X rest (rQ i g):=t6 h fun W m H e=>by
 obtain⟨c,b,F,d,o,E,S,q,k⟩:=e;unfold rQ x6 at q
 split at q
 ·rename_i n l;obtain⟨a,j,S'⟩:=S.frz1 l
  refine⟨c,b,_,_,o,⟨E.same,fun x f=>.inl (E.up x f),fun x f=>?_⟩,S',q,k.from ⟨fun _ f=>.inl f,fun _ _ f=>f,fun _ _ _ f=>f,fun _ _ _ f=>f⟩⟩
  rcases f with f | rfl
  ·exact E.new x f
  ·exact .inr ⟨j,S'.fz x (.inr rfl)⟩
 ·exact⟨c,b,F,d,o,E,S,q,k⟩
theorem iH(f:DT X c t)(h:iQ X body g1)(g:iQ X orelse g2):DS X (.If c body orelse pos) (dV t g1 g2):=ps_mono (IY f h g) fun W j H e=>by
 obtain⟨b,a,F,d,o,E,S,q,k⟩:=e;obtain⟨r,i,q⟩:=aF q
 refine⟨_,a,d.map frz,r,S.frz,i,fun m l E'=>?_⟩
 have E2:=E'.lend S
 cases r with
 | true=>simp only [if_true]at q ⊢;exact⟨b,a,_,d,o,E.trans E2,S.ext E2,q,k.from E2.stay⟩
 | false=>simp only [Qm,if_false]at q ⊢;exact⟨b,a,_,d,o,E.trans E2,S.ext E2,q,k.from E2.stay⟩
theorem Gu(h:DE X e ga)(hs:ZC e none pos.line X.env=pure false:=by rfl):DS X (.Expr e pos) (pN ga):=ps_mono (pL h hs) fun W c H g=>by
 obtain⟨b,a,F,f,o,E,S,q,k⟩:=g;obtain⟨d,i,q⟩:=aF q;cases q
 exact⟨F,a,f,d,S,i,fun l j v E' m=>k l j c (E.trans E') E'.stay (S.ext E')⟩
theorem aI.turn{c F:YP->Prop}{H₀ H:Hp}{p:YP}{o:HO}(E:aI c F H₀ H)(e:H₀ p=none):aI c F H₀ (aJ H p o):=
 ⟨fun b u q=>by rw [aU (j8 q e)];exact E.same b u q,E.up,fun a f=>by
  rcases E.new a f with f | ⟨h,g⟩
  ·exact .inl f
  ·refine .inr ⟨h,fun z=>?_⟩;by_cases d:a=p
   ·subst d;rw [cP]at z;cases z
   ·rw [aU d]at z;exact g z⟩
theorem Bx(O:DE X e ga)(Q:X.N[i]?=some x:=by rfl)(K:gD X.env.scope x:=by first | exact Zi rfl | exact Zd (Zi rfl) | exact Zd (Zd rfl))(M:(x == ("__debug__":Str))=false:=by decide)
  (r:(x == ("__classdict__":Str))=false:=by decide) (f:J2 [e] X.env=(false,Zr e X.env)::J2 [] X.env:=by rfl)
  (c:ZE (.Name x p) "append" X.env (Zr (.Name x p) X.env)=Zr (.Name x p) X.env:=by rfl)
  (g:((Zt pos' (J2 [e] X.env)).all (fun x => !x.1) && (UC pos' (ZT [] X.env)).all (fun x=>x.1.isSome)
   && decide ([e].length+([]:List Us).length+(if([]:List Us).isEmpty then 0 else 1)<30))=true:=by rfl)
  (b:(apos.endLine == pos'.line)=true:=by rfl) (a:(Zt pos' (J2 [] X.env)).any (·.1)=false:=by rfl) (n:ZC (.Call (.Attribute (.Name x p) "append" apos) [e] [] pos') none pos.line X.env=pure false:=by rfl):
  DS X (.Expr (.Call (.Attribute (.Name x p) "append" apos) [e] [] pos') pos) (kN i ga):=
 ps_mono (pL (Cz PySem.F.plainAttrs_list PySem.F.slot_list_append PySem.F.type_list_append Co (gQ Q K M r) (fS O hE f) c g b f a) n) fun W A H G=>by
 obtain⟨z,h,F,B,o,E,S,q,k⟩:=G;unfold kN at q
 split at q
 ·rename_i Y s;obtain⟨d,U,q⟩:=aF q;by_cases t:Y.length<1000
  ·rw [if_pos t]at q;cases q;obtain⟨l,vs,m,J,q3,I,q5⟩:=S.own s
   refine⟨_,m,.inl ⟨rfl,_,bY.of J⟩,F,h,B,d,S,U,fun F' H' v E' R'=>?_⟩
   have S':=S.ext E';obtain⟨l',j,y,w,R,g4,u⟩:=S'.own s;rw [m]at y;cases y
   refine⟨l,j,v,rfl,rfl,w,uB (by rw [<- u.length];lia),?_⟩
   obtain⟨Z,T⟩:=S'.turn s m w R (u.append (.cons R' .nil));exact k F' _ A ((E.trans E').turn I) (E'.stay.trans T) Z
  ·rw [if_neg t]at q;cases q
 ·cases q
end
end DL
namespace DL
open PySem.Spec L2
inductive Dj(K:PySem.W.Frag)(s:D->aA->Option aA)(v:V)(σ:L2.St)(H:Hp)(Q:L2.St->Hp->Prop):Prop
 | mk (F:YP->Prop) (H₀:Hp) (ρ:aA) (d:D) (ρ':aA) (S:aZ K F H H₀ σ ρ) (R:aO K F H d v) (q:s d ρ=some ρ') (k:∀ σ',aZ K F H H₀ σ' ρ'->Q σ' H):Dj K s v σ H Q
def vK(K:PySem.W.Frag)(s:D->aA->Option aA):TG:=fun v a H Q=>Dj K s v a H Q
def OQ(K:PySem.W.Frag)(s:List D->aA->Option aA):mQ:=fun b a H Q=>∃(F:YP->Prop) (H₀:Hp) (ρ:aA) (ds:List D) (ρ':aA),aZ K F H H₀ a ρ/\Reps K F H ds b/\s ds ρ=some ρ'/\∀ σ',aZ K F H H₀ σ' ρ'->Q σ' H
def DG(X:Cx)(a:Expr)(s:D->aA->Option aA):Prop:=PG X a (vK X.K s)
def uE(X:Cx)(a:List Expr)(s:List D->aA->Option aA):Prop:=k8 X a (OQ X.K s)
def bG(i:Nat):D->aA->Option aA:=fun d a=>some (a.set i (.dat d))
def gK:List D->aA->Option aA
 | [],ρ=>some ρ
 | _::_,_=>none
def dC(c:D->aA->Option aA)(b:List D->aA->Option aA):List D->aA->Option aA
 | [],_=>none
 | d::ds,ρ=>(c d ρ).bind fun a=>b ds a
def gY(n:Nat)(s:List D->aA->Option aA):D->aA->Option aA
 | .tuple ds,ρ=>if ds.length=n then s ds ρ else none
 | _,_=>none
section
variable {X:Cx}{e tg:Expr}{es:List Expr}{pos:Pos}
theorem xA(h:PG X tg t)(m:∀ v σ H Q,t' v σ H Q->t v σ H Q):PG X tg t':=fun a s σ H v u Q I r q=>h a s σ H v u Q I r (m v σ H Q q)
theorem xC(h:k8 X es t)(m:∀ v σ H Q,t' v σ H Q->t v σ H Q):k8 X es t':=fun a s σ H v u Q I r q=>h a s σ H v u Q I r (m v σ H Q q)
theorem dA(h:X.N.Nodup)(f:X.N[i]?=some x:=by rfl)(e:Loc X.env.scope x:=by first | exact Zi rfl | exact Zd rfl)(g:X.fn x=true ∨ X.env.scope.names.lookup x=some .local:=by first | exact .inl rfl | exact .inr rfl | assumption):DG X (.Name x pos) (bG i):=
 xA (nU h f e g) fun v j H Q c=>by
  obtain⟨F,a,l,d,b,S,R,q,k⟩:=c;cases q;exact k _ (S.put R)
theorem vT:uE X [] gK:=xC IQ fun v b H Q d=>by
 obtain⟨F,a,e,f,c,S,R,q,k⟩:=d
 cases R with
 | nil=>cases q;exact⟨rfl,k b S⟩
 | cons _ _=>cases q
theorem lS(j:DG X e s1)(i:uE X es s2)
  (hs:(ZB (e::es) X.env).map (·.2)=Vu e X.env::(ZB es X.env).map (·.2):=by rfl):uE X (e::es) (dC s1 s2):=
 xC (IP j i hs) fun v n H Q g=>by
  obtain⟨F,a,f,o,c,S,R,q,k⟩:=g
  cases R with
  | nil=>cases q
  | cons r h=>
   obtain⟨b,l,q⟩:=aF q
   exact⟨_,_,rfl,F,a,f,_,b,S,r,l,fun d m=>⟨F,a,b,_,c,m,h,q,k⟩⟩
theorem vS(l:X.calm=true)(h:uE X es s)(j:(ZB es X.env).length=n:=by rfl)(f:(ZB es X.env).findIdx? (·.1)=none:=by rfl):DG X (.Tuple es k pos) (gY n s):=
 xA (IO l h j f) fun v m H Q i=>by
  obtain⟨F,c,e,d,ρ',S,R,q,k⟩:=i
  cases R with
  | @tup a vs ds hq r=>
   by_cases g:ds.length=n
   ·have b:(if ds.length=n then s ds e else none)=some ρ':=q;rw [if_pos g]at b
    exact⟨_,_,rfl,hq,by rw [<- r.length];exact g,F,c,e,_,ρ',S,r,b,k⟩
   ·have b:(if ds.length=n then s ds e else none)=some ρ':=q;rw [if_neg g]at b;cases b
  | non=>cases q
  | dct _ _ _ _ _=>cases q
  | exn _ _ _=>cases q
  | bl _=>cases q
  | int _=>cases q
  | str _=>cases q
  | lst _ _=>cases q
end
def oW(c:aA->Option D)(s:D->aA->Option aA):aA->Option aV:=fun b=>(c b).bind fun d=>(s d b).bind fun a=>some (.nx a)
section
variable {X:Cx}{e a b c tg iter:Expr}{es:List Expr}{st:Zv}{rest body orelse:List Zv}{g g1 g2 gb:aA->Option aV}{ga:aA->Option D}{gr:aA->Option (List D)}{t:aA->Option Bool}{pos p:Pos}
theorem RV(m:DE X e ga)(l:DG X tg s)(hs:swapsWithSole [tg] e pos.line X.env=pure false:=by rfl)(j:swappedStores [tg] e X.env=pure none:=by rfl)
  (n:(ZB [tg] X.env).map (·.2)=[Vu tg X.env]:=by rfl):DS X (.Assign [tg] e pos) (oW ga s):=
 ps_mono (IW m l hs j n) fun W x H i=>by
  obtain⟨g,a,F,f,o,E,S,q,k⟩:=i;obtain⟨d,r,q⟩:=aF q;obtain⟨c,p,q⟩:=aF q;cases q
  exact⟨F,a,f,d,S,r,fun h w v E' u=>⟨h,a,f,d,c,S.ext E',u,p,fun b t=>k h w b (E.trans E') E'.stay t⟩⟩
theorem By(n:Nat)(I:PassesOwn (J4 X.prog X.w) X.A X.env X.xe)(J:DT X c t)(M:iQ X body g):DS X (.While c body [] pos) (i6 t g n):=
 ps_mono (IZ I J M) fun W T H G=>by
  obtain⟨f,a,z,y,o,E,S,q,k⟩:=G
  refine⟨fun m j v=>∃ F h,aI f F a v/\bA X.K z F H v/\aZ X.K F v a j h/\i6 t g m h=some o,⟨n,z,y,E,bA.refl _ _ _,S,q⟩,?_⟩
  rintro m j v ⟨F,h,E',T',S',e⟩
  cases m with
  | zero=>cases e
  | succ m=>
   obtain⟨r,Q,e⟩:=aF e
   refine⟨_,a,h.map frz,r,S'.frz,Q,fun U R E2'=>?_⟩
   have E2:=E2'.lend S'
   cases r with
   | false=>
    simp only [Qm,if_false]at e ⊢;cases e;exact k _ R j (E'.trans E2) (T'.trans E2.stay) (S'.ext E2)
   | true=>
    simp only [if_true]at e ⊢;obtain⟨B,O,e⟩:=aF e
    refine⟨fun b i=>∃ F h,aI f F a i/\bA X.K z F H i/\aZ X.K F i a b h/\i6 t g m h=some o,fun b i N=>⟨m,Jb m,N⟩,f,a,_,h,B,E'.trans E2,S'.ext E2,O,?_⟩
    cases B with
    | nx ρ3=>exact fun s i b u l p=>⟨s,ρ3,u,(T'.trans E2.stay).trans l,p,e⟩
    | ct ρ3=>exact fun s i b u l p=>⟨s,ρ3,u,(T'.trans E2.stay).trans l,p,e⟩
    | bk ρ3=>cases e;exact fun s i b u l p=>k s i b u ((T'.trans E2.stay).trans l) p
    | rt d=>cases e;exact k
    | ex x ρ3=>cases e;exact k
def kC(K:PySem.W.Frag)(F:YP->Prop)(H:Hp)(ds:List D)(J:It):Prop:=
 ∀ F2 H2,bA K F F2 H H2->(∀ a,F2 a->H2 a≠none)->∀ i:Nat,(∀ d,ds[i]?=some d->J.go i H2/\∀ x H3,J.yld i H2 x H3->∃ F3,aI F2 F3 H2 H3/\aO K F3 H3 d x)/\(ds.length<=i->J.stop i H2)
def DY(K:PySem.W.Frag)(gi:aA->Option (List D)):TI:=fun a H R=>mP K a H gi fun F b=>∀ F' H' J,aI F F' H H'->kC K F' H' b J->R J H'
def DI(X:Cx)(b a:Expr)(gi:aA->Option (List D)):Prop:=PI X b a (DY X.K gi)
theorem CF(h:PI X tg iter wi)(m:∀ σ H R,wi' σ H R->wi σ H R):PI X tg iter wi':=fun a s σ H R I q=>h a s σ H R I (m σ H R q)
structure CM(K:PySem.W.Frag)(s:D->aA->Option aA)(g:aA->Option aV)(xs:List D)(o:aV)(F₀ F F1:YP->Prop)(H₀ H H1:Hp)(i:Nat)(σ2:L2.St)(H2:Hp)(F2:YP->Prop)(ρ2:aA):Prop where
 E:aI F₀ F2 H₀ H2
 T0:bA K F F2 H H2
 T1:bA K F1 F2 H1 H2
 S:aZ K F2 H2 H₀ σ2 ρ2
 q:fX s g (xs.drop i) ρ2=some o
theorem nE(hp:PassesOwn (J4 X.prog X.w) X.A X.env X.xe)(hc:X.calm=true)(hi:DI X tg iter gi)(hg:DG X tg s)(hb:iQ X body g)
  (hs:∀ x,Zx iter X.env x=pure x:=by intro _;rfl):DS X (.For tg iter body [] pos) (gX gi s g):=
 ps_mono (BL hp hc hi hg hb hs) fun W σ H zz=>by
  obtain⟨e,a,F,U,o,E,S,q,k⟩:=zz;obtain⟨b,e1,q⟩:=aF q
  refine⟨F,a,U,b,S,e1,fun T H1 J E1 I1=>?_⟩
  refine⟨fun i m l I=>m=b.length-i/\i<=b.length/\∃ M n,CM X.K s g b o e F T a H H1 i l I M n,
   ⟨b.length,rfl,Q2 _,T,U,E.trans E1,E1.stay,bA.refl _ _ _,S.ext E1,q⟩,?_⟩
  rintro i m l I ⟨rfl,a2,M,n,E2,T0,T1,S2,c⟩;obtain⟨Q,O⟩:=I1 M I T1 S2.fz i;by_cases f:i<b.length
  ·right
   have u:b[i]?=some b[i]:=by simp [f]
   obtain⟨go,N⟩:=Q _ u;rw [Yc f]at c;obtain⟨t,e3,c⟩:=aF c;obtain⟨Y,e4,c⟩:=aF c
   refine⟨go,fun r Z=>∃ F4 ρ4,CM X.K s g b o e F T a H H1 (i+1) r Z F4 ρ4,fun r Z h=>⟨b.length-(i+1),by lia,rfl,f,h⟩,fun x H3 y=>?_⟩
   obtain⟨F3,E3,R3⟩:=N x H3 y
   refine⟨F3,a,n,b[i],t,S2.ext E3,R3,e3,fun a0 S5=>⟨e,a,F3,t,Y,E2.trans E3,S5,e4,?_⟩⟩
   have TT0:=T0.trans E3.stay;have TT1:=T1.trans E3.stay
   cases Y with
   | nx ρ6=>exact fun B R j G p z=>⟨B,ρ6,G,TT0.trans p,TT1.trans p,z,c⟩
   | ct ρ6=>exact fun B R j G p z=>⟨B,ρ6,G,TT0.trans p,TT1.trans p,z,c⟩
   | bk ρ6=>cases c;exact fun B R j G p z=>k B R j G (TT0.trans p) z
   | rt d=>cases c;exact k
   | ex x ρ6=>cases c;exact k
  ·left
   have v:b.length<=i:=YR f
   refine⟨O v,?_⟩
   rw [YW v]at c;cases c;exact k M I l E2 T0 S2
def oV:List D->Option (List D)
 | [.int j]=>if -4611686018427387904<=j/\j<4611686018427387904 then some ((Za j.toNat).map fun(k:Nat)=>.int (0+(k:Int)))else none
 | _=>none
theorem VS{K:PySem.W.Frag}{F:YP->Prop}{H:Hp}(a:Int)(n:Nat):kC K F H ((Za n).map fun(k:Nat)=>.int (a+(k:Int))) (uG a n):=fun j m T z i=>by
 refine⟨fun d c=>?_,fun h=>?_⟩
 ·have e:i<n:=by
   have:=(Qc.mp c).1
   simpa using this
  have b:d=.int (a+(i:Int)):=by
   rw [QN,List.getElem?_range e]at c;cases c;rfl
  subst b
  refine⟨e,fun x l y=>?_⟩
  obtain⟨g,f⟩:=y;subst g f
  exact⟨j,aI.refl _ _,.int _⟩
 ·show n<=i
  simpa using h
theorem S4(g:Gl X "range")(f:X.mg "range"=none)(h:DA X [a] gr)(hs:J2 [a] X.env=[(false,Zr a X.env)]:=by rfl):DI X tg (.Call (.Name "range" p) [a] [] pos) (fun ρ=>(gr ρ).bind oV):=
 CF (X9 g f h hs) fun s H R d=>by
  obtain⟨F,b,ρ,v,S,q,k⟩:=d;obtain⟨t,i,q⟩:=aF q;unfold oV at q
  split at q
  ·rename_i j;by_cases c:-4611686018427387904<=j/\j<4611686018427387904
   ·rw [if_pos c]at q;cases q
    refine⟨F,b,ρ,_,S,i,fun n m u o l=>?_⟩
    cases l with
    | cons r e=>
     cases r;cases e
     exact⟨j,rfl,by lia,by lia,k n m _ o (VS 0 _)⟩
   ·rw [if_neg c]at q;cases q
  ·cases q
def jF:D->Option (List D)
 | .list a=>some a
 | .tuple a=>some a
 | _=>none
theorem Hw{K:PySem.W.Frag}{F:YP->Prop}{H:Hp}{a:YP}{vs:List V}{ds:List D}(h:kB K F H a vs)(r:Reps K F H ds vs):kC K F H ds (CP K a):=fun m o T z i=>by
 have b:=h.stay T;have c:=r.stay T
 refine⟨fun d l=>?_,fun k=>⟨vs,b.sq,by rw [<- c.length];exact k⟩⟩
 obtain⟨v,e,j⟩:=c.get l
 refine⟨⟨vs,v,b.sq,e⟩,fun x n y=>?_⟩
 obtain⟨g,f⟩:=y;subst g
 have:=f vs b.sq
 rw [e]at this;cases this
 exact⟨m,aI.refl _ _,j⟩
theorem Hy{K:PySem.W.Frag}{F:YP->Prop}{H:Hp}{a:YP}{vs:List V}{ds:List D}(h:bJ K H a vs)(r:Reps K F H ds vs):kC K F H ds (CQ K a):=fun m o T z i=>by
 have b:=T.tp _ _ h;have c:=r.stay T
 refine⟨fun d l=>?_,fun k=>⟨vs,b,by rw [<- c.length];exact k⟩⟩
 obtain⟨v,e,j⟩:=c.get l
 refine⟨⟨vs,v,b,e⟩,fun x n y=>?_⟩
 obtain⟨g,f⟩:=y;subst g
 have:=f vs b
 rw [e]at this;cases this
 exact⟨m,aI.refl _ _,j⟩
theorem Gp(A:DE X e ga):DI X tg e (fun ρ=>(ga ρ).bind jF):=by
 intro i s u H R I h;obtain⟨F,l,ρ,E,S,q,k⟩:=h;obtain⟨d,B,q⟩:=aF q;refine aT (A i s u H (fun x f=>∃ g,aI F g H f/\aO X.K g f d x) I ⟨F,l,ρ,d,S,B,fun g f v m r=>⟨g,m,r⟩⟩) fun v c w=>?_;obtain⟨x,f,I1,t,g,m,r⟩:=w
 cases r with
 | @lst a vs ds' hq rr=>
  cases q;cases t;obtain⟨j,y,p,z⟩:=I1.list hq.sq;refine Jn p.isList ?_
  refine⟨c.heap.objs.size,[c.heap.objs.size],_,_,f,rfl,I1.kept (t':=c.toks) fun b o e=>Qe _ e,Lq a _,⟨_,Qz _ rfl,rfl,rfl⟩,fun b n=>?_,k g f _ m (Hw hq rr)⟩
  have e:b=c.heap.objs.size:=by simpa using n
  subst e;exact I1.fpOk (Qk _) (I1.hok.fresh (Qk _))
 | @tup a vs ds' hq rr=>
  cases q;cases t;obtain⟨j,y,p,z⟩:=I1.tuple hq;refine wpAny_pyIter_tuple (show c.heap.IsTuple a j.toArray from p) ?_
  refine⟨c.heap.objs.size,[c.heap.objs.size],_,_,f,rfl,I1.kept (t':=c.toks) fun b o e=>Qe _ e,Lr a _,⟨_,Qz _ rfl,rfl,rfl⟩,fun b n=>?_,k g f _ m (Hy hq rr)⟩
  have e:b=c.heap.objs.size:=by simpa using n
  subst e;exact I1.fpOk (Qk _) (I1.hok.fresh (Qk _))
 | non=>cases q
 | dct _ _ _ _ _=>cases q
 | exn _ _ _=>cases q
 | bl _=>cases q
 | int _=>cases q
 | str _=>cases q
end
def cR(n:Nat)(ds:List D):aA:=ds.map .dat++Z0 (n-ds.length) .no
def cM(n:Nat)(g:aA->Option aV):List D->Option D:=fun a=>match g (cR n a)with
 | some (.rt d)=>some d
 | some (.nx _)=>some .none
 | _=>none
theorem xS{K:PySem.W.Frag}{F:YP->Prop}{H:Hp}{N:List Str}{ds:List D}{vs:List V}(z:∀ a,F a->H a≠none)(r:Reps K F H ds vs):aZ K F H H (L2.start N vs) (cR N.length ds):=by
 have k:=r.length
 refine⟨by simp [L2.start,cR,k],fun i s h=>?_,fun i j a o m l b=>?_,z⟩
 ·unfold cR at h;by_cases c:i<ds.length
  ·rw [QR (by simpa using c),QN]at h
   cases e:ds[i]? with
   | none=>rw [e]at h;cases h
   | some d=>
    rw [e]at h;cases h;obtain⟨v,n,g⟩:=r.get e
    refine⟨some v,?_,v,rfl,g⟩
    unfold L2.start;rw [QR (by simpa using(by lia:i<vs.length)),QN,n];rfl
  ·rw [QK (by simpa using c),YO]at h
   split at h
   ·rename_i f;cases h
    refine⟨none,?_,trivial⟩
    unfold L2.start;rw [QK (by simpa using(by lia:vs.length<=i)),YO,if_pos (by simp at f ⊢;lia)]
   ·cases h
 ·unfold cR at b;by_cases c:i<ds.length
  ·rw [QR (by simpa using c),QN]at b
   cases e:ds[i]? with
   | none=>rw [e]at b;cases b
   | some d=>rw [e]at b;cases b
  ·rw [QK (by simpa using c),YO]at b
   split at b <;> cases b
theorem MJ{P:J5}{w:J6}{K:PySem.W.Frag}{m:Str->Option JZ}{base:Heap}{x a:Str}{b:Zv}{f:YP}{p:Zh}{N c:List Str}{k:Nat}{g:aA->Option aV}(F:gB K x a b f p)(S:bU N c (aS b))
  (G:∀(cdv:JZ) (A:Around) (outer:List Env) (s:J0) (H:Hp) (E:XK),cA k (A.deeper (U8 a (aS b) s.heap.objs.size f cdv))->
   iQ (jQ aM P w K m base N a (aS b) f cdv A outer s H E).nox (dE b) g):aK P w K m base aM (k+1) f p c (aW K c.length (cM N.length g)):=by
 refine F.ok S (fun y H Q E h=>?_) (fun cdv A outer s H y Q E B h=>?_)
 ·obtain⟨F,I,d,o,_,r,_⟩:=h;rw [<- r.length,o]
 ·obtain⟨F,I,d,o,z,r,q,n⟩:=h
  refine⟨_,G cdv A outer s H E B,?_⟩
  unfold cM at q
  split at q
  ·rename_i M e;cases q
   exact⟨F,H,F,_,_,aI.refl F H,xS z r,e,fun j i v l J=>n j i v l J⟩
  ·rename_i u e;cases q
   exact⟨F,H,F,_,_,aI.refl F H,xS z r,e,fun j i t l O R=>n j i .non l .non⟩
  ·cases q
end DL
namespace DL
open PySem.Spec PySem.SeqAt L2
mutual
theorem aO.reads(I:L2.Inv X pins σ H s)(h:aO X.K F H d x)(c:d.canLay0=true)(r:L2.RelV x u):∃ as,Vg s.heap u d as:=by
 cases h with
 | non=>cases r;exact⟨_,.none⟩
 | bl b=>cases r;exact⟨_,.bool b⟩
 | int i=>obtain⟨t,rfl⟩:=r;exact⟨_,.int i t⟩
 | str x=>obtain⟨t,rfl⟩:=r;exact⟨_,.str x t⟩
 | tup h q=>
  cases r;obtain⟨e,a,⟨o,g,k,n,j⟩,_⟩:=I.tuple h;obtain⟨as,z⟩:=Reps.reads I q c a
  exact⟨_,.tuple g k j z⟩
 | lst h q=>
  cases r;obtain⟨e,a,m,_⟩:=I.list h.sq;obtain⟨o,n,g,k,_,j⟩:=m;obtain⟨as,z⟩:=Reps.reads I q c a
  exact⟨_,.list g k j z⟩
 | dct f h n l r=>cases c
 | exn f h n=>cases c
theorem Reps.reads(I:L2.Inv X pins σ H s)(h:Reps X.K F H ds xs)(c:Zg ds=true)(r:L2.Vals xs us):∃ as,Vx s.heap us ds as:=by
 cases h with
 | nil=>cases r;exact⟨_,.nil⟩
 | cons h q=>
  have c:=QM.mp c
  cases r with
  | cons b a=>
   obtain⟨as,z⟩:=aO.reads I h c.1 b;obtain⟨bs,y⟩:=Reps.reads I q c.2 a
   exact⟨_,.cons z y⟩
end
def mV(t:Int->Int->D):D->D->Option D
 | .int i,.int j=>some (t i j)
 | _,_=>none
def qZ(C:Int->Int->Bool)(t:Int->Int->D):D->D->Option D
 | .int i,.int j=>if C i j=true then some (t i j)else none
 | _,_=>none
def lZ(i j:Int):Bool:=(decide (-18446744073709551616<i) && decide (i<18446744073709551616)) || (decide (-18446744073709551616<j) && decide (j<18446744073709551616))
def qM(_ j:Int):Bool:=decide (0<j) && decide (j<1073741824)
def GQ(_ j:Int):Bool:=decide (0<j)
section
variable {X:Cx}
theorem u5(h:bF X f (lJ g))(r:∀ i j K F H,aO K F H (t i j) (g i j)):bF X f (cD X.K (mV t)):=
 tW h fun x y H Q b=>by
  obtain⟨F,d,e,q,z,c,R2,a,k⟩:=b;unfold mV at a
  split at a
  ·cases a;cases c;cases R2
   exact⟨_,_,rfl,rfl,k F H _ (aI.refl F H) (r _ _ _ _ _)⟩
  ·cases a
theorem zV(h:bF X f (rI C g))(l:∀ i j,B i j=true->C i j)(r:∀ i j K F H,aO K F H (t i j) (g i j)):bF X f (cD X.K (qZ B t)):=
 tW h fun x y H Q c=>by
  obtain⟨F,d,e,q,z,m,R2,a,k⟩:=c;unfold qZ at a
  split at a
  ·rename_i i j;by_cases b:B i j=true
   ·rw [if_pos b]at a;cases a;cases m;cases R2
    exact⟨_,_,rfl,rfl,l _ _ b,k F H _ (aI.refl F H) (r _ _ _ _ _)⟩
   ·rw [if_neg b]at a;cases a
  ·cases a
def iR:D->D->Option D:=mV fun i j=>.int (i-j)
def cZ:D->D->Option D:=qZ lZ fun i j=>.int (i * j)
def k4:D->D->Option D:=qZ qM fun i j=>.int (i / j)
def iB:D->D->Option D:=qZ GQ fun i j=>.int (i % j)
def gW:D->D->Option D:=mV fun i j=>.bool (decide (i<j))
def gU:D->D->Option D:=mV fun i j=>.bool (decide (i<=j))
def uT:D->D->Option D:=mV fun i j=>.bool (decide (j<i))
def Mw:D->D->Option D:=mV fun i j=>.bool (decide (j<=i))
theorem qP:bF X (ZD .Sub) (cD X.K iR):=u5 Wz fun _ _ _ _ _=>.int _
theorem g9:bF X (ZD .Mult) (cD X.K cZ):=zV Ww (fun i j h=>by
 unfold lZ at h;simp only [Bool.or_eq_true,QW,decide_eq_true_eq]at h;unfold uD
 lia) fun _ _ _ _ _=>.int _
theorem tU:bF X (ZD .FloorDiv) (cD X.K k4):=zV Wu (fun i j h=>by
 unfold qM at h;simp only [QW,decide_eq_true_eq]at h
 exact h) fun _ _ _ _ _=>.int _
theorem nO:bF X (ZD .Mod) (cD X.K iB):=zV Wv (fun i j h=>by
 unfold GQ at h
 simpa using h) fun _ _ _ _ _=>.int _
theorem qO:bF X (Ze .Lt) (cD X.K gW):=u5 NY fun _ _ _ _ _=>.bl _
theorem qN:bF X (Ze .LtE) (cD X.K gU):=u5 NX fun _ _ _ _ _=>.bl _
theorem GV:bF X (Ze .Gt) (cD X.K uT):=u5 NW fun _ _ _ _ _=>.bl _
def kF:D->Option D
 | .int i=>some (.int (-i))
 | _=>none
theorem wO:mU X (unaryOp .USub) (DP X.K kF):=zSQ zSM fun x H Q b=>by
 obtain⟨F,d,q,z,c,a,k⟩:=b;unfold kF at a
 split at a
 ·cases a;cases c
  exact⟨_,rfl,k F H _ (aI.refl F H) (.int _)⟩
 ·cases a
def fN(d e:D):Option D:=if(shaped d && shaped e)=true then some (.bool (ZX d e))else none
def eQ(d e:D):Option D:=if(shaped d && shaped e)=true then some (.bool (!PyData.eqv d e))else none
theorem tT(j:X.A.units+64<Zf):bF X (Ze .Eq) (cD X.K fN):=fun f s m H x y v u Q I i h g=>by
 obtain⟨F,d,e,q,z,R1,R2,a,k⟩:=g;unfold fN at a;by_cases c:(shaped d && shaped e)=true
 ·rw [if_pos c]at a;cases a;have b:=QM.mp c;obtain⟨n,a1⟩:=R1.reads I (Q1 b.1) i;obtain⟨bs,l⟩:=R2.reads I (Q1 b.2) h;exact eq_dataH a1 l b.1 b.2 j ⟨.bl _,H,I,rfl,k F H _ (aI.refl F H) (.bl _)⟩
 ·rw [if_neg c]at a;cases a
theorem l4(j:X.A.units+64<Zf):bF X (Ze .NotEq) (cD X.K eQ):=fun f s m H x y v u Q I i h g=>by
 obtain⟨F,d,e,q,z,R1,R2,a,k⟩:=g;unfold eQ at a;by_cases c:(shaped d && shaped e)=true
 ·rw [if_pos c]at a;cases a;have b:=QM.mp c;obtain⟨n,a1⟩:=R1.reads I (Q1 b.1) i;obtain⟨bs,l⟩:=R2.reads I (Q1 b.2) h;exact ne_dataH a1 l b.1 b.2 j ⟨.bl _,H,I,rfl,k F H _ (aI.refl F H) (.bl _)⟩
 ·rw [if_neg c]at a;cases a
def dF(b:Bool)(d:D):D->Option D
 | .list a=>if(shaped d && shaped (.list a))=true then some (.bool (if b then !(a.any fun y=>ZX y d)else a.any fun y=>ZX y d))else none
 | .tuple a=>if(shaped d && shaped (.tuple a))=true then some (.bool (if b then !(a.any fun y=>ZX y d)else a.any fun y=>ZX y d))else none
 | _=>none
theorem yQ(l:X.A.units+65<Zf):bF X (Ze .In) (cD X.K (dF false)):=fun j s o H x y v u Q I i h m=>by
 obtain⟨F,d,e,q,z,R1,R2,a,k⟩:=m;unfold dF at a
 split at a
 ·rename_i f;by_cases c:(shaped d && shaped (.list f))=true
  ·rw [if_pos c]at a;cases a;have b:=QM.mp c;obtain⟨n,a1⟩:=R1.reads I (Q1 b.1) i;obtain⟨bs,g⟩:=R2.reads I (Q1 b.2) h;exact in_list_reads g a1 (Q1 b.2) (Q1 b.1) (Vm b.1 l) ⟨.bl _,H,I,rfl,k F H _ (aI.refl F H) (.bl _)⟩
  ·rw [if_neg c]at a;cases a
 ·rename_i f;by_cases c:(shaped d && shaped (.tuple f))=true
  ·rw [if_pos c]at a;cases a;have b:=QM.mp c;obtain⟨n,a1⟩:=R1.reads I (Q1 b.1) i;obtain⟨bs,g⟩:=R2.reads I (Q1 b.2) h;exact in_tuple_reads g a1 (Q1 b.2) (Q1 b.1) (Vm b.1 l) ⟨.bl _,H,I,rfl,k F H _ (aI.refl F H) (.bl _)⟩
  ·rw [if_neg c]at a;cases a
 ·cases a
theorem l5(l:X.A.units+65<Zf):bF X (Ze .NotIn) (cD X.K (dF true)):=fun j s o H x y v u Q I i h m=>by
 obtain⟨F,d,e,q,z,R1,R2,a,k⟩:=m;unfold dF at a
 split at a
 ·rename_i f;by_cases c:(shaped d && shaped (.list f))=true
  ·rw [if_pos c]at a;cases a;have b:=QM.mp c;obtain⟨n,a1⟩:=R1.reads I (Q1 b.1) i;obtain⟨bs,g⟩:=R2.reads I (Q1 b.2) h;exact notIn_list_reads g a1 (Q1 b.2) (Q1 b.1) (Vm b.1 l) ⟨.bl _,H,I,rfl,k F H _ (aI.refl F H) (.bl _)⟩
  ·rw [if_neg c]at a;cases a
 ·rename_i f;by_cases c:(shaped d && shaped (.tuple f))=true
  ·rw [if_pos c]at a;cases a;have b:=QM.mp c;obtain⟨n,a1⟩:=R1.reads I (Q1 b.1) i;obtain⟨bs,g⟩:=R2.reads I (Q1 b.2) h;exact notIn_tuple_reads g a1 (Q1 b.2) (Q1 b.1) (Vm b.1 l) ⟨.bl _,H,I,rfl,k F H _ (aI.refl F H) (.bl _)⟩
  ·rw [if_neg c]at a;cases a
 ·cases a
def aR:D->D->Option D
 | .tuple xs,.int i=>atI xs i
 | .list xs,.int i=>atI xs i
 | _,_=>none
theorem Reps.atI{K:PySem.W.Frag}{F:YP->Prop}{H:Hp}{ds:List D}{vs:List V}{i:Int}{d:D}(r:Reps K F H ds vs)(h:L2.atI ds i=some d):∃ v,L2.atI vs i=some v/\aO K F H d v:=by
 unfold L2.atI at h ⊢;rw [r.length]at h
 cases e:ixN vs.length i with
 | none=>rw [e]at h;cases h
 | some j=>
  rw [e]at h;obtain⟨v,b,a⟩:=r.get (show ds[j]?=some d from h)
  exact⟨v,b,a⟩
theorem bK:gC X (cD X.K aR):=V3 (VZ.or V2) fun x y H Q h=>by
 obtain⟨F,d,e,q,z,g,R2,b,k⟩:=h;unfold aR at b
 split at b
 ·rename_i j i
  cases g with
  | @tup a vs _ h1 r1=>
   cases R2;obtain⟨v,f,c⟩:=r1.atI b;exact .inr ⟨a,vs,i,v,rfl,rfl,h1,f,k F H _ (aI.refl F H) c⟩
 ·rename_i j i
  cases g with
  | @lst a vs _ h1 r1=>
   cases R2;obtain⟨v,f,c⟩:=r1.atI b;exact .inl ⟨a,vs,i,v,rfl,rfl,h1.sq,f,k F H _ (aI.refl F H) c⟩
 ·cases b
def i9:List D->Option D
 | [.list xs]=>some (.int xs.length)
 | [.tuple xs]=>some (.int xs.length)
 | _=>none
theorem wA:dW X (.builtin "len") (jE X.K i9):=pZ P3 fun e H Q d=>by
 obtain⟨F,f,q,z,R,b,k⟩:=d;unfold i9 at b
 split at b
 ·cases b
  cases R with
  | cons c R2=>
   cases R2
   cases c with
   | @lst a vs _ h1 r1=>exact⟨a,vs,rfl,.inl h1.sq,by rw [<- r1.length];exact k F H _ (aI.refl F H) (.int _)⟩
 ·cases b
  cases R with
  | cons c R2=>
   cases R2
   cases c with
   | @tup a vs _ h1 r1=>exact⟨a,vs,rfl,.inr h1,by rw [<- r1.length];exact k F H _ (aI.refl F H) (.int _)⟩
 ·cases b
def qY:List D->Option D
 | [.int i]=>some (.int (if i<0 then -i else i))
 | _=>none
theorem EI:dW X (.builtin "abs") (jE X.K qY):=pZ P0 fun d H Q b=>by
 obtain⟨F,e,q,z,R,a,k⟩:=b;unfold qY at a
 split at a
 ·cases a
  cases R with
  | cons c R2=>cases R2;cases c;exact⟨_,rfl,k F H _ (aI.refl F H) (.int _)⟩
 ·cases a
def dR:List D->Option (List Int)
 | []=>some []
 | .int i::r=>(dR r).bind fun a=>some (i::a)
 | _=>none
theorem Hv{K:PySem.W.Frag}{F:YP->Prop}{H:Hp}:∀{ds:List D}{vs:List V}{is:List Int},Reps K F H ds vs->dR ds=some is->vs=is.map V.int:=by
 intro ds
 induction ds with
 | nil=>intro vs is r h;cases r;cases h;rfl
 | cons d ds c=>
  intro vs is r h
  cases r with
  | cons b a=>
   cases d with
   | int i=>
    cases b;obtain⟨f,e,h⟩:=aF h;cases h;rw [c a e];rfl
   | _=>cases h
def p3:List D->Option D
 | [.list xs]=>some (.tuple xs)
 | [.tuple xs]=>some (.tuple xs)
 | _=>none
theorem EK:dW X (.type "tuple") (jE X.K p3):=pZ P9 fun f H Q e=>by
 obtain⟨F,g,q,z,R,b,k⟩:=e;unfold p3 at b
 split at b
 ·cases b
  cases R with
  | cons c R2=>
   cases R2
   cases c with
   | @lst a vs _ h1 r1=>exact⟨a,vs,rfl,.inl ⟨h1.sq,fun l d=>k F _ _ (aI.fresh d) (aO.newTup d r1)⟩⟩
 ·cases b
  cases R with
  | cons c R2=>
   cases R2
   cases c with
   | @tup a vs _ h1 r1=>exact⟨a,vs,rfl,.inr ⟨h1,k F H _ (aI.refl F H) (.tup h1 r1)⟩⟩
 ·cases b
def El:List D->Option D
 | [.list xs]=>some (.list xs)
 | [.tuple xs]=>some (.list xs)
 | _=>none
end
end DL
namespace CL
open PySem.Spec L2
theorem Bo:∀(names:List (Str × UZ)) (acc:List (Str × YP)),(∀ x∈names,x.2=.free->∃ c,env.cells.lookup x.1=some c)->
  (∀ x c,acc.lookup x=some c->env.cells.lookup x=some c)->
  ∃ cl,(forIn names acc (fun(x:Str × UZ) (cs:List (Str × YP))=>(do
    if x.2 == .free then
     let c <- cellOf env x.1
     pure (ZK ((x.1,c)::cs))
    else pure (ZK cs):Sem (ForInStep (List (Str × YP)))))=(pure cl:Sem _))/\(∀ x c,cl.lookup x=some c->env.cells.lookup x=some c) /\
   (∀ x,(x,Zc)∈names->∃ c,cl.lookup x=some c)/\(∀ x c,acc.lookup x=some c->∃ c',cl.lookup x=some c')/\(∀ x c,cl.lookup x=some c->(x,Zc)∈names ∨ acc.lookup x=some c)
 | [],acc,_,h2=>⟨acc,by rw [List.forIn_nil],h2,fun x h=>by simp at h,fun x c h=>⟨c,h⟩,fun x c h=>.inr h⟩
 | (n,k)::r,acc,h1,h2=>by
  rw [List.forIn_cons];by_cases f:k=.free
  ·subst f;obtain⟨c,l⟩:=h1 (n,.free) (Qg) rfl;have b:env.cells.lookup n=some c:=l
   have g:∀ x c',((n,c)::acc).lookup x=some c'->env.cells.lookup x=some c':=fun x c' h=>by
    rw [QS]at h
    cases e:x == n with
    | true=>rw [e]at h;cases h;rw [Yz e];exact b
    | false=>rw [e]at h;exact h2 x c' h
   obtain⟨cl,q,a1,j,d,i⟩:=Bo r ((n,c)::acc) (fun x a=>h1 x (Qf _ a)) g
   refine⟨cl,?_,a1,fun x a=>?_,fun x c' h=>?_,fun x c' h=>?_⟩
   ·have m:cellOf env n=pure c:=by unfold cellOf;rw [b]
    simp only [beq_self_eq_true,if_true,m,pure_bind];exact q
   ·rcases Qq.mp a with a | a
    ·cases a;exact d n c (by rw [QS,beq_self_eq_true])
    ·exact j x a
   ·cases e:x == n with
    | true=>rw [Yz e];exact d n c (by rw [QS,beq_self_eq_true])
    | false=>exact d x c' (by rw [QS,e];exact h)
   ·rcases i x c' h with h | h
    ·exact .inl (Qf _ h)
    ·rw [QS]at h
     cases e:x == n with
     | true=>rw [Yz e];exact .inl Qg
     | false=>rw [e]at h;exact .inr h
  ·obtain⟨cl,q,a1,j,d,i⟩:=Bo r acc (fun x a=>h1 x (Qf _ a)) h2
   refine⟨cl,?_,a1,fun x a=>?_,d,fun x c h=>(i x c h).imp (Qf _) id⟩
   ·have e:(k == Zc)=false:=by simpa using f
    simp only [e,Qm,if_false,pure_bind];exact q
   ·rcases Qq.mp a with a | a
    ·cases a;exact absurd rfl f
    ·exact j x a
theorem Ds(h:∀ x∈scope.names,x.2=.free->∃ c,env.cells.lookup x.1=some c):
  ∃ cl,closureFor scope env=pure cl/\(∀ x c,cl.lookup x=some c->env.cells.lookup x=some c)/\(∀ x,(x,Zc)∈scope.names->∃ c,cl.lookup x=some c)/\(∀ x c,cl.lookup x=some c->(x,Zc)∈scope.names):=by
 obtain⟨cl,q,a1,b,_,a⟩:=Bo (env:=env) scope.names [] h (fun x c h=>by simp at h)
 refine⟨cl,?_,a1,b,fun x c h=>(a x c h).elim id fun z=>by simp at z⟩
 simp only [closureFor]
 first
  | exact q
  | (rw [<- q];congr 1;funext x cs;obtain⟨n,k⟩:=x;rfl)
  | simpa using q
def c7(X:Cx)(N':List Str)(scope:Uf)(b:List (Str × YP))(C:YP)(a:List YP)(s:J0)(H:Hp):Cx:=
 { X with N:=N',s₀:=s,H₀:=H,env:=compEnvC scope b C X.env,outer:=X.stack,ex:=a,fn:=fun x=>scope.names.lookup x == some .local,pn:=[],xe:=fun _ _=>False }
structure kX(X:Cx)(N':List Str)(scope:Uf)(inner:List (Option Nat)):Prop where
 kind:scope.kind=.function
 nocell:∀ x∈scope.names,x.2≠.cell
 loc:∀ x∈scope.names,x.2=.local->scope.names.lookup x.1=some .local
 free:∀ x∈scope.names,x.2=.free->scope.names.lookup x.1=some .free/\(X.env.scope.names.lookup x.1=some .cell ∨ X.env.scope.names.lookup x.1=some .free)
 len:inner.length=N'.length
 out:∀(i j:Nat),inner[i]?=some (some j)->∃ x,N'[i]?=some x/\X.N[j]?=some x/\scope.names.lookup x=some .free
def iT(inner:List (Option Nat))(a:L2.St):L2.St:=inner.map fun o=>o.bind fun j=>(a[j]?).bind id
theorem Ie{env:Env}:∀{names:List (Str × UZ)}{x:Str},names.lookup x=some .free->
  (names.map fun(n,k)=>if(k == Zc && env.scope.kind == .function && env.kindOf n == some .cell)then(n,Ul)else(n,k)).lookup x=some .free ∨
  (names.map fun(n,k)=>if(k == Zc && env.scope.kind == .function && env.kindOf n == some .cell)then(n,Ul)else(n,k)).lookup x=some .cell
 | [],_,h=>by simp at h
 | (n,k)::r,x,h=>by
  have c:=@Ie env r x;rw [Qs]
  show ZS x ((if(k == Zc && env.scope.kind == .function && env.kindOf n == some .cell)=true then(n,Ul)else(n,k))::_)=_ ∨ ZS x ((if(k == Zc && env.scope.kind == .function && env.kindOf n == some .cell)=true then(n,Ul)else(n,k))::_)=_
  cases a:x == n with
  | true=>
   simp only [QS,a]at h;cases h;by_cases b:(Zc == Zc && env.scope.kind == .function && env.kindOf n == some .cell)=true
   ·rw [if_pos b];right;simp [QS,a]
   ·rw [if_neg b];left;simp [QS,a]
  | false=>
   simp only [QS,a]at h;by_cases b:(k == Zc && env.scope.kind == .function && env.kindOf n == some .cell)=true
   ·rw [if_pos b];simp only [QS,a];exact c h
   ·rw [if_neg b];simp only [QS,a];exact c h
theorem BR{env:Env}:∀{names:List (Str × UZ)}{x:Str}{q:UZ},(∀ y∈names,y.2≠.cell)->(q=.cell ∨ q=.free)->
  (names.map fun(n,k)=>if(k == Zc && env.scope.kind == .function && env.kindOf n == some .cell)then(n,Ul)else(n,k)).lookup x=some q->(x,Zc)∈names
 | [],_,_,_,_,h=>by simp at h
 | (n,k)::r,x,q,hn,hq,h=>by
  have f:=@BR env r x q (fun y g=>hn y (Qf _ g)) hq;rw [Qs]at h;have a:ZS x ((if(k == Zc && env.scope.kind == .function && env.kindOf n == some .cell)=true then(n,Ul)else(n,k))::_)=some q:=h
  cases c:x == n with
  | true=>
   have e:x=n:=Yz c;by_cases b:(k == Zc && env.scope.kind == .function && env.kindOf n == some .cell)=true
   ·have:k=.free:=by
     have:=b
     simp only [QW,beq_iff_eq]at this;exact this.1.1
    rw [e,this];exact Qg
   ·rw [if_neg b]at a;simp only [QS,c]at a;have d:k=q:=QF a;rcases hq with z | z
    ·exact absurd (d.trans z) (hn (n,k) Qg)
    ·rw [e,<- z,<- d];exact Qg
  | false=>
   by_cases b:(k == Zc && env.scope.kind == .function && env.kindOf n == some .cell)=true
   ·rw [if_pos b]at a;simp only [QS,c]at a;exact Qf _ (f a)
   ·rw [if_neg b]at a;simp only [QS,c]at a;exact Qf _ (f a)
section
variable {X:Cx}{N':List Str}{scope:Uf}{inner:List (Option Nat)}{cl:List (Str × YP)}{C:YP}{fp:List YP}{s s4:J0}{H:Hp}{σ:L2.St}{pins:List (YP × Obj)}
theorem VH(CS:kX X N' scope inner)(I:Inv X pins σ H s)(w:∀ b∈fp,hX X pins H b)(n:∀ x c,cl.lookup x=some c->X.env.cells.lookup x=some c)(O:∀ x,(x,Zc)∈scope.names->∃ c,cl.lookup x=some c)(c3:∀ x c,cl.lookup x=some c->(x,Zc)∈scope.names)
  (J:∀ b∈fp,b<s.heap.objs.size) (A:C=s.heap.objs.size) {h':Heap}{tk:Nat} (t:∀ b o,s.heap.get? b=some o->h'.get? b=some o) (G:h'.Ns C fun _=>none) (F:s4={ s with heap:=h',toks:=tk }):
  Inv (c7 X N' scope cl C fp s H) [] (iT inner σ) H s4:=by
 subst F
 have old:∀ b o,s.heap.get? b=some o->b≠C:=fun b o e=>by rw [A];exact QG (Qu e)
 have cC:∀ x c,cl.lookup x=some c->c≠C:=fun x c e=>by
  obtain⟨v,o,q,_⟩:=I.cell x c (n x c e);exact old c o q
 refine⟨⟨I.ok.mod,CS.kind,I.ok.glob,I.ok.blt,?_,fun x y c h1 h2=>I.ok.inj x y c (n x c h1) (n y c h2),fun x E=>?_,fun x c E h=>?_,I.ok.hd,I.ok.frames,.inl rfl,fun b l=>⟨?_,fun x c e z=>(w b l).2.2.2.2.1 x c (n x c e) z⟩,I.bs,QH I.ok.bsz I.sz,fun b o e l=>?_,fun b l=>?_,I.stack,I.stkFree⟩,
  rfl,I.bare,Un.kept t,⟨_,G,fun i x v N g e3=>?_⟩,fun x c e=>?_,?_,fun x c e=>I.freeC x c (n x c e),fun p hp=>absurd (show p∈([]:List (YP × Obj))from hp) (by simp),I.hok.kept t,?_⟩
 ·show s.heap.objs.size<=C
  rw [A];exact Qk _
 ·have d:(relabel scope X.env).names.lookup x=some .cell ∨ (relabel scope X.env).names.lookup x=some .free:=E;rcases d with d | d
  ·exact O x (BR CS.nocell (.inl rfl) d)
  ·exact O x (BR CS.nocell (.inr rfl) d)
 ·have d:(scope.names.lookup x == some NameKind.local)=true:=E;have N:scope.names.lookup x=some .local:=Yz d;have g:=(CS.free _ (c3 x c h) rfl).1;rw [N]at g;cases g
 ·show b≠C
  rw [A];exact QG (J b l)
 ·rcases(w b l).2.2.2.1 with z | z
  ·exact I.ok.noex b o e z
  ·exact absurd (QX (Qu e) (QH I.ok.bsz z)) (Y0 _)
 ·intro z;rcases Qq.mp (I.stkSub b z)with q | q
  ·exact(w b l).2.1 q
  ·exact(w b l).2.2.1 q
 ·
  unfold iT at g;rw [QN]at g
  cases K:inner[i]? with
  | none=>rw [K]at g;cases g
  | some o=>
   rw [K]at g
   cases o with
   | none=>cases g
   | some j=>
    have k:(σ[j]?).bind id=some v:=by simpa using g
    have e4:σ[j]?=some (some v):=by
     cases T:σ[j]? with
     | none=>rw [T]at k;cases k
     | some w'=>rw [T]at k;exact congrArg some k
    obtain⟨x',S,g2,R⟩:=CS.out i j K;have M:N'[i]?=some x:=N;rw [M]at S;cases S;have r:(x,Zc)∈scope.names:=PySem.mem_of_lookup R;have f:=(CS.free _ r rfl).2;obtain⟨m,hm,hl⟩:=I.loc;have vis:gD X.env.scope x:=f.elim (fun z=>.inr (.inl z)) fun z=>.inr (.inr z);obtain⟨u,W,Y⟩:=hl j x v g2 e4 vis
    refine⟨u,W,?_⟩
    obtain⟨c,Q⟩:=O x r;rcases Y with⟨k1,_⟩ | ⟨_,c',k2,Z⟩
    ·have B:X.env.scope.names.lookup x=some .local:=k1
     rcases f with z | z <;> (rw [B]at z;cases z)
    ·have U:=n x c Q;rw [k2]at U;cases U;refine .inr ⟨?_,c,Q,(let⟨o,q1,q2⟩:=Z;⟨o,t _ o q1,q2⟩)⟩
     have:=Ie (env:=X.env) R
     exact this.elim .inr .inl
 ·obtain⟨v,q⟩:=I.cell x c (n x c e)
  exact⟨v,(let⟨o,q1,q2⟩:=q;⟨o,t _ o q1,q2⟩)⟩
 ·show H C=none
  exact I.hok.fresh (by rw [A];exact Qk _)
 ·show(iT inner σ).length=N'.length
  unfold iT;rw [Qo];exact CS.len
theorem VF(I:Inv X pins σ H s)(g:∀ b∈fp,hX X pins H b)(m:C=s.heap.objs.size)(J:Inv (c7 X N' scope cl C fp s H) [] σ' H' s5)(f:Zp C s5.heap h'):
  Inv X pins σ H' { s5 with heap:=h' }:=by
 have old:∀ b o,s.heap.get? b=some o->b≠C:=fun b o e=>by rw [m];exact QG (Qu e)
 have U:Un (iS X.stack) fp H H' s.heap s5.heap:=J.base;have k:H' C=none:=J.free;refine I.call' (ch:=fp) J.os ⟨fun b o e n a d=>?_,fun b o e n a d=>?_,U.free,fun b o e d=>?_,U.tups,U.frzs,U.tbls⟩ (fun b u e=>?_) J.bare fun b a=>?_
 ·rw [f.2 b (old b o e)];exact U.keep b o e n a d
 ·obtain⟨i,q⟩:=U.slot b o e n a d
  exact⟨i,by rw [f.2 b (old b o e)];exact q⟩
 ·obtain⟨j,q⟩:=U.there b o e d
  exact⟨j,by rw [f.2 b (old b o e)];exact q⟩
 ·have h:∀ c v,H' c=some v->c≠C:=fun c v q z=>by rw [z,k]at q;cases q
  refine(J.hok b u e).stay (fun c v l q=>?_) (fun _ q=>q) fun _ _ q=>q
  rw [f.2 c ?_]
  ·exact q
  ·rcases l with z | z
   ·rw [z];exact h b u e
   ·exact h c _ z
 ·exact⟨(g b a).2.2.2.1,(g b a).2.1,(g b a).2.2.2.2.1,(g b a).2.2.2.2.2⟩
end
def oI(X:Cx)(a:List Expr)(t:TT):Prop:=
 ∀(pins:List (YP × Obj)) (s:J0) (σ:L2.St) (H:Hp) (Q:Bool->Hp->Prop),Inv X pins σ H s->t σ H Q->
  J3 (J4 X.prog X.w) X.A (forIn a true fun c r=>if r=true then do let ok <- isTrue c X.env (Zr c X.env);pure (ZK ok)else pure (ZK r)) (TP X pins σ Q) X.xe s
theorem BO(h:PT X c t):oI X [c] t:=fun a s b H Q I q=>wpAny_tests_one (h a s b H Q I q)
def sX(h:TI)(g:TG)(ti:TT)(te:TE)(inner:List (Option Nat)):TE:=fun c H Q=>h c H fun J f=>∀ D,f D=none->∃ W:Nat->Nat->L2.St->Hp->Prop,(∃ m,W 0 m (iT inner c) (aJ f D (.lst [])))/\∀ i m σ' H',W i m σ' H'->
 (J.stop i H'/\Q (.ref D) H') ∨ (J.go i H'/\∀ x H2,J.yld i H' x H2->g x σ' H2 fun a j=>ti a j fun b e=>if b=true then te a e fun y d=>∃ ys,d D=some (.lst ys)/\ys.length<sizeLine/\∃ m',m'<m/\W (i+1) m' a (aJ d D (.lst (ys++[y])))else ∃ m',m'<m/\W (i+1) m' a e)
section
variable {X:Cx}{elt tg iter:Expr}{ifs:List Expr}{scope:Uf}{pos:Pos}{N':List Str}{inner:List (Option Nat)}{wi:TI}{g:TG}{ti:TT}{te:TE}
theorem Sw{Y:Cx}{D G:YP}{f:List YP}{p:Nat->Heap->Prop}{J:It}{W:Nat->Nat->L2.St->Hp->Prop}{Qn:Hp->Prop}{RR:Result->J0->Prop}{l:L2.St}{S:Hp}{s4:J0}{m0:Nat}
  (hc:Y.calm=true) (c:∀ v s,¬ Y.xe v s) (hg:PG Y tg g) (ht:oI Y ifs ti) (he:PE Y elt te) (T:jP Y.prog Y.w Y.K tg J f G p) (I:∀{H'':Hp},(∀ b∈f,H'' b=none)->∀ b∈f,hX Y [] H'' b)
  (I4:Inv Y [] l S s4) (t4:p 0 s4.heap) (N:∀ b∈f,S b=none) (w0:W 0 m0 l S)
  (step:∀ i m σ' H',W i m σ' H'->(J.stop i H'/\Qn H') ∨ (J.go i H'/\∀ x H3,J.yld i H' x H3->g x σ' H3 fun σ3 H3=>ti σ3 H3 fun b H4=>if b=true then te σ3 H4 fun y H5=>∃ ys,H5 D=some (.lst ys)/\ys.length<sizeLine/\∃ m',m'<m/\W (i+1) m' σ3 (aJ H5 D (.lst (ys++[y])))else ∃ m',m'<m/\W (i+1) m' σ3 H4))
  (fin:∀ σ' H' s5,Inv Y [] σ' H' s5->Qn H'->RR (.ok .next) s5):
  Ud (J4 Y.prog Y.w) Y.A (.compLoop (.ListComp elt [⟨tg,iter,ifs,0⟩] scope pos) 0 (.ref G) (.ref D) Y.env) RR s4:=by
 refine codeAny_loop rfl (fun m j=>∃ i σ' H',Inv Y [] σ' H' j/\p i j.heap/\(∀ b∈f,H' b=none)/\W i m σ' H') (fun m j hI=>?_) m0 ⟨0,_,_,I4,t4,N,w0⟩;obtain⟨i,σ',H',I',U,n,w'⟩:=hI
 show J3 _ Y.A ((compTurn (.ListComp elt [⟨tg,iter,ifs,0⟩] scope pos) 0 (.ref G) (.ref D) Y.env).onRaise (fun x=>do noteFrame x Y.env;theTreesLotGoes x)) _ _ j
 refine wpAny_noted ?_;rw [compTurn_list];refine Qa (wpAny_standAt (Qa ?_));rcases step i m σ' H' w' with⟨stop,qn⟩ | ⟨go,F⟩
 ·refine Y5 (T.done Y rfl rfl rfl hc i [] j σ' H' (fun _ _=>False) I' (I n) U stop) (fun r s5 d=>?_) fun _ _ z=>z.elim;obtain⟨d,I5⟩:=d;subst d;exact Qb (fin σ' H' s5 I5 qn)
 ·refine Y5 (T.item Y rfl rfl rfl hc i [] j σ' H' (fun _ _=>False) I' (I n) U go) (fun r s5 d=>?_) fun _ _ z=>z.elim;obtain⟨u,d,h5⟩:=d;subst d;refine Qa (Y5 h5 (fun _ Z h6=>?_) fun _ _ z=>z.elim);obtain⟨x,H6,I6,r6,y6,E,M⟩:=h6;have Q:=I6.pinned (I M) (T.obj _ _ E)
  have back:∀{m':Nat}{a:L2.St}{k:Hp}{h:J0},Inv Y ([]++tZ f Z.heap) a k h->m'<m->W (i+1) m' a k->
    ∃ m',m'<m/\∃ i σ' H',Inv Y [] σ' H' h/\p i h.heap/\(∀ b∈f,H' b=none)/\W i m' σ' H':=fun{m' a k h} I7 lt w7=>by
   refine⟨m',lt,i+1,a,k,I7.unpinned,T.keep _ _ _ E fun b t o e=>(I7.pin (b,o) (Qw _ (Qw _ (yJ t e)))).1,fun b t=>?_,w7⟩
   obtain⟨o,e,_⟩:=T.obj _ _ E b t
   exact(I7.pin (b,o) (Qw _ (Qw _ (yJ t e)))).2.1
  refine Qa (Y5 (hg _ Z σ' H6 x u _ Q r6 (F x H6 y6)) (fun _ h h7=>?_) fun _ _ z=>absurd z (c _ _));obtain⟨a,k,I7,q7⟩:=h7;refine Qa (Y5 (ht _ h a k _ I7 q7) (fun ok s8 h8=>?_) fun _ _ z=>absurd z (c _ _));obtain⟨H8,I8,q⟩:=h8
  cases ok with
  | false=>
   simp only [Qm,if_false]at q ⊢;obtain⟨m',lt,w8⟩:=q;exact Qb ⟨rfl,back I8 lt w8⟩
  | true=>
   simp only [if_true]at q ⊢;refine Qa (Qa (Y5 (he _ s8 a H8 _ I8 q) (fun y s9 h9=>?_) fun _ _ z=>absurd z (c _ _)));obtain⟨B,H9,I9,r9,ys,d9,l9,m',lt,w9⟩:=h9;refine Qa (Y5 (Co (X:=Y) _ s9 a H9 (.ref D) [B] _ [y] (fun v H'=>H'=aJ H9 D (.lst (ys++[B]))) I9 rfl (.cons r9 .nil) ⟨_,ys,B,rfl,rfl,d9,l9,rfl⟩) (fun _ a0 H=>?_) fun _ _ z=>absurd z (c _ _));obtain⟨_,a2,R,_,O⟩:=H;subst O;exact Qb (Qb ⟨rfl,back R lt w9⟩)
theorem sB(hc:X.calm=true)(CS:kX X N' scope inner)(hg:∀ h C f s H,PG (c7 X N' scope h C f s H) tg g)(ht:∀ h C f s H,oI (c7 X N' scope h C f s H) ifs ti)(he:∀ h C f s H,PE (c7 X N' scope h C f s H) elt te)
  {a:List (YP × Obj)}{t:L2.St}{s2:J0}{n:Hp}{F:YP}{f:List YP}{E:Nat->Heap->Prop}{J:It}{h:List (Str × YP)}{Q:VK}{RR:JZ->YP->Result->J0->Prop}
  (c1:∀ x c,h.lookup x=some c->X.env.cells.lookup x=some c) (c2:∀ x,(x,Zc)∈scope.names->∃ c,h.lookup x=some c) (c3:∀ x c,h.lookup x=some c->(x,Zc)∈scope.names)
  (I2:Inv X a t n s2) (T:jP X.prog X.w X.K tg J f F E) (U:E 0 s2.heap) (f2:∀ b∈f,hX X a n b)
  (q:∀ D,n D=none->∃ W:Nat->Nat->L2.St->Hp->Prop,(∃ m,W 0 m (iT inner t) (aJ n D (.lst [])))/\∀ i m σ' H',W i m σ' H'->
   (J.stop i H'/\Q (.ref D) H') ∨ (J.go i H'/\∀ x H3,J.yld i H' x H3->g x σ' H3 fun σ3 H3=>ti σ3 H3 fun b H4=>if b=true then te σ3 H4 fun y H5=>∃ ys,H5 D=some (.lst ys)/\ys.length<sizeLine/\∃ m',m'<m/\W (i+1) m' σ3 (aJ H5 D (.lst (ys++[y])))else ∃ m',m'<m/\W (i+1) m' σ3 H4))
  (fin:∀(D C:YP) (H':Hp) (s5:J0) (m:Str->Option JZ),s5.heap.Ns C m->Q (.ref D) H'->(∀ h',Zp C s5.heap h'->Inv X a t H' { s5 with heap:=h' })->(H' C=none/\C≠X.env.locals/\X.s₀.heap.objs.size<=C/\(∀ x c,X.env.cells.lookup x=some c->c≠C)/\∀ p∈X.pn++a,p.1≠C)->RR (.ref D) C (.ok .next) s5):
  J3 (J4 X.prog X.w) X.A (newList []) (fun acc s₃=>J3 (J4 X.prog X.w) X.A (newFunctionEnv scope X.env.globals h [] X.env.qual none .none (some X.env)) (fun cenv s₄=>
   Ud (J4 X.prog X.w) X.A (.compStart (.ListComp elt [⟨tg,iter,ifs,0⟩] scope pos) 0 (.ref F) acc { cenv with scope:=relabel scope X.env }) (RR acc cenv.locals) s₄) X.xe s₃) X.xe s2:=by
 refine wpAny_newList ?_;have hD:n s2.heap.objs.size=none:=I2.hok.fresh (Qk _);generalize hs3:({ s2 with heap:=s2.heap.push { cls:=.type "list",data:=.seq ([]:List JZ).toArray } }:J0)=s3
 have I:∀ b o,s2.heap.get? b=some o->s3.heap.get? b=some o:=fun b o e=>by rw [<- hs3];exact Qe _ e
 have G:s3.heap.objs.size=s2.heap.objs.size+1:=by rw [<- hs3];exact YT _ _
 have I3:Inv X a t (aJ n s2.heap.objs.size (.lst [])) s3:=by
  rw [<- hs3];exact I2.laid (t':=s2.toks) (o:=.lst []) (fun b o e=>Qe _ e) (Qk _) ⟨Q2 _,[],0,.nil,Qz _ rfl⟩
 have B:∀ b∈f,b<s2.heap.objs.size:=fun b k=>by
  obtain⟨o,e,_⟩:=T.obj 0 _ U b k;exact Qu e
 have R:∀ b∈f,hX X a (aJ n s2.heap.objs.size (.lst [])) b:=fun b k=>by
  obtain⟨g0,g1⟩:=f2 b k
  exact⟨by rw [aU (QG (B b k))];exact g0,g1⟩
 have t3:E 0 s3.heap:=T.keep _ _ _ U fun b _ o e=>I b o e;obtain⟨W,⟨m0,Z⟩,step⟩:=q _ hD;refine wpAny_newFunctionEnv (fun x hx=>CS.nocell x hx) (by intro y hy;simp at hy) (fun l d j=>?_) CS.kind
 try dsimp only at d j ⊢
 have u:∀ b o,s3.heap.get? b=some o->l.get? b=some o:=fun b o e=>j.extBut b o (QG (Qu e)) (Qe _ e)
 have N:l.Ns s3.heap.objs.size fun _=>none:=by
  have:(fun x=>([]:List (Str × JZ)).reverse.lookup x)=(fun _=>none:Str->Option JZ):=by funext x;rfl
  rw [this]at d;exact d
 generalize hs4:({ s3 with heap:=l,toks:=s3.toks+([]:List (Str × JZ)).length }:J0)=s4
 have I4:Inv (c7 X N' scope h s3.heap.objs.size f s3 (aJ n s2.heap.objs.size (.lst []))) [] (iT inner t) (aJ n s2.heap.objs.size (.lst [])) s4:=
  VH CS I3 R c1 c2 c3 (fun b k=>by rw [G];exact JH (B b k)) rfl u N hs4.symm
 have S:E 0 s4.heap:=by rw [<- hs4];exact T.keep _ _ _ t3 fun b _ o e=>u b o e
 have CL:s3.heap.objs.size≠X.env.locals:=Jv I3.lt
 have CC:∀ x c,X.env.cells.lookup x=some c->c≠s3.heap.objs.size:=fun x c e=>by
  obtain⟨v,o,z,_⟩:=I3.cell x c e;exact QG (Qu z)
 show Ud (J4 X.prog X.w) X.A (.compStart (.ListComp elt [⟨tg,iter,ifs,0⟩] scope pos) 0 (.ref F) (.ref s2.heap.objs.size) (compEnvC scope h s3.heap.objs.size X.env)) (RR (.ref s2.heap.objs.size) s3.heap.objs.size) s4
 have r:Ud (J4 X.prog X.w) X.A (.compLoop (.ListComp elt [⟨tg,iter,ifs,0⟩] scope pos) 0 (.ref F) (.ref s2.heap.objs.size) (compEnvC scope h s3.heap.objs.size X.env)) (RR (.ref s2.heap.objs.size) s3.heap.objs.size) s4:=by
  have fx:∀{H'':Hp},(∀ b∈f,H'' b=none)->∀ b∈f,hX (c7 X N' scope h s3.heap.objs.size f s3 (aJ n s2.heap.objs.size (.lst []))) [] H'' b:=fun{H''} z b k=>
   ⟨z b k,(I4.ok.exf b k).1,I4.ok.exfs b k,.inl k,fun x c e=>(I4.ok.exf b k).2 x c e,fun p M=>absurd (show p∈([]:List (YP × Obj))from M) (by simp)⟩
  refine Sw (Y:=c7 X N' scope h s3.heap.objs.size f s3 (aJ n s2.heap.objs.size (.lst []))) hc (fun _ _ z=>z) (hg _ _ _ _ _) (ht _ _ _ _ _) (he _ _ _ _ _) T fx I4 S (fun b k=>(R b k).1) Z step fun σ' H' s5 I5 qn=>?_;obtain⟨m5,O,_⟩:=id I5.loc;exact fin _ _ H' s5 m5 O qn (fun h' sb=>VF I3 R rfl I5 sb) ⟨I5.free,CL,I3.sz,CC,fun p M=>QG (Qu (I3.pin p M).1)⟩
 exact codeAny_compStart_list r (T.self X.A 0 s4 _ _ S r)
theorem IM(t:X.calm=true)(CS:kX X N' scope inner)(p:PI X tg iter wi)(r:∀ cl C fp s H,PG (c7 X N' scope cl C fp s H) tg g)(k:∀ cl C fp s H,oI (c7 X N' scope cl C fp s H) ifs ti)(he:∀ cl C fp s H,PE (c7 X N' scope cl C fp s H) elt te)
  (hs:∀ x,Zx iter X.env x=pure x:=by intro _;rfl):PE X (.ListComp elt [⟨tg,iter,ifs,0⟩] scope pos) (sX wi g ti te inner):=by
 intro a s d H Q I h;obtain⟨cl,b,G,F,E⟩:=Ds (env:=X.env) (scope:=scope) fun x j o=>I.ok.has x.1 (CS.free x j o).2;rw [eval_ListComp];refine wpAny_comprehension_free (use:=none) rfl hs b CS.kind CS.loc (aT (p a s d H _ I h) fun N U y=>aT y fun i S v=>?_);obtain⟨W,fp,O,J,Y,rfl,K,T,e,B,q⟩:=v;refine sB (RR:=fun c C=>compPost (J4 X.prog X.w) X.A X.xe none (EP X a d Q) c C) t CS r k he G F E K T e B q ?_;intro D C M R m n l u _
 exact⟨m,n,fun z f=>⟨.ref D,M,u z f,rfl,l⟩⟩
theorem IX(hN:X.N.Nodup)(hc:X.calm=true)(CS:kX X N' scope inner)(hi:PI X tg iter wi)(hg:∀ cl C fp s H,PG (c7 X N' scope cl C fp s H) tg g)(ht:∀ cl C fp s H,oI (c7 X N' scope cl C fp s H) ifs ti)(he:∀ cl C fp s H,PE (c7 X N' scope cl C fp s H) elt te)
  (n:ZC (.ListComp elt [⟨tg,iter,ifs,0⟩] scope pos) (some (.Name y py)) spos.line X.env=pure true:=by rfl) (Z:X.N[i]?=some y:=by rfl) (l:Loc X.env.scope y:=by first | exact Zi rfl | exact Zd rfl) (hf:X.fn y=true ∨ X.env.scope.names.lookup y=some .local:=by first | exact .inl rfl | exact .inr rfl | assumption)
  (hs:∀ x,Zx iter X.env x=pure x:=by intro _;rfl):PS X (.Assign [.Name y py] (.ListComp elt [⟨tg,iter,ifs,0⟩] scope pos) spos) (Ar (sX wi g ti te inner) (j5 i)):=by
 intro c s z H D I h;obtain⟨cl,r,c1,c2,c3⟩:=Ds (env:=X.env) (scope:=scope) fun x l hk=>I.ok.has x.1 (CS.free x l hk).2;rw [exec_Assign_Name_used _ _ _ _ n];refine Qa (wpAny_standAt (Qa ?_))
 show J3 _ X.A (do let _ <- comprehension (.ListComp elt [⟨tg,iter,ifs,0⟩] scope pos) scope X.env _ (newList []) false (Zr iter X.env) (some (Vu (.Name y py) X.env))) _ _ s
 refine Qa (Y5 (wpAny_comprehension_free (use:=some (Vu (.Name y py) X.env)) (Q:=fun _ f=>SP X c D .next f) rfl hs r CS.kind CS.loc
  (aT (hi c s z H _ I h) fun xv s1 h1=>aT h1 fun Y s2 h2=>?_)) (fun _ f p=>Qb (Qb p)) fun _ _ e=>e)
 obtain⟨it,fp,tn,J,H2,rfl,I2,T,M,f2,q⟩:=h2;refine sB (Q:=fun v u=>j5 i v z u D.nx) (RR:=fun t C=>compPost (J4 X.prog X.w) X.A X.xe (some (Vu (.Name y py) X.env)) (fun _ f=>SP X c D .next f) t C) hc CS hg ht he c1 c2 c3 I2 T M f2 q ?_;intro j C u S m hm p hI hC;obtain⟨K,E,G,B,F⟩:=hC
 show J3 _ X.A (Vu (.Name y py) X.env (.ref j)) _ _ _
 have I5:=hI S.heap (JI ..);refine wpAny_assign_Name (La (v:=.ref j) I5 hN Z l (show L2.RelV (.ref j) (Zb j)from rfl) (fun R I6 W=>?_) hf);obtain⟨a,O,d⟩:=W
 have U:C≠a:=by
  rcases d with d | d
  ·rw [d];exact E
  ·exact(B y a d).symm
 refine⟨m,hm.sameBut O U,fun h' k=>⟨_,u,?_,p⟩⟩
 exact I6.turned (t':=R.toks) (fun b o nb e=>by rw [k.2 b nb];exact e) K E (.inr G) B F
end
end CL
namespace DL
open PySem.Spec PySem.SeqAt L2 CL
def gP(inner:List (Option Nat))(ρ:aA):aA:=inner.map fun o=>match o with
 | some j=>match ρ[j]? with
  | some (.dat d)=>.dat d
  | _=>.no
 | none=>.no
def lR(s:D->aA->Option aA)(t:aA->Option Bool)(ge:aA->Option D):List D->aA->Option (List D)
 | [],_=>some []
 | d::ds,ρ=>(s d ρ).bind fun a=>(t a).bind fun b=>if b=true then(ge a).bind fun y=>(lR s t ge ds a).bind fun r=>some (y::r)else lR s t ge ds a
def c5(gi:aA->Option (List D))(s:D->aA->Option aA)(t:aA->Option Bool)(ge:aA->Option D)(inner:List (Option Nat)):aA->Option (List D):=
 fun b=>(gi b).bind fun c=>(lR s t ge c (gP inner b)).bind fun a=>if a.length<=1000 then some a else none
def c4(g:aA->Option (List D)):aA->Option D:=fun b=>(g b).bind fun a=>some (.list a)
def eT:aA->Option Bool:=fun _=>some true
def M0:Sl->Bool
 | .own _ | .ownD _ | .ownM _=>true
 | _=>false
def j0(ρ:aA):Prop:=∀(i:Nat) (s:Sl),M0 s=true->ρ[i]?≠some s
def v3(s:D->aA->Option aA):Prop:=∀ d ρ ρ',j0 ρ->s d ρ=some ρ'->j0 ρ'
theorem IT(h:j0 ρ):j0 (ρ.set i (.dat d)):=fun j b a e=>by
 by_cases c:i=j
 ·subst c;by_cases l:i<ρ.length
  ·rw [Qy l]at e;cases e;cases a
  ·rw [UN (by simpa using YR l)]at e;cases e
 ·rw [Qr c]at e;exact h j b a e
theorem g8(i:Nat):v3 (bG i):=fun d b a h e=>by cases e;exact IT h
theorem nW(inner:List (Option Nat))(ρ:aA):j0 (gP inner ρ):=fun i ds a e=>by
 unfold gP at e;rw [QN]at e
 cases q:inner[i]? with
 | none=>rw [q]at e;cases e
 | some o=>
  rw [q]at e
  cases o with
  | none=>cases e;cases a
  | some j=>
   have b:(match ρ[j]? with | some (.dat d)=>Sl.dat d | _=>Sl.no)=ds:=QF e
   split at b <;> (subst b;cases a)
theorem KZ{K:PySem.W.Frag}{F:YP->Prop}{H:Hp}{p:YP}{vs us:List V}(c:H p=some (.lst vs))(d:¬ F p):bA K F F H (aJ H p (.lst us)):=
 ⟨fun _ h=>h,fun a e h=>by
  rcases h with(h | ⟨o,h⟩) | h
  ·exact .inl (.inl (by rw [aU (by intro z;subst z;rw [c]at h;cases h)];exact h))
  ·exact .inl (.inr ⟨o,by rw [aU (by intro z;subst z;rw [c]at h;cases h)];exact h⟩)
  ·exact .inr h,fun a e f h=>by
  have b:a≠p:=fun z=>d (by rw [<- z];exact f);rcases h with h | ⟨o,h⟩
  ·exact .inl (by rw [aU b];exact h)
  ·exact .inr ⟨o,by rw [aU b];exact h⟩,fun a g f h=>by rw [aU (fun z=>d (by rw [<- z];exact f))];exact h⟩
theorem aZ.plain{K:PySem.W.Frag}{F g:YP->Prop}{H f H₀ b:Hp}{k:L2.St}{ρ:aA}(S:aZ K F H H₀ k ρ)(pl:j0 ρ)(T:bA K F g H f)(z:∀ a,g a->f a≠none):aZ K g f b k ρ:=
 ⟨S.len,fun i s h=>by
  obtain⟨o,q,w⟩:=S.sl i s h
  refine⟨o,q,?_⟩
  cases s with
  | no=>trivial
  | ownD c=>exact absurd h (pl i _ rfl)
  | ownM c=>exact absurd h (pl i _ rfl)
  | dat d=>obtain⟨v,e,r⟩:=w;exact⟨v,e,r.stay T⟩
  | own m=>exact absurd h (pl i _ rfl),fun i j a m n _ l=>absurd l (pl i _ rfl),z⟩
theorem aZ.inner{K:PySem.W.Frag}{F:YP->Prop}{H H₀:Hp}{c:L2.St}{ρ:aA}(S:aZ K F H H₀ c ρ)(inner:List (Option Nat)):aZ K F H H₀ (iT inner c) (gP inner ρ):=
 ⟨by simp [iT,gP],fun i s h=>by
  unfold gP at h;unfold iT;rw [QN]at h ⊢
  cases q:inner[i]? with
  | none=>rw [q]at h;cases h
  | some o=>
   rw [q]at h
   cases o with
   | none=>cases h;exact⟨none,rfl,trivial⟩
   | some j=>
    have b:(match ρ[j]? with | some (.dat d)=>Sl.dat d | _=>Sl.no)=s:=QF h
    split at b
    ·rename_i d e;cases b;obtain⟨v,g,r⟩:=S.dat e
     exact⟨some v,by simp [g],v,rfl,r⟩
    ·cases b
     exact⟨_,rfl,trivial⟩,fun i j a l k _ f=>absurd f (nW inner ρ i _ rfl),S.fz⟩
def uF(X:Cx)(a:List Expr)(t:aA->Option Bool):Prop:=oI X a (nA X.K t)
theorem p7:uF X [] eT:=fun a s e H Q I d=>by
 obtain⟨F,c,f,b,S,q,k⟩:=d;cases q;exact wpAny_tests_nil ⟨H,I,k F H (aI.refl F H)⟩
theorem lV(h:DT X c t):uF X [c] t:=BO h
section
variable {X:Cx}{elt tg iter:Expr}{ifs:List Expr}{scope:Uf}{pos:Pos}{N':List Str}{inner:List (Option Nat)}{gi:aA->Option (List D)}{s:D->aA->Option aA}{t:aA->Option Bool}{ge:aA->Option D}
structure Lz(X:Cx)(s:D->aA->Option aA)(t:aA->Option Bool)(ge:aA->Option D)(xs out:List D)(F1:YP->Prop)(H1:Hp)(D':YP)(i m:Nat)(σ':L2.St)(H':Hp)(F2:YP->Prop)(ρ2:aA)(vs:List V)(don rst:List D):Prop where
 em:m=xs.length-i
 hi:i<=xs.length
 E:aI F1 F2 H1 H'
 T:bA X.K F1 F2 H1 H'
 S:aZ X.K F2 H' H1 σ' ρ2
 pl:j0 ρ2
 dD:H' D'=some (.lst vs)
 nf:¬ F2 D'
 rd:Reps X.K F2 H' don vs
 ec:lR s t ge (xs.drop i) ρ2=some rst
 eo:don++rst=out
 kp:∀ b o,b≠D'->H1 b=some o->H' b=some o
theorem ET(kp:v3 s)(S:aZ X.K F H H₀ σ ρ)(q:c5 gi s t ge inner ρ=some out)
  (fin:∀ F' H' D' vs,aI F F' H H'->bA X.K F F' H H'->H D'=none->H' D'=some (.lst vs)->¬ F' D'->Reps X.K F' H' out vs->aZ X.K F' H' H₀ σ ρ->Q (.ref D') H'):
  sX (DY X.K gi) (vK X.K s) (nA X.K t) (tD X.K ge) inner σ H Q:=by
 obtain⟨g,e1,q⟩:=aF q;obtain⟨r,e2,q⟩:=aF q;by_cases hl:r.length<=1000
 ·rw [if_pos hl]at q;cases q
  refine⟨F,H₀,ρ,g,S,e1,fun I n J E1 I1 D' M=>?_⟩
  have S1:=S.ext E1
  refine⟨fun i m p H'=>∃ G j vs h k,Lz X s t ge g out I n D' i m p H' G j vs h k,?_,?_⟩
  ·have E2:aI I I n (aJ n D' (.lst [])):=aI.fresh M
   refine⟨g.length,I,gP inner ρ,[],[],out,rfl,Q2 _,E2,E2.stay,?_,nW inner ρ,cP,fun f=>S1.fz _ f M,.nil,e2,rfl,fun b o nb e=>by rw [aU nb];exact e⟩
   exact(S1.inner inner).plain (nW inner ρ) E2.stay (E2.fz S1.fz)
  ·rintro i m p H' ⟨G,j,vs,h,k,rfl,hi,E2,T2,S2,pl,B,U,rd,a,A,v⟩;obtain⟨Y,W⟩:=I1 G H' T2 S2.fz i;by_cases d:i<g.length
   ·right
    have w:g[i]?=some g[i]:=by simp [d]
    obtain⟨go,R⟩:=Y _ w;rw [Yc d]at a;obtain⟨c,e3,a⟩:=aF a;obtain⟨b,e4,a⟩:=aF a
    refine⟨go,fun x H3 y=>?_⟩
    obtain⟨F3,E3,R3⟩:=R x H3 y;have l:=kp _ _ _ pl e3
    refine⟨F3,n,j,g[i],c,S2.ext E3,R3,e3,fun a0 S5=>⟨F3,n,c,b,S5,e4,fun F6 H6 E6=>?_⟩⟩
    have S6:=S5.ext E6;have E36:=E3.trans E6;have d6:H6 D'=some (.lst vs):=E36.same _ _ B
    have T:¬ F6 D':=fun f=>by
     rcases E36.new _ f with f | ⟨f,_⟩
     ·exact U f
     ·rw [B]at f;cases f
    cases b with
    | false=>
     simp only [Qm,if_false]at a ⊢
     exact⟨g.length-(i+1),by lia,F6,c,vs,h,k,rfl,d,E2.trans E36,T2.trans E36.stay,S6,l,d6,T,rd.stay E36.stay,a,A,fun b o nb e=>E36.same _ _ (v b o nb e)⟩
    | true=>
     simp only [if_true]at a ⊢;obtain⟨yd,e5,a⟩:=aF a;obtain⟨r',e6,a⟩:=aF a;cases a
     refine⟨F6,n,c,yd,S6,e5,fun E N O E7 R7=>?_⟩
     have E37:=E36.trans E7;have d7:N D'=some (.lst vs):=E37.same _ _ B
     have u:¬ E D':=fun f=>by
      rcases E37.new _ f with f | ⟨f,_⟩
      ·exact U f
      ·rw [B]at f;cases f
     have Z:bA X.K E E N (aJ N D' (.lst (vs++[O]))):=KZ d7 u;have S7:=S6.ext E7;have E8:aI I E n (aJ N D' (.lst (vs++[O]))):=(E2.trans E37).turn M
     have ll:vs.length<1000:=by
      have h1:=rd.length;have h2:=congrArg Vr A;rw [Qj,Qt]at h2;lia
     refine⟨vs,d7,uB (YJ ll),g.length-(i+1),by lia,E,c,vs++[O],h++[yd],r',rfl,d,E8,(T2.trans E37.stay).trans Z,S7.plain l Z (E8.fz S1.fz),l,cP,u,?_,e6,by rw [QD];exact A,fun b o nb e=>?_⟩
     ·exact((rd.stay E37.stay).append (.cons R7 .nil)).stay Z
     ·rw [aU nb];exact E37.same _ _ (v b o nb e)
   ·left
    have z:g.length<=i:=YR d
    refine⟨W z,?_⟩
    rw [YW z]at a;cases a;rw [QP]at A;subst A;have hH:H D'=none:=E1.same.free M;have EE:aI F G H H':=E1.trans E2;exact fin G H' D' vs EE (E1.stay.trans T2) hH B U rd (S.ext EE)
 ·rw [if_neg hl]at q;cases q
theorem iG(n:X.calm=true)(y:kX X N' scope inner)(i:v3 s)(l:DI X tg iter gi)(m:∀ cl C fp s' H,DG (c7 X N' scope cl C fp s' H) tg s)(j:∀ cl C fp s' H,uF (c7 X N' scope cl C fp s' H) ifs t)(he:∀ cl C fp s' H,DE (c7 X N' scope cl C fp s' H) elt ge)
  (hs:∀ x,Zx iter X.env x=pure x:=by intro _;rfl):DE X (.ListComp elt [⟨tg,iter,ifs,0⟩] scope pos) (c4 (c5 gi s t ge inner)):=
 cJ (IM (g:=vK X.K s) (ti:=nA X.K t) (te:=tD X.K ge) n y l (fun cl C fp s' H=>m cl C fp s' H) (fun cl C fp s' H=>j cl C fp s' H) (fun cl C fp s' H=>he cl C fp s' H) hs) fun z H Q e=>by
  obtain⟨F,c,A,d,S,q,k⟩:=e;obtain⟨h,r,q⟩:=aF q;cases q;refine ET i S r fun v u w B E' I p b G o E=>?_;refine k (fun a=>v a ∨ a=w) u _ ⟨E'.same,fun a f=>.inl (E'.up a f),fun a f=>?_⟩ (.lst (.inl ⟨.inr rfl,.inl b⟩) (o.stay ⟨fun _ f=>.inl f,fun _ _ f=>f,fun _ _ _ f=>f,fun _ _ _ f=>f⟩));rcases f with f | rfl
  ·exact E'.new a f
  ·exact .inr ⟨p,by rw [b];simp⟩
theorem RW(J:X.N.Nodup)(I:X.calm=true)(T:kX X N' scope inner)(u:v3 s)(A:DI X tg iter gi)(B:∀ cl C fp s' H,DG (c7 X N' scope cl C fp s' H) tg s)(z:∀ cl C fp s' H,uF (c7 X N' scope cl C fp s' H) ifs t)(he:∀ cl C fp s' H,DE (c7 X N' scope cl C fp s' H) elt ge)
  (b:ZC (.ListComp elt [⟨tg,iter,ifs,0⟩] scope pos) (some (.Name y py)) spos.line X.env=pure true:=by rfl) (v:X.N[i]?=some y:=by rfl) (w:L2.Loc X.env.scope y:=by first | exact Zi rfl | exact Zd rfl) (G:X.fn y=true ∨ X.env.scope.names.lookup y=some .local:=by first | exact .inl rfl | exact .inr rfl | assumption)
  (hs:∀ x,Zx iter X.env x=pure x:=by intro _;rfl):DS X (.Assign [.Name y py] (.ListComp elt [⟨tg,iter,ifs,0⟩] scope pos) spos) (cE i (c4 (c5 gi s t ge inner))):=
 ps_mono (IX (g:=vK X.K s) (ti:=nA X.K t) (te:=tD X.K ge) J I T A (fun cl C fp s' H=>B cl C fp s' H) (fun cl C fp s' H=>z cl C fp s' H) (fun cl C fp s' H=>he cl C fp s' H) b v w G hs) fun W U H p=>by
  obtain⟨l,j,F,Y,o,E,S,q,k⟩:=p;obtain⟨d,R,q⟩:=aF q;cases q;obtain⟨r,Q,q⟩:=aF R;cases q;refine ET u S Q fun c H' n Z E' T' O e h3 M h5=>?_;have h:bA X.K c (fun a=>c a ∨ a=n) H' H':=⟨fun _ f=>.inl f,fun _ _ f=>f,fun _ _ _ f=>f,fun _ _ _ f=>f⟩
  have m:aI F (fun a=>c a ∨ a=n) H H':=⟨E'.same,fun a f=>.inl (E'.up a f),fun a f=>by
   rcases f with f | rfl
   ·exact E'.new a f
   ·exact .inr ⟨O,by rw [e];simp⟩⟩
  exact k _ H' _ (E.trans m) (T'.trans h) ((S.ext m).put (.lst (.inl ⟨.inr rfl,.inl e⟩) (M.stay h)))
end
end DL
namespace SD
open PySem.Spec PySem.SeqAt L2 DL SG
theorem qE:∀ a:List Int,HT.lexLt a a=false
 | []=>rfl
 | x::xs=>by rw [HT.lexLt_cons,if_pos rfl];exact qE xs
theorem yD:∀ a b c:List Int,HT.lexLt a b=true->HT.lexLt b c=true->HT.lexLt a c=true
 | [],b,[],h1,h2=>by cases b with | nil=>cases h1 | cons _ _=>cases h2
 | [],_,_::_,_,_=>rfl
 | _::_,[],_,h1,_=>by cases h1
 | _::_,_::_,[],_,h2=>by cases h2
 | x::xs,y::ys,z::zs,h1,h2=>by
  rw [HT.lexLt_cons]at h1 h2 ⊢;by_cases e:x=y
  ·subst e;rw [if_pos rfl]at h1;by_cases d:x=z
   ·subst d;rw [if_pos rfl]at h2 ⊢;exact yD xs ys zs h1 h2
   ·rw [if_neg d]at h2 ⊢;exact h2
  ·rw [if_neg e]at h1;have f:x<y:=of_decide_eq_true h1;by_cases d:y=z
   ·subst d;rw [if_neg e];exact decide_eq_true f
   ·rw [if_neg d]at h2;have g:y<z:=of_decide_eq_true h2;rw [if_neg (by lia)];exact decide_eq_true (by lia)
theorem tO:∀ a b:List Int,HT.lexLt a b=false->HT.lexLt b a=false->a=b
 | [],[],_,_=>rfl
 | [],_::_,h1,_=>by cases h1
 | _::_,[],_,h2=>by cases h2
 | x::xs,y::ys,h1,h2=>by
  rw [HT.lexLt_cons]at h1 h2;by_cases c:x=y
  ·subst c;rw [if_pos rfl]at h1 h2;rw [tO xs ys h1 h2]
  ·rw [if_neg c]at h1;rw [if_neg (Z4 c)]at h2;have e:¬ x<y:=of_decide_eq_false h1;have d:¬ y<x:=of_decide_eq_false h2;lia
theorem HR(a b c:List Int)(h:HT.lexLt a c=true):HT.lexLt a b=true ∨ HT.lexLt b c=true:=by
 cases e:HT.lexLt a b with
 | true=>exact .inl rfl
 | false=>
  right
  cases d:HT.lexLt b a with
  | false=>rw [<- tO a b e d];exact h
  | true=>exact yD b a c d h
theorem yC:∀(a b c d:List Int),a.length=b.length->HT.lexLt (a++c) (b++d)=if a=b then HT.lexLt c d else HT.lexLt a b
 | [],[],c,d,_=>by simp
 | [],_::_,_,_,h=>by simp at h
 | _::_,[],_,_,h=>by simp at h
 | x::xs,y::ys,c,d,h=>by
  rw [List.cons_append,List.cons_append,HT.lexLt_cons];have f:=yC xs ys c d (by simpa using h);by_cases e:x=y
  ·subst e;rw [if_pos rfl,f,HT.lexLt_cons,if_pos rfl];simp
  ·rw [if_neg e,if_neg (by simp [e]),HT.lexLt_cons,if_neg e]
def rE(a:List (JZ × List Int)):PyProof.Rows.KeyKind where
 α:=List Int
 blt:=HT.lexLt
 irrefl:=qE
 trans:=yD
 negTrans:=HR
 total:=tO
 keyOf:=fun v=>a.lookup v
 dflt:=[]
def iK:D->D->Bool
 | .int _,.int _=>true
 | .tuple xs,.tuple ys=>decide (xs.length=ys.length)
 | _,_=>false
def fH:List D->List D->Bool
 | [],[]=>true
 | x::xs,y::ys=>iK x y && fH xs ys
 | _,_=>false
def kR:D->Option (List Int)
 | .int i=>some [i]
 | .tuple a=>dR a
 | _=>none
def fG:List D->Option (List Int)
 | []=>some []
 | d::ds=>(kR d).bind fun a=>(fG ds).bind fun b=>some (a++b)
theorem TZ(c:iK d x=true)(e:iK d y=true):iK x y=true:=by
 cases d with
 | int i=>
  cases x with
  | int _=>cases y with
   | int _=>rfl
   | _=>cases e
  | _=>cases c
 | tuple f=>
  cases x with
  | tuple h=>cases y with
   | tuple g=>
    have a:f.length=h.length:=of_decide_eq_true c;have b:f.length=g.length:=of_decide_eq_true e;exact decide_eq_true (a.symm.trans b)
   | _=>cases e
  | _=>cases c
 | _=>cases x <;> cases c
theorem tP:∀{d x y:List D},fH d x=true->fH d y=true->fH x y=true
 | [],[],[],_,_=>rfl
 | [],[],_::_,_,h=>by cases h
 | [],_::_,_,h,_=>by cases h
 | _::_,[],_,h,_=>by cases h
 | _::_,_::_,[],_,h=>by cases h
 | d::ds,x::xs,y::ys,h1,h2=>by
  have a:=QM.mp h1;have b:=QM.mp h2;exact QM.mpr ⟨TZ a.1 b.1,tP a.2 b.2⟩
theorem Hu:∀{xs ys:List D}{a b:List Int},dR xs=some a->dR ys=some b->Ua xs ys=decide (a=b)
 | [],[],_,_,e,d=>by cases e;cases d;rfl
 | [],.int _::_,_,_,e,d=>by
  cases e;obtain⟨_,_,d⟩:=aF d;cases d
  simp [Ua]
 | .int _::_,[],_,_,e,d=>by
  cases d;obtain⟨_,_,e⟩:=aF e;cases e
  simp [Ua]
 | .int i::xs,.int j::ys,_,_,e,d=>by
  obtain⟨a,g,e⟩:=aF e;obtain⟨b,f,d⟩:=aF d
  cases e;cases d
  rw [Ua,Hu g f]
  simp [ZX]
  by_cases c:i=j <;> simp [c]
 | .none::_,_,_,_,e,_=>by cases e
 | .bool _::_,_,_,_,e,_=>by cases e
 | .str _::_,_,_,_,e,_=>by cases e
 | .list _::_,_,_,_,e,_=>by cases e
 | .tuple _::_,_,_,_,e,_=>by cases e
 | .dict _::_,_,_,_,e,_=>by cases e
 | _,.none::_,_,_,_,d=>by cases d
 | _,.bool _::_,_,_,_,d=>by cases d
 | _,.str _::_,_,_,_,d=>by cases d
 | _,.list _::_,_,_,_,d=>by cases d
 | _,.tuple _::_,_,_,_,d=>by cases d
 | _,.dict _::_,_,_,_,d=>by cases d
theorem lW:∀{xs:List D}{a:List Int},dR xs=some a->Zg xs=true/\Zs xs=0/\xs.length=a.length/\xs=a.map J9
 | [],_,h=>by cases h;exact⟨rfl,rfl,rfl,rfl⟩
 | .int i::xs,_,h=>by
  obtain⟨a,e,h⟩:=aF h;cases h;obtain⟨f,d,c,b⟩:=lW e
  exact⟨by simp [Zg,ZP,f],by simp [Zs,UI,d],by simp [c],by rw [b];rfl⟩
 | .none::_,_,h=>by cases h
 | .bool _::_,_,h=>by cases h
 | .str _::_,_,h=>by cases h
 | .list _::_,_,h=>by cases h
 | .tuple _::_,_,h=>by cases h
 | .dict _::_,_,h=>by cases h
theorem tK:∀{xs:List D}{a:List Int}{us:List JZ}{as:List YP},dR xs=some a->Vx h us xs as->UE us a
 | [],_,_,_,e,r=>by cases e;cases r;exact .nil
 | .int i::xs,_,_,_,e,r=>by
  obtain⟨a,d,e⟩:=aF e;cases e
  cases r with
  | cons c b=>
   cases c;exact .cons i _ (tK d b)
 | .none::_,_,_,_,h,_=>by cases h
 | .bool _::_,_,_,_,h,_=>by cases h
 | .str _::_,_,_,_,h,_=>by cases h
 | .list _::_,_,_,_,h,_=>by cases h
 | .tuple _::_,_,_,_,h,_=>by cases h
 | .dict _::_,_,_,_,h,_=>by cases h
section
variable {prog:J5}{w:J6}{A:Around}{E:JZ->J0->Prop}{s:J0}
theorem AY(l:iK x y=true)(g:kR x=some a)(f:kR y=some b):a.length=b.length:=by
 cases x with
 | int i=>cases y with
  | int j=>cases g;cases f;rfl
  | _=>cases l
 | tuple d=>cases y with
  | tuple c=>
   have e:d.length=c.length:=of_decide_eq_true l;rw [<- (lW (show dR d=some a from g)).2.2.1,<- (lW (show dR c=some b from f)).2.2.1,e]
  | _=>cases l
 | _=>cases y <;> cases l
theorem Gy(B:A.units+64<Zf)(h:Vg s.heap p x as)(g:Vg s.heap q y bs)(l:iK x y=true)(m:kR x=some a)(k:kR y=some b):EqAt A s p q (decide (a=b)):=by
 cases x with
 | int i=>cases y with
  | int j=>
   cases m;cases k
   cases h with
   | int _ t=>cases g with
    | int _ u=>
     have:=EqAt.int_int (A:=A) (s:=s) i t j u
     have e:(i == j)=decide ([i]=[j]):=by
      by_cases c:i=j
      ·subst c;simp
      ·simp [c]
     rw [<- e];exact this
  | _=>cases l
 | tuple f=>cases y with
  | tuple d=>
   have o:dR f=some a:=m;have n:dR d=some b:=k;obtain⟨z,v,_,_⟩:=lW o;obtain⟨w,r,_,_⟩:=lW n
   have:=eqAt_reads (.tuple f) (.tuple d) A s p q as bs h g z w (by show A.units+min (Zs f+1) (Zs d+1)<Zf;rw [v,r];lia)
   have e:ZX (.tuple f) (.tuple d)=decide (a=b):=by rw [ZX];exact Hu o n
   rw [e]at this;exact this
  | _=>cases l
 | _=>cases y <;> cases l
theorem Lp(h:Q b s):J3 (J4 prog w) A (truthOfDropped (.bool b)) Q E s:=by
 unfold truthOfDropped;exact YH h
theorem ME(N:A.units+64<Zf)(d:Vg s.heap p x as)(c:Vg s.heap q y bs)(l:iK x y=true)(h:kR x=some a)(g:kR y=some b)
  (t:f=true->∃ i,x=.int i) (k:Q (HT.lexLt a b) s) (o:a≠b):J3 (J4 prog w) A (oneLt' f p q) Q E s:=by
 cases x with
 | int i=>cases y with
  | int j=>
   cases h;cases g;cases d;cases c
   have e:HT.lexLt [i] [j]=decide (i<j):=by
    rw [HT.lexLt_cons,if_neg (by intro z;exact o (by rw [z]))]
   rw [e]at k
   cases f with
   | true=>exact oneLt_int k
   | false=>
    rw [oneLt'_eq];simp only [Qm,if_false];refine Qa (HT.rcLt_int A s i _ j _ prog w E _ (Lp k))
  | _=>cases l
 | tuple n=>
  cases f with
  | true=>obtain⟨i,r⟩:=t rfl;cases r
  | false=>cases y with
   | tuple m=>
    have M:dR n=some a:=h;have K:dR m=some b:=g
    cases d with
    | tuple F B v u=>cases c with
     | tuple J I H G=>
      rw [oneLt'_eq];simp only [Qm,if_false];exact Qa (HT.lt_tupInts ⟨_,F,B,_,v⟩ ⟨_,J,I,_,H⟩ (tK M u) (tK K G) (by lia) (Lp k))
   | _=>cases l
 | _=>cases y <;> cases l
theorem Im(k:A.units+64<Zf):∀{xs ys:List D}{a c:List Int}{us vs:List JZ}{as bs:List YP} (i:Nat),fH xs ys=true->fG xs=some a->fG ys=some c->Vx s.heap us xs as->Vx s.heap vs ys bs->
  (b=true->i=0->∀ x r,xs=x::r->∃ n,x=.int n)->(a=c->Q fin s)->(a≠c->Q (HT.lexLt a c) s)->PySem.W.KatLex prog w A b fin Q (us.zip vs) i s
 | [],[],_,_,_,_,_,_,i,_,g,f,r1,r2,_,k1,k2=>by
  cases g;cases f;cases r1;cases r2
  exact PySem.W.kat_nil (k1 rfl)
 | [],_::_,_,_,_,_,_,_,_,l,_,_,_,_,_,_,_=>by cases l
 | _::_,[],_,_,_,_,_,_,_,l,_,_,_,_,_,_,_=>by cases l
 | x::xs,y::ys,_,_,_,_,_,_,i,l,g,f,r1,r2,hb,k1,k2=>by
  obtain⟨a1,o,g⟩:=aF g;obtain⟨K,J,g⟩:=aF g;cases g;obtain⟨t,m,f⟩:=aF f;obtain⟨c2,I,f⟩:=aF f;cases f;obtain⟨j,E⟩:=QM.mp l;have d:=AY j o m
  cases r1 with
  | cons q v=>cases r2 with
   | cons p u=>
    rw [Jx];refine PySem.W.kat_cons (Gy k q p j o m prog w _ _ ?_);by_cases c:a1=t
    ·rw [decide_eq_true c];subst c;refine PySem.W.kat_yes (Im k (i+1) E J I v u (fun _ h=>by lia) (fun e=>k1 (by rw [e])) fun e=>?_)
     have:=k2 (fun z=>e (List.append_cancel_left z))
     rw [yC _ _ _ _ rfl,if_pos rfl]at this;exact this
    ·rw [decide_eq_false c];refine PySem.W.kat_no (ME k q p j o m (fun F=>?_) ?_ c)
     ·obtain⟨H,G⟩:=QM.mp F;exact hb H (by simpa using G) x xs rfl
     ·have B:a1++K≠t++c2:=fun z=>c (List.append_inj_left z d)
      have:=k2 B
      rw [yC _ _ _ _ d,if_neg c]at this;exact this
theorem Cm{a:Type}{f:JZ->Sem a}{g:JZ->a}:∀{vs:List JZ}{Q:List a->J0->Prop},(∀ v∈vs,∀(R:a->J0->Prop),R (g v) s->J3 (J4 prog w) A (f v) R E s)->Q (vs.map g) s->J3 (J4 prog w) A (vs.mapM f) Q E s
 | [],_,_,k=>by rw [List.mapM_nil];exact Qb k
 | v::vs,Q,h,k=>by
  rw [List.mapM_cons];refine Qa (h v Qg _ (Qa (Cm (fun u b=>h u (Qf _ b)) (Qb k))))
def isInt:D->Bool
 | .int _=>true
 | _=>false
def jJ(h:Heap):JZ->Option JZ
 | .ref a=>match h.get? a with
  | some o=>match o.data with
   | .seq b _=>b[0]?
   | _=>none
  | none=>none
 | _=>none
def oY:JZ->JZ
 | .ref _=>.type "tuple"
 | _=>.type "int"
theorem Sg(v:JZ):firstOfTuple' v=(typeOf v >>= fun t=>if(t != .type "tuple")=true then pure none else Builtin.List.listItems v >>= fun xs=>pure xs[0]?):=by
 unfold firstOfTuple';rfl
theorem Tw{vs:List JZ}{m:Bool}{d:D}(N:isInt d=m)(O:∀ v∈vs,∃ x xs as,Vg s.heap v (.tuple (x::xs)) as/\iK d x=true)(K:vs≠[]):
  J3 (J4 prog w) A (keyKind' vs.toArray) (fun q s'=>q=tuples' m/\s'=s) E s:=by
 rw [keyKind'_eq,List.mapM_toArray,map_eq_pure_bind];refine Qa (Qa (Cm (g:=fun v=>jJ s.heap v) (fun v c R B=>?_) (Qb ?_)))
 ·obtain⟨x,xs,as,r,_⟩:=O v c
  cases r with
  | @tuple a o us n _ _ f I F H=>
   rw [Sg];refine Qa (Y1 (T:="tuple") ⟨o,f,I⟩ ?_)
   have e:(Z3 "tuple" != Z3 "tuple")=false:=by simp
   rw [if_neg (by rw [e];simp)];refine Qa (listItems_at f F (Qb ?_))
   have G:jJ s.heap (.ref a)=us[0]?:=by
    show(match s.heap.get? a with | some o=>(match o.data with | .seq xs _=>xs[0]? | _=>none) | none=>none)=us[0]?
    rw [f]
    show(match o.data with | .seq xs _=>xs[0]? | _=>none)=us[0]?
    rw [F]
   rw [G]at B;exact B
 ·have h:∀ v∈vs,∃ u x as,jJ s.heap v=some u/\Vg s.heap u x as/\iK d x=true:=fun v c=>by
   obtain⟨x,xs,as,r,l⟩:=O v c
   cases r with
   | @tuple a o us n _ _ f I F H=>
    have G:jJ s.heap (.ref a)=us[0]?:=by
     show(match s.heap.get? a with | some o=>(match o.data with | .seq xs _=>xs[0]? | _=>none) | none=>none)=us[0]?
     rw [f]
     show(match o.data with | .seq xs _=>xs[0]? | _=>none)=us[0]?
     rw [F]
    generalize hl:us.toList=ul at H
    cases H with
    | @cons u vs' _ _ as' bs' r1 r2=>
     refine⟨u,x,as',?_,r1,l⟩
     rw [G,<- QI,hl];rfl
  have ty:∀ u x as,Vg s.heap u x as->iK d x=true->oY u=(if m=true then .type "int" else .type "tuple")/\∀(R:JZ->J0->Prop),R (oY u) s->J3 (J4 prog w) A (typeOf u) R E s:=fun u x as r l=>by
   cases d with
   | int i=>
    cases x with
    | int j=>cases r;cases N;exact⟨rfl,fun R k=>Y1 (T:="int") (typeIs_int s _ _) k⟩
    | _=>cases l
   | tuple ds=>
    cases x with
    | tuple xs=>
     cases r with
     | tuple f I F H=>cases N;exact⟨rfl,fun R k=>Y1 (T:="tuple") ⟨_,f,I⟩ k⟩
    | _=>cases l
   | _=>cases x <;> cases l
  have all:((vs.map fun v=>jJ s.heap v).toArray.all fun x=>x.isSome)=true:=by
   rw [List.all_toArray,List.all_map,Yi];intro v c;obtain⟨u,x,as,e,_⟩:=h v c
   simp [e]
  rw [if_pos all];refine Qa (Jg (Qa ?_));rw [oneTypeOnly'_eq]
  have Z:((vs.map fun v=>jJ s.heap v).toArray.filterMap id)=(vs.filterMap fun v=>jJ s.heap v).toArray:=by
   rw [List.filterMap_toArray,List.filterMap_map];rfl
  rw [Z,List.mapM_toArray,map_eq_pure_bind]
  have y:∀ u∈vs.filterMap (fun v=>jJ s.heap v),∃ x as,Vg s.heap u x as/\iK d x=true:=fun u z=>by
   obtain⟨v,c,e⟩:=List.mem_filterMap.mp z;obtain⟨u',x,as,Q,r,l⟩:=h v c;rw [e]at Q;cases Q
   exact⟨x,as,r,l⟩
  refine Qa (Qa (Cm (g:=oY) (fun u z R k=>?_) (Qb ?_)))
  ·obtain⟨x,as,r,l⟩:=y u z
   exact(ty u x as r l).2 R k
  ·obtain⟨p,vs',rfl⟩:∃ p vs',vs=p::vs':=by
    cases vs with
    | nil=>exact absurd rfl K
    | cons a b=>exact⟨a,b,rfl⟩
   obtain⟨U,S,M,e0,W,X⟩:=h p Qg
   have Y:∀ t∈((p::vs').filterMap (fun v=>jJ s.heap v)).map oY,t=(if m=true then .type "int" else .type "tuple"):=fun t J=>by
    obtain⟨u,z,rfl⟩:=QT.mp J;obtain⟨x,as,r,l⟩:=y u z
    exact(ty u x as r l).1
   have e1:(((p::vs').filterMap (fun v=>jJ s.heap v)).map oY).toArray[0]?=some (if m=true then .type "int" else .type "tuple"):=by
    rw [JQ,e0];simp only [Qs];rw [(ty U S M W X).1];rfl
   rw [e1]
   have G:((((p::vs').filterMap (fun v=>jJ s.heap v)).map oY).toArray.all fun x=>x == (if m=true then .type "int" else .type "tuple"))=true:=by
    rw [List.all_toArray,Yi];intro t J;rw [Y t J];simp
   dsimp only;rw [if_pos G];refine Qb (Qb ⟨?_,rfl⟩)
   cases m <;> rfl
end
end SD
namespace SD
open PySem.Spec PySem.SeqAt L2 DL SG
abbrev KD:=List Int × D
def jT(d0:List D):D->Option (List Int)
 | .tuple (x::xs)=>if fH d0 (x::xs)=true then fG (x::xs)else none
 | _=>none
def eO(d0:List D):List D->Option (List KD)
 | []=>some []
 | d::ds=>(jT d0 d).bind fun k=>(eO d0 ds).bind fun r=>some ((k,d)::r)
def jR(p:KD):List KD->List KD
 | []=>[p]
 | q::r=>if HT.lexLt q.1 p.1=true then q::jR p r else p::q::r
def fT:List KD->List KD
 | []=>[]
 | p::r=>jR p (fT r)
def k5:List D->Option D
 | [.list []]=>some (.list [])
 | [.list (.tuple d0::ds)]=>if ds.length<1000 then(eO d0 (.tuple d0::ds)).bind fun l=>some (.list ((fT l).map (·.2)))else none
 | _=>none
def Le(p q:KD):Prop:=HT.lexLt q.1 p.1=false
theorem Le.trans(a:Le p q)(b:Le q r):Le p r:=by
 unfold Le at *
 cases e:HT.lexLt r.1 p.1 with
 | false=>rfl
 | true=>
  rcases HR _ q.1 _ e with h | h
  ·rw [b]at h;cases h
  ·rw [a]at h;cases h
theorem AI(p:KD):∀ l:List KD,(jR p l).Perm (p::l)
 | []=>.refl _
 | q::r=>by
  unfold jR;split
  ·exact((AI p r).cons q).trans (.swap p q r)
  ·exact .refl _
theorem pP:∀ l:List KD,(fT l).Perm l
 | []=>.refl _
 | p::r=>(AI p (fT r)).trans ((pP r).cons p)
theorem Hs(p:KD):∀ l:List KD,l.Pairwise Le->(jR p l).Pairwise Le
 | [],_=>by simp [jR]
 | q::r,h=>by
  obtain⟨d,f⟩:=Yt.mp h;unfold jR;split
  ·rename_i c;refine Yt.mpr ⟨fun z a=>?_,Hs p r f⟩;rcases Qq.mp ((AI p r).mem_iff.mp a)with e | e
   ·subst e;unfold Le
    cases g:HT.lexLt z.1 q.1 with
    | false=>rfl
    | true=>have:=yD _ _ _ c g;rw [qE]at this;cases this
   ·exact d z e
  ·rename_i c
   have b:Le p q:=by simpa [Le]using c
   refine Yt.mpr ⟨fun z a=>?_,h⟩;rcases Qq.mp a with e | e
   ·rw [e];exact b
   ·exact b.trans (d z e)
theorem uC:∀ l:List KD,(fT l).Pairwise Le
 | []=>.nil
 | p::r=>Hs p _ (uC r)
theorem B3:∀{a b:List KD},a.Perm b->a.Pairwise Le->b.Pairwise Le->(∀ p∈a,∀ q∈a,p.1=q.1->p=q)->a=b
 | [],b,h,_,_,_=>h.nil_eq
 | x::r,[],h,_,_,_=>absurd h.length_eq (by simp)
 | x::r,y::t,h,ha,hb,inj=>by
  have d:y∈x::r:=h.mem_iff.mpr Qg;have f:x∈y::t:=h.mem_iff.mp Qg
  have e:x=y:=by
   refine inj x Qg y d (tO _ _ ?_ ?_)
   ·rcases Qq.mp f with c | c
    ·rw [c];exact qE _
    ·exact(Yt.mp hb).1 x c
   ·rcases Qq.mp d with c | c
    ·rw [c];exact qE _
    ·exact(Yt.mp ha).1 y c
  subst e;rw [B3 h.cons_inv (Yt.mp ha).2 (Yt.mp hb).2 fun p i q g=>inj p (Qf _ i) q (Qf _ g)]
theorem X8{c i:Type}{f:c->i}{a b:List i}(h:a.Perm b):∀ l:List c,l.map f=a->∃ l':List c,l'.Perm l/\l'.map f=b:=by
 induction h with
 | nil=>intro l e;exact⟨l,.refl _,e⟩
 | cons x _ t=>
  intro l e
  cases l with
  | nil=>cases e
  | cons y l=>
   rw [Qs]at e
   injection e with e1 e2
   obtain⟨l',p,q⟩:=t l e2
   exact⟨y::l',p.cons y,by rw [Qs,e1,q]⟩
 | swap x y r=>
  intro l e
  match l,e with
  | a::b::l,e=>
   rw [Qs,Qs]at e
   injection e with e1 e2
   injection e2 with e2 e3
   exact⟨b::a::l,.swap a b l,by rw [Qs,Qs,e1,e2,e3]⟩
 | trans _ _ g d=>
  intro l e;obtain⟨s,n,k⟩:=g l e;obtain⟨o,m,j⟩:=d s k
  exact⟨o,m.trans n,j⟩
theorem FI:∀{xs ys:List D}{a:List Int},fH xs ys=true->fG xs=some a->fG ys=some a->xs=ys
 | [],[],_,_,_,_=>rfl
 | [],_::_,_,l,_,_=>by cases l
 | _::_,[],_,l,_,_=>by cases l
 | x::xs,y::ys,a,l,c,b=>by
  obtain⟨a1,f,c⟩:=aF c;obtain⟨t,r,c⟩:=aF c;obtain⟨s,e,b⟩:=aF b;obtain⟨c2,q,b⟩:=aF b;obtain⟨d,k⟩:=QM.mp l;have m:=AY d f e;have p:a1++t=s++c2:=(QF c).trans (QF b).symm;obtain⟨o,n⟩:=List.append_inj p m;subst o n;rw [FI k r q];congr 1
  cases x with
  | int i=>cases y with
   | int j=>cases f;cases e;rfl
   | _=>cases d
  | tuple h=>cases y with
   | tuple g=>rw [(lW (show dR h=some a1 from f)).2.2.2,(lW (show dR g=some a1 from e)).2.2.2]
   | _=>cases d
  | _=>cases y <;> cases d
theorem x4:∀{xs:List D}{a:List Int},fG xs=some a->Zg xs=true
 | [],_,_=>rfl
 | x::xs,a,f=>by
  obtain⟨a1,b,f⟩:=aF f;obtain⟨h,g,f⟩:=aF f;have d:=x4 g
  have e:ZP x=true:=by
   cases x with
   | int i=>rfl
   | tuple c=>exact(lW (show dR c=some a1 from b)).1
   | _=>cases b
  simp [Zg,e,d]
theorem j9(h:jT d0 d=some k):∃ x xs,d=.tuple (x::xs)/\fH d0 (x::xs)=true/\fG (x::xs)=some k:=by
 cases d with
 | tuple b=>
  cases b with
  | nil=>cases h
  | cons x xs=>
   have a:(if fH d0 (x::xs)=true then fG (x::xs)else none)=some k:=h;by_cases c:fH d0 (x::xs)=true
   ·rw [if_pos c]at a;exact⟨x,xs,rfl,c,a⟩
   ·rw [if_neg c]at a;cases a
 | _=>cases h
theorem nZ(f:jT d0 d=some k)(c:jT d0 e=some k):d=e:=by
 obtain⟨x,j,rfl,b,h⟩:=j9 f;obtain⟨y,i,rfl,a,g⟩:=j9 c;rw [FI (tP b a) h g]
theorem xI:∀{ds:List D}{l:List KD},eO d0 ds=some l->l.map (·.2)=ds/\∀ p∈l,jT d0 p.2=some p.1
 | [],_,h=>by cases h;exact⟨rfl,fun p a=>nomatch a⟩
 | d::ds,_,h=>by
  obtain⟨k,g,h⟩:=aF h;obtain⟨r,f,h⟩:=aF h;cases h;obtain⟨c,b⟩:=xI f
  refine⟨by rw [Qs,c],fun p a=>?_⟩
  rcases Qq.mp a with e | e
  ·rw [e];exact g
  ·exact b p e
abbrev Tr:=KD × V × JZ
section
variable {X:Cx}{pins:List (YP × Obj)}{σ:L2.St}{H:Hp}{s:J0}{F:YP->Prop}
theorem Lm{K:PySem.W.Frag}:∀{l:List KD}{vs:List V}{us:List JZ},Reps K F H (l.map (·.2)) vs->L2.Vals vs us->∃ T:List Tr,T.map (·.1)=l/\T.map (·.2.1)=vs/\T.map (·.2.2)=us/\∀ t∈T,aO K F H t.1.2 t.2.1/\L2.RelV t.2.1 t.2.2
 | [],_,_,r,v=>by cases r;cases v;exact⟨[],rfl,rfl,rfl,fun t a=>nomatch a⟩
 | p::l,_,_,r,v=>by
  cases r with
  | cons f d=>cases v with
   | cons c b=>
    obtain⟨T,j,i,h,g⟩:=Lm (l:=l) d b
    refine⟨(p,_,_)::T,by rw [Qs,j],by rw [Qs,i],by rw [Qs,h],fun t a=>?_⟩
    rcases Qq.mp a with e | e
    ·rw [e];exact⟨f,c⟩
    ·exact g t e
theorem Lo{K:PySem.W.Frag}:∀{T:List Tr},(∀ t∈T,aO K F H t.1.2 t.2.1/\L2.RelV t.2.1 t.2.2)->Reps K F H (T.map (·.1.2)) (T.map (·.2.1))/\L2.Vals (T.map (·.2.1)) (T.map (·.2.2))
 | [],_=>⟨.nil,.nil⟩
 | t::T,h=>by
  obtain⟨c,b⟩:=h t Qg;obtain⟨e,d⟩:=Lo fun u a=>h u (Qf _ a)
  exact⟨.cons c e,.cons b d⟩
theorem xV:∀{T:List Tr}{v:JZ}{k:List Int},(T.map fun t=>(t.2.2,t.1.1)).lookup v=some k->∃ t∈T,t.2.2=v/\t.1.1=k
 | [],_,_,h=>by cases h
 | t::T,v,k,h=>by
  rw [Qs,QS]at h
  cases e:v == t.2.2 with
  | true=>rw [e]at h;cases h;exact⟨t,Qg,(Yz e).symm,rfl⟩
  | false=>
   rw [e]at h;obtain⟨u,a,c,b⟩:=xV h
   exact⟨u,Qf _ a,c,b⟩
theorem Lf:∀{T:List Tr}{t:Tr},t∈T->∃ k,(T.map fun t=>(t.2.2,t.1.1)).lookup t.2.2=some k:=by
 intro T
 induction T with
 | nil=>intro t h;cases h
 | cons u T a=>
  intro t h;rw [Qs,QS]
  cases e:t.2.2 == u.2.2 with
  | true=>exact⟨_,rfl⟩
  | false=>
   rcases Qq.mp h with z | z
   ·rw [z,beq_self_eq_true]at e;cases e
   ·exact a z
theorem H0{d0:List D}{its:List JZ}{ds:List D}{vs:List V}{l:List KD}{Q:VK}(hu:X.A.units+66<Zf)(I:L2.Inv X pins σ H s)(rv:L2.Vals vs its)(r:Reps X.K F H ds vs)(hk:eO d0 ds=some l)(b4:ds.length<=1000)
  (k:∀ p vs',H p=none->Reps X.K F H ((fT l).map (·.2)) vs'->vs'.length<=1000->Q (.ref p) (aJ H p (.lst vs'))):J3 (J4 X.prog X.w) X.A.in1 (newList its >>= fun l=>UB [l] (call (.builtin "list.sort") [l] []) >>= fun _=>ret l) (fun fin s'=>∃ v,fin=.done (.ret v)/\EP X pins σ Q v s') X.xe s:=by
 obtain⟨em,a0⟩:=xI hk;obtain⟨T,t1,t2,t3,t4⟩:=Lm (K:=X.K) (F:=F) (H:=H) (l:=l) (by rw [em];exact r) rv;have c:∀ t∈T,jT d0 t.1.2=some t.1.1:=fun t f=>a0 t.1 (by rw [<- t1];exact JR f)
 have a9:its.length<=1000:=by rw [<- rv.length,<- r.length];exact b4
 have all:KeysOf (rE (T.map fun t=>(t.2.2,t.1.1))) (Vt its):=fun p hp=>by
  rw [pairsOf_toList]at hp
  have:p.1∈its:=(U7 hp).1
  rw [<- t3]at this;obtain⟨t,f,e⟩:=QT.mp this;rw [<- e];exact Lf f
 have rd:∀ t∈T,∀ g:Heap,(∀ b o,s.heap.get? b=some o->g.get? b=some o)->∃ as,Vg g t.2.2 t.1.2 as:=fun t f g B=>by
  obtain⟨y,ys,y1,_,y2⟩:=j9 (c t f);obtain⟨as,z⟩:=(t4 t f).1.reads I (by rw [y1];exact x4 y2) (t4 t f).2
  exact⟨as,Reads.keeps B z⟩
 have Z:∀ t∈T,∀ u∈T,t.2.2=u.2.2->t.1.1=u.1.1:=fun t f u E e=>by
  obtain⟨as,Y⟩:=rd t f s.heap fun _ _ q=>q;obtain⟨bs,z2⟩:=rd u E s.heap fun _ _ q=>q;obtain⟨x,xs,O,_,f1⟩:=j9 (c t f);rw [e]at Y;have U:t.1.2=u.1.2:=Reads.unique t.1.2 u.1.2 u.2.2 as bs (by rw [O];exact x4 f1) Y z2;have N:=c t f;have M:=c u E;rw [U,M]at N
  exact(QF N).symm
 refine Qa (wpAny_newList ?_ (hsz:=?_))
 rotate_left
 ·exact fJ (by lia)
 show J3 _ _ _ _ _ { s with heap:=s.heap.push (UG "list" its.toArray 0) }
 have hL:(s.heap.push (UG "list" its.toArray 0)).get? s.heap.objs.size=some (UG "list" its.toArray 0):=Qz _ rfl
 have kp:∀ g:Heap,(∀ b o,b≠s.heap.objs.size->(s.heap.push (UG "list" its.toArray 0)).get? b=some o->g.get? b=some o)->∀ b o,s.heap.get? b=some o->g.get? b=some o:=fun g B b o e=>
  B b o (QG (Qu e)) (Qe _ e)
 refine Qa (Yb (Yq slot_list_sort ⟨_,hL,rfl⟩ entry_list_sort (zSe (κ:=rE (T.map fun t=>(t.2.2,t.1.1))) (kd:=tuples' (isInt (d0.headD .none))) hL all a9 (fun g B M=>?_) (fun g B=>?_) fun G p1 p2=>⟨_,rfl,Qb ⟨_,rfl,?_⟩⟩) (args_list_sort _)))
 ·
  refine Tw (s:={ s with heap:=g }) (d:=d0.headD .none) rfl (fun v hv=>?_) (fun e=>by rw [e]at M;simp at M);rw [<- t3]at hv;obtain⟨t,f,e⟩:=QT.mp hv;obtain⟨x,xs,O,R,f1⟩:=j9 (c t f);obtain⟨as,z⟩:=rd t f g (kp g B);rw [O]at z
  refine⟨x,xs,as,by rw [<- e];exact z,?_⟩
  cases d0 with
  | nil=>cases R
  | cons y ys=>exact(QM.mp R).1
 ·
  intro x y ka kb E' Q' N M S;obtain⟨t,f,O,g1⟩:=xV N;obtain⟨u,E,U,g2⟩:=xV M;obtain⟨x1,b7,e3,R,f1⟩:=j9 (c t f);obtain⟨y1,b5,e4,l2,f2⟩:=j9 (c u E);obtain⟨as,Y⟩:=rd t f g (kp g B);obtain⟨bs,z2⟩:=rd u E g (kp g B);rw [e3,O]at Y;rw [e4,U]at z2;rw [g1]at f1;rw [g2]at f2
  cases Y with
  | @tuple ax ox us n _ _ q1 q2 q3 q4=>cases z2 with
   | @tuple ay oy ws m _ _ w1 w2 w3 w4=>
    have ll:us.size=ws.size:=by
     have a1:=Vd _ _ _ q4;have a2:=Vd _ _ _ w4
     have a3:∀(p q:List D),fH p q=true->p.length=q.length:=by
      intro p
      induction p with
      | nil=>intro q J;cases q with
       | nil=>rfl
       | cons _ _=>cases J
      | cons p0 p ih=>intro q J;cases q with
       | nil=>cases J
       | cons q0 q=>simp [ih q (QM.mp J).2]
     have a4:=a3 _ _ (tP R l2);rw [Qh]at a1 a2;lia
    have ef:decide (us.size<ws.size)=false:=by rw [ll];simp
    refine PySem.W.kat_lt (s:={ s with heap:=g }) q1 q3 w1 w3 ?_;rw [ef];refine Im (s:={ s with heap:=g }) (show X.A.in1.in1.units+64<Zf by show X.A.units+1+1+64<Zf;lia) 0 (tP R l2) f1 f2 q4 w4 (fun hb _ z r' ez=>?_) (fun e=>?_) fun _=>S
    ·cases ez
     cases d0 with
     | nil=>cases R
     | cons y0 b6=>
      have l3:=(QM.mp R).1
      cases y0 with
      | int n=>cases x1 with
       | int m=>exact⟨m,rfl⟩
       | _=>cases l3
      | _=>cases hb
    ·have e5:HT.lexLt ka kb=false:=by rw [e];exact qE _
     have:(rE (T.map fun t=>(t.2.2,t.1.1))).blt ka kb=false:=e5
     rw [this]at S;exact S
 ·
  have pm:(((J7 G).map (·.2)).toList).Perm its:=by
   have N:=YU.mp p1;have M:=N.map (·.2);rw [pairsOf_toList]at M;rw [Array.toList_map]
   have h3:(its.zip its).map (·.2)=its:=by
    rw [List.map_snd_zip];exact Qk _
   rw [h3]at M;exact M
  obtain⟨T',q1,q2⟩:=X8 pm.symm T t3;have h:∀ t∈T',t∈T:=fun t f=>q1.mem_iff.mp f;obtain⟨g1,g2⟩:=Lo (K:=X.K) (F:=F) (H:=H) (T:=T') fun t f=>t4 t (h t f)
  have lT:T'.length=its.length:=by rw [q1.length_eq,<- t3,Qo]
  have a8:(T'.map (·.1)).Pairwise Le:=by
   rw [Ym,YE];intro i j hi hj b2
   have a7:(J7 G).size=T'.length:=by
    rw [p1.size_eq,UH,lT]
   have key:∀ m (hm:m<T'.length),KK (rE (T.map fun t=>(t.2.2,t.1.1))) (J7 G) m=T'[m].1.1:=fun m hm=>by
    have b0:m<(J7 G).size:=by rw [a7];exact hm
    have O:(J7 G)[m]?=some (J7 G)[m]:=getElem?_pos _ m b0;have U:(J7 G)[m]∈(Vt its).toList:=(YU.mp p1).mem_iff.mp (by simp);rw [pairsOf_toList]at U
    have e3:(J7 G)[m].1=(J7 G)[m].2:=by
     obtain⟨n,hn,en⟩:=List.getElem_of_mem U;rw [List.getElem_zip]at en;rw [<- en]
    have e4:(J7 G)[m].2=T'[m].2.2:=by
     have:=congrArg (fun(l:List JZ)=>l[m]?) q2
     simp only [QN,Array.toList_map,QI,O]at this;rw [Qi hm]at this
     exact(QF this).symm
    unfold KK;rw [O]
    show((rE (T.map fun t=>(t.2.2,t.1.1))).keyOf (J7 G)[m].1).getD []=_
    rw [e3,e4];obtain⟨kx,a5⟩:=Lf (h T'[m] (Yy hm));obtain⟨t,f,e5,e6⟩:=xV a5
    show((T.map fun t=>(t.2.2,t.1.1)).lookup T'[m].2.2).getD []=_
    rw [a5]
    show kx=_
    rw [<- e6];exact Z t f _ (h _ (Yy hm)) e5
   have:=p2 i j (YJ b2) (by rw [UH,<- lT];exact hj)
   rw [key i hi,key j hj]at this;exact this
  have a6:T'.map (·.1)=fT l:=by
   refine B3 (((q1.map (·.1)).trans (.of_eq t1)).trans (pP l).symm) a8 (uC l) fun p hp q J e=>?_;obtain⟨t,f,rfl⟩:=QT.mp hp;obtain⟨u,E,rfl⟩:=QT.mp J;have N:=c t (h t f);have M:=c u (h u E);rw [e]at N;exact Jm e (nZ N M)
  have eD:(fT l).map (·.2)=T'.map (·.1.2):=by rw [<- a6,Yj];rfl
  have fresh:H s.heap.objs.size=none:=I.hok.fresh (Qk _);obtain⟨ep,b3⟩:=sortedHeap_at (out:=(J7 G).map (·.2)) hL
  have old:∀ b o,s.heap.get? b=some o->(sortedHeap (s.heap.push (UG "list" its.toArray 0)) s.heap.objs.size its ((J7 G).map (·.2))).get? b=some o:=fun b o e=>by
   have lt:=Qu e;rw [sortedHeap_old (QG lt) (by rw [size_push'];exact JH lt)];exact Qe _ e
  have lv:(T'.map (·.2.1)).length<=1000:=by rw [Qo,lT];lia
  refine⟨.ref s.heap.objs.size,_,I.laid (t':=s.toks) (o:=.lst (T'.map (·.2.1))) old (Qk _) ?_,rfl,k _ _ fresh (by rw [eD];exact g1) lv⟩
  refine⟨fJ lv,T'.map (·.2.2),ep,g2,?_⟩
  rw [b3,q2]
theorem sW(i:X.A.units+66<Zf)(I:L2.Inv X pins σ H s)(j:bY X.K H a vs)(r:Reps X.K F H ds vs)(n:eO d0 ds=some l)(d:ds.length<=1000)
  (k:∀ p vs',H p=none->Reps X.K F H ((fT l).map (·.2)) vs'->vs'.length<=1000->Q (.ref p) (aJ H p (.lst vs'))):J3 (J4 X.prog X.w) X.A (call (.builtin "sorted") [.ref a]) (EP X pins σ Q) X.xe s:=by
 obtain⟨c,f,g,h⟩:=I.list j;refine Calls.call_function_entry kind_sorted plain_sorted entry_sorted (args_sorted1 _) ?_;unfold Builtin.«sorted»;refine Qa (m:=checkCount "sorted" 1 1 _) (Qb (Qa (collect_list g.isList ?_ (hsz:=?_))))
 ·refine H0 i (I.kept (h':=(s.heap.push (UG "list" #[] 0)).update s.heap.objs.size (Z5 (·++c.toArray))) (t':=s.toks) fun b o e=>?_) f r n d k;rw [Heap.get?_update_ne _ _ _ _ (QG (Qu e))];exact Qe _ e
 ·rw [<- f.length];exact h
end
end SD
namespace DL
open PySem.Spec L2 SD
theorem EJ(n:X.A.units+66<Zf):dW X (.builtin "sorted") (jE X.K k5):=fun m s t H v w Q I j o=>by
 obtain⟨F,x,q,z,R,b,k⟩:=o;unfold k5 at b
 split at b
 ·cases b
  cases R with
  | cons i R2=>
   cases R2
   cases i with
   | @lst a vs _ h1 r1=>
    obtain⟨u,rfl,f⟩:=iN j;cases f;exact sW (d0:=[]) (l:=[]) n I h1.sq r1 rfl (by simp) fun p e d g _=>k _ _ _ (aI.frozen d) (aO.newLst d g)
 ·rename_i d0 h;by_cases c:h.length<1000
  ·rw [if_pos c]at b;obtain⟨l,r,b⟩:=aF b;cases b
   cases R with
   | cons i R2=>
    cases R2
    cases i with
    | @lst a vs _ h1 r1=>
     obtain⟨u,rfl,f⟩:=iN j;cases f;exact sW (d0:=d0) n I h1.sq r1 r (by simp;lia) fun p e d g _=>k _ _ _ (aI.frozen d) (aO.newLst d g)
  ·rw [if_neg c]at b;cases b
 ·cases b
end DL
namespace ZL
open PySem.Spec L2 DL
def yZ(K:PySem.W.Frag)(a b:YP):It:=
 ⟨fun i H=>∃ xs ys x y,bY K H a xs/\bY K H b ys/\xs[i]?=some x/\ys[i]?=some y,
  fun i H v c=>∃ p,H p=none/\v=.ref p/\∃ x y,c=aJ H p (.tup [x,y])/\(∀ xs,bY K H a xs->xs[i]?=some x)/\∀ ys,bY K H b ys->ys[i]?=some y,
  fun i H=>∃ xs ys,bY K H a xs/\bY K H b ys/\(xs.length<=i ∨ ys.length<=i)⟩
theorem Kn{X:Cx}{a:List (YP × Obj)}{h:L2.St}{H d:Hp}{s:J0}{ch:List YP}{h':Heap}{tk:Nat}(I:L2.Inv X a h H s)(i:∀ b∈ch,hX X a H b)(k:∀ b o,b∉ch->s.heap.get? b=some o->h'.get? b=some o)
  (q:∀ b o,s.heap.get? b=some o->d b=H b) (g:∀ b o,H b=some o->d b=some o) (f:c6 X.prog X.w d h'):L2.Inv X a h d { s with heap:=h',toks:=tk }:=by
 refine I.step (g':=s.gens) (d':=s.drawn) (ch:=ch) (fun b p=>?_) (fun b o _ _ c e _=>k b o c e) (fun b o _ _ c e _=>⟨o.slots,k b o c e⟩) (fun b o _ e n=>by rw [q b o e];exact n)
  (fun b o c e=>⟨o,k b o c e⟩) (fun b E e=>g _ _ e) (fun b o u e=>g _ _ e) (fun b F e=>⟨#[],by rw [g _ _ e];simp⟩) (fun m l=>?_) f I.bare
 ·obtain⟨_,y,_,x,v,t⟩:=i b p
  exact⟨x,y,v,t⟩
 ·obtain⟨o,A,B,j,r⟩:=l
  exact⟨o,A,B,k _ o (fun z=>(i _ z).2.1 rfl) j,r⟩
theorem zSI{P:J5}{w:J6}{K:PySem.W.Frag}{Z:List Expr}{x1}{S:Pos}(a b z TI TO n m:YP)(D:ZipApart z TI TO n m a b):
  jP P w K (.Tuple Z x1 S) (yZ K a b) [z,TI,TO,n,m] z (fun i h=>IsZip h z TI TO .none/\IsPair h TI (.ref n) (.ref m)/\(∃ u v,IsPair h TO u v)/\h.IsListIter n a i/\h.IsListIter m b i) where
 mem:=by simp
 obj:=fun i h r c g=>by
  obtain⟨A,t,⟨u,v,B⟩,⟨o4,e4,_,d4⟩,⟨o5,e5,_,d5⟩⟩:=r;rcases Qq.mp g with rfl | g
  ·exact⟨_,A,fun v z=>by have R:Data.fields _=Data.cell v:=z;cases R⟩
  rcases Qq.mp g with rfl | g
  ·exact⟨_,t,fun v z=>by have R:Data.seq _ _=Data.cell v:=z;cases R⟩
  rcases Qq.mp g with rfl | g
  ·exact⟨_,B,fun v z=>by have R:Data.seq _ _=Data.cell v:=z;cases R⟩
  rcases Qq.mp g with rfl | g
  ·exact⟨o4,e4,fun v z=>by rw [d4]at z;cases z⟩
  rcases Qq.mp g with rfl | g
  ·exact⟨o5,e5,fun v z=>by rw [d5]at z;cases z⟩
  cases g
 keep:=fun i h h' r k=>by
  obtain⟨A,t,⟨u,v,B⟩,Q,O⟩:=r
  exact⟨k z (by simp) _ A,k TI (by simp) _ t,⟨u,v,k TO (by simp) _ B⟩,Q.at fun o e=>k n (by simp) o e,O.at fun o e=>k m (by simp) o e⟩
 item:=by
  intro X hP hw hK g i T s σ H E I N r hg;subst hP hw hK;obtain⟨xs,ys,x,y,ha,hb,hx,hy⟩:=hg;obtain⟨A,t,⟨u,v,B⟩,Q,O⟩:=r;obtain⟨a7,rv,pl,_⟩:=I.list ha;obtain⟨a0,F,G,_⟩:=I.list hb;obtain⟨xu,ex,rx⟩:=rv.get hx;obtain⟨yu,ey,ry⟩:=F.get hy;refine wpAny_pyNext_zip_item D A t B Q O pl.isList G.isList (x:=xu) (y:=yu) (by simpa using ex) (by simpa using ey) fun h' a1 a2 a3 a4 a5 a6 hk=>⟨_,rfl,?_⟩;refine wpAny_letOwnedTupleGo_zip (s:={ s with heap:=h' }) a1 fun h'' z1 sb=>?_;have M:∀ c o,c≠z->h'.get? c=some o->h''.get? c=some o:=fun c o j e=>sb.extBut c o j e;have hn:H s.heap.objs.size=none:=I.hok.fresh (Qk _);have old:∀ c o,s.heap.get? c=some o->c≠s.heap.objs.size:=fun c o e=>QG (Qu e);have zT:s.heap.objs.size≠z:=(old z _ A).symm
  have U:∀ c o,c∉[z,TI,TO,n,m]->s.heap.get? c=some o->h''.get? c=some o:=fun c o j e=>
   M c o (fun q=>j (by simp [q])) (hk c o (fun q=>j (by simp [q])) (fun q=>j (by simp [q])) (fun q=>j (by simp [q])) (fun q=>j (by simp [q])) e)
  have l:∀ c o,H c=some o->c∉[z,TI,TO,n,m]:=fun c o e f=>by
   have:=(N c f).1
   rw [this]at e;cases e
  have t2:IsPair h'' TI (.ref n) (.ref m):=M _ _ D.TIz (hk _ _ D.TIz D.TITO D.TIi1 D.TIi2 t);have t3:IsPair h'' TO xu yu:=M _ _ D.TOz a2;have t4:h''.IsListIter n a (i+1):=a3.at fun o e=>M _ o D.i1z e;have t5:h''.IsListIter m b (i+1):=a4.at fun o e=>M _ o D.i2z e
  have a8:c6 X.prog X.w (aJ H s.heap.objs.size (.tup [x,y])) h'':=fun c o e=>by
   by_cases Y:c=s.heap.objs.size
   ·subst Y;rw [cP]at e;cases e
    exact⟨fJ (by simp),[xu,yu],.cons rx (.cons ry .nil),⟨_,M _ _ zT a5,rfl,0,rfl⟩⟩
   ·rw [aU Y]at e
    refine(I.hok c o e).stay (fun d v J q=>U d v ?_ q) (fun d q=>by rw [aU (j8 q hn)];exact q) fun d xs q=>by rw [aU (j8 q hn)];exact q
    rcases J with rfl | J
    ·exact l _ _ e
    ·exact l _ _ J
  refine⟨.ref s.heap.objs.size,_,Kn (s:=s) (h':=h'') (tk:=s.toks) I N U (fun c o e=>aU (old c o e)) (fun c o e=>by rw [aU (j8 e hn)];exact e) a8,rfl,⟨_,hn,rfl,x,y,rfl,fun b0 h'=>by rw [I.list_inj h' ha];exact hx,fun a9 h'=>by rw [I.list_inj h' hb];exact hy⟩,⟨z1,t2,⟨_,_,t3⟩,t4,t5⟩,fun c f=>?_⟩
  ·have e:=(N c f).1
   have nT:c≠s.heap.objs.size:=by
    rcases Qq.mp f with rfl | f
    ·exact old _ _ A
    rcases Qq.mp f with rfl | f
    ·exact old _ _ t
    rcases Qq.mp f with rfl | f
    ·exact old _ _ B
    rcases Qq.mp f with rfl | f
    ·obtain⟨_,e',_⟩:=Q;exact old _ _ e'
    rcases Qq.mp f with rfl | f
    ·obtain⟨_,e',_⟩:=O;exact old _ _ e'
    cases f
   rw [aU nT];exact e
 done:=by
  intro X hP hw hK g i T s σ H E I N r hg;subst hP hw hK;obtain⟨xs,ys,ha,hb,p⟩:=hg;obtain⟨A,t,⟨u,v,B⟩,Q,O⟩:=r;obtain⟨a7,rv,pl,_⟩:=I.list ha;obtain⟨a0,F,G,_⟩:=I.list hb;have l1:=rv.length;have l2:=F.length
  refine wpAny_pyNext_zip_end (I.ok.hd g) D A t B Q O pl.isList G.isList (by
   rcases p with p | p
   ·left;simp;lia
   ·right;simp;lia) fun h' hk=>⟨rfl,?_⟩
  have U:∀ c o,c∉[z,TI,TO,n,m]->s.heap.get? c=some o->h'.get? c=some o:=fun c o j e=>
   hk c o (fun q=>j (by simp [q])) (fun q=>j (by simp [q])) (fun q=>j (by simp [q])) (fun q=>j (by simp [q])) e
  have l:∀ c o,H c=some o->c∉[z,TI,TO,n,m]:=fun c o e f=>by
   have:=(N c f).1
   rw [this]at e;cases e
  refine Kn (s:=s) (h':=h') (tk:=s.toks) I N U (fun _ _ _=>rfl) (fun _ _ e=>e) fun c o e=>?_
  refine(I.hok c o e).stay (fun d v J q=>U d v ?_ q) (fun d q=>q) fun d xs q=>q
  rcases J with rfl | J
  ·exact l _ _ e
  ·exact l _ _ J
 self:=fun _ _ _ _ _ r h=>wpAny_pyIter_zip r.1 h
theorem fE{x y:Nat}(h:x≠y):@Ne YP x y:=h
theorem zTf{n a b:Nat}(d:a<n)(c:b<n):ZipApart (n+4) (n+2) (n+3) n (n+1) a b:=
 ⟨fE (by lia),fE (by lia),fE (by lia),fE (by lia),fE (by lia),fE (by lia),fE (by lia),fE (by lia),fE (by lia),fE (by lia),fE (by lia),fE (by lia),fE (by lia),fE (by lia),fE (by lia),fE (by lia),fE (by lia),fE (by lia)⟩
def rD(K:PySem.W.Frag)(f:TA):TI:=fun d H R=>f d H fun e c=>∃ a b,e=[.ref a,.ref b]/\(∃ xs,bY K c a xs)/\(∃ ys,bY K c b ys)/\R (yZ K a b) c
theorem zRk{X:Cx}{m:List Expr}{x1}{i:Pos}{a b:Expr}{t:TA}{p j:Pos}(U:Gl X "zip")(S:X.mg "zip"=none)(W:PA X [a,b] t)(hs:J2 [a,b] X.env=[(false,Zr a X.env),(false,Zr b X.env)]:=by rfl)(l:J2 [b] X.env=[(false,Zr b X.env)]:=by rfl):
  PI X (.Tuple m x1 i) (.Call (.Name "zip" p) [a,b] [] j) (rD X.K t):=by
 intro g s o H R I h;refine Call_ (nL I U S boot_zip (Y8 (aT (W j g s o H _ I h) fun us d ⟨vs,z,I1,B,F⟩=>?_) (by rw [hs,l]) (by rw [l];rfl)));obtain⟨y,x,e,⟨xs,Q⟩,⟨ys,O⟩,q⟩:=F;subst e
 cases B with
 | cons r n=>
  cases n with
  | cons E n=>
   cases n;cases r;cases E;obtain⟨N,rv,u,_⟩:=I1.list Q;obtain⟨M,A,k,_⟩:=I1.list O;refine call_zip_2 u.isList k.isList fun w a1 a2 a3 Z Y a6 T=>?_;have I2:L2.Inv X g o z { d with heap:=w }:=I1.kept (t':=d.toks) T;refine wpAny_pyIter_zip (s:={ d with heap:=w }) a1 ?_
   have J:y<d.heap.objs.size:=by obtain⟨_,e,_⟩:=u.isList;exact Qu e
   have G:x<d.heap.objs.size:=by obtain⟨_,e,_⟩:=k.isList;exact Qu e
   refine⟨_,[d.heap.objs.size+4,d.heap.objs.size+2,d.heap.objs.size+3,d.heap.objs.size,d.heap.objs.size+1],_,_,z,rfl,I2,zSI y x (d.heap.objs.size+4) (d.heap.objs.size+2) (d.heap.objs.size+3) d.heap.objs.size (d.heap.objs.size+1) (zTf J G),⟨a1,a2,⟨_,_,a3⟩,Z,Y⟩,fun c f=>?_,q⟩
   have v:d.heap.objs.size<=c:=by
    rcases Qq.mp f with rfl | f
    ·exact Yg _ _
    rcases Qq.mp f with rfl | f
    ·exact Yg _ _
    rcases Qq.mp f with rfl | f
    ·exact Yg _ _
    rcases Qq.mp f with rfl | f
    ·exact Qk _
    rcases Qq.mp f with rfl | f
    ·exact Yg _ _
    cases f
   exact I1.fpOk v (I1.hok.fresh v)
end ZL
namespace DL
open PySem.Spec L2 ZL
def CJ:List D->Option (List D)
 | [.list xs,.list ys]=>some (List.zipWith (fun x y=>.tuple [x,y]) xs ys)
 | _=>none
theorem VV{K:PySem.W.Frag}{F:YP->Prop}{H:Hp}{a b:YP}{vs us:List V}{ds es:List D}(I:kB K F H a vs)(t:Reps K F H ds vs)(G:kB K F H b us)(s:Reps K F H es us):kC K F H (List.zipWith (fun x y=>.tuple [x,y]) ds es) (yZ K a b):=fun M R T z i=>by
 have g:=I.stay T;have f:=G.stay T;have k:=t.stay T;have j:=s.stay T
 refine⟨fun d c=>?_,fun E=>⟨vs,us,g.sq,f.sq,?_⟩⟩
 ·rw [List.getElem?_zipWith]at c
  cases e:ds[i]? with
  | none=>rw [e]at c;cases c
  | some x=>
   cases h:es[i]? with
   | none=>rw [e,h]at c;cases c
   | some y=>
    rw [e,h]at c;cases c;obtain⟨v,q,J⟩:=k.get e;obtain⟨u,o,R2⟩:=j.get h
    refine⟨⟨vs,us,v,u,g.sq,f.sq,q,o⟩,fun w Q r=>?_⟩
    obtain⟨p,n,rfl,O,N,rfl,B,A⟩:=r;have m:=B vs g.sq;have l:=A us f.sq;rw [q]at m;cases m;rw [o]at l;cases l
    exact⟨M,aI.fresh n,aO.newTup n (.cons J (.cons R2 .nil))⟩
 ·rw [List.length_zipWith]at E;rw [<- k.length,<- j.length];lia
theorem S9{x1}(h:Gl X "zip")(g:X.mg "zip"=none)(i:DA X [a,b] gr)(hs:J2 [a,b] X.env=[(false,Zr a X.env),(false,Zr b X.env)]:=by rfl)(e:J2 [b] X.env=[(false,Zr b X.env)]:=by rfl):
  DI X (.Tuple elts x1 tpos) (.Call (.Name "zip" p) [a,b] [] pos) (fun ρ=>(gr ρ).bind CJ):=
 CF (zRk h g i hs e) fun s H R f=>by
  obtain⟨F,c,ρ,v,S,q,k⟩:=f;obtain⟨t,j,q⟩:=aF q;unfold CJ at q
  split at q
  ·cases q
   refine⟨F,c,ρ,_,S,j,fun n m u o l=>?_⟩
   cases l with
   | cons r d=>
    cases r with
    | @lst a' vs' _ h1 r1=>
     cases d with
     | cons r d=>
      cases r with
      | @lst b' us' _ h2 r2=>
       cases d
       exact⟨a',b',rfl,⟨_,h1.sq⟩,⟨_,h2.sq⟩,k n m _ o (VV h1 r1 h2 r2)⟩
  ·cases q
end DL
namespace DL
open PySem.Spec PySem.SeqAt L2 CL SD ZL
def cutD(xs:List D)(a b:Option Int):List D:=(xs.drop (HT.sIx xs.length 0 a)).take (HT.sIx xs.length xs.length b-HT.sIx xs.length 0 a)
def OR(K:PySem.W.Frag)(g:aA->Option (Option Int)):TO:=fun a H Q=>mP K a H g fun F o=>∀ F' H',aI F F' H H'->Q o H'
def DO(X:Cx)(e:Option Expr)(g:aA->Option (Option Int)):Prop:=PO X e (OR X.K g)
def kL:aA->Option (Option Int):=fun _=>some none
def oE(g:aA->Option D):aA->Option (Option Int):=fun a=>(g a).bind fun d=>(uR d).bind fun i=>some (some i)
section
variable {X:Cx}{a b e:Expr}{ga:aA->Option D}{pos p p2:Pos}{lo hi:Option Expr}{gl gh:aA->Option (Option Int)}
theorem IU(h:PO X o t)(m:∀ σ H Q,t' σ H Q->t σ H Q):PO X o t':=fun a s σ H Q I q=>h a s σ H Q I (m σ H Q q)
theorem Bv:DO X none kL:=IU zRq fun c H Q b=>by
 obtain⟨F,a,d,o,S,q,k⟩:=b;cases q;exact k F H (aI.refl F H)
theorem Bw(h:DE X e ga):DO X (some e) (oE ga):=IU (zRr h) fun p H Q c=>by
 obtain⟨F,a,b,o,S,q,k⟩:=c;obtain⟨d,g,q⟩:=aF q;obtain⟨i,f,q⟩:=aF q;cases q
 exact⟨F,a,b,d,S,g,fun m l v n j=>⟨i,XD j f,k m l n⟩⟩
theorem Reps.cut{K:PySem.W.Frag}{F:YP->Prop}{H:Hp}{ds:List D}{vs:List V}(r:Reps K F H ds vs)(a b:Option Int):Reps K F H (cutD ds a b) (lC vs a b):=by
 unfold cutD lC;rw [r.length]
 exact(r.drop _).take _
def Au:D->String
 | .none=>"NoneType"
 | .bool _=>"bool"
 | .int _=>"int"
 | .str _=>"str"
 | .list _=>"list"
 | .tuple _=>"tuple"
 | .dict _=>"dict"
def jS(T:String)(d:D):Bool:=Au d == T || (T == "int" && Au d == "bool")
def kT:D->Bool
 | .dict _=>true
 | _=>false
def q9(T:String)(b:aA->Option D):aA->Option D:=fun a=>(b a).bind fun d=>if kT d=true then none else some (.bool (jS T d))
theorem Tx(K:PySem.W.Frag)(T:String)(a:T="list" ∨ T="tuple" ∨ T="int" ∨ T="bool" ∨ T="str" ∨ T="dict")(d:D):PySem.W.kitOne K (.type (Au d)) (.type T)=some (jS T d):=by
 rcases a with rfl | rfl | rfl | rfl | rfl | rfl <;> cases d <;> (first | rfl | (unfold PySem.W.kitOne;with_unfolding_all rfl) | decide +kernel)
theorem P2(A:T="list" ∨ T="tuple" ∨ T="int" ∨ T="bool" ∨ T="str" ∨ T="dict"):dW X (.builtin "isinstance") (fun xs H Q=>∃(F:YP->Prop) (d:D) (x:V),aO X.K F H d x/\kT d=false/\xs=[x,.ty T]/\Q (.bl (jS T d)) H):=by
 intro f s p H xs B Q I v h;obtain⟨F,d,x,R,m,rfl,q⟩:=h;obtain⟨u,r,rfl,c,w⟩:=Pc v
 cases(show r=Z3 T from w)
 have ok:=Tx X.K T A d;have fin:∀ g,EP X f p Q (.bool (jS T d)) { s with toks:=g }:=fun g=>⟨.bl _,H,I.tok g,rfl,q⟩
 cases R with
 | non=>cases(show u=ZH from c);exact PySem.W.kia_one PySem.W.kitx_none I.kIn Ub ok (fun z=>nomatch z) fin
 | dct _ _ _ _ _=>cases m
 | exn _ _ _=>cases m
 | bl b=>cases(show u=ZV b from c);exact PySem.W.kia_one PySem.W.kitx_bool I.kIn Ub ok (fun z=>nomatch z) fin
 | int i=>obtain⟨t,e⟩:=(show ∃ t,u=Vk i t from c);cases e;exact PySem.W.kia_one PySem.W.kitx_int I.kIn Ub ok (fun z=>nomatch z) fin
 | str y=>obtain⟨t,e⟩:=(show ∃ t,u=Value.str y t from c);cases e;exact PySem.W.kia_one PySem.W.kitx_str I.kIn Ub ok (fun z=>nomatch z) fin
 | @tup a vs ds h1 r1=>
  cases(show u=Zb a from c)
  obtain⟨j,_,⟨o,l,k,_⟩,_⟩:=I.tuple h1;exact PySem.W.kia_one PySem.W.kitx_tuple I.kIn ⟨o,l,k⟩ ok (fun z=>nomatch z) fin
 | @lst a vs ds h1 r1=>
  cases(show u=Zb a from c)
  obtain⟨j,_,⟨o,n,l,k,_⟩,_⟩:=I.list h1.sq;exact PySem.W.kia_one PySem.W.kitx_list I.kIn ⟨o,l,k⟩ ok (fun z=>nomatch z) fin
theorem PY:Zw "isinstance"=some (.builtin "isinstance"):=by decide +kernel
theorem Bs(t:T="list" ∨ T="tuple" ∨ T="int" ∨ T="bool" ∨ T="str" ∨ T="dict")(r:Gl X "isinstance")(o:X.mg "isinstance"=none)(h:Gl X Tn)(g:X.mg Tn=none)(b:Zw Tn=some (.type T))(n:Tn≠"__name__")(s:DE X e ga)
  (hs:J2 [e,.Name Tn p'] X.env=(false,Zr e X.env)::J2 [.Name Tn p'] X.env:=by rfl) (f:J2 [.Name Tn p'] X.env=(false,Zr (.Name Tn p') X.env)::J2 [] X.env:=by rfl) (i:(Tn == ("__debug__":Str))=false:=by decide)
  (hpl:(Zt pos (J2 [.Name Tn p'] X.env)).any (·.1)=false:=by rfl):DE X (.Call (.Name "isinstance" p) [e,.Name Tn p'] [] pos) (q9 T ga):=
 cJ (CA (P2 t) r o PY (fS s (fS (V7 (v:=.ty T) h g b rfl n i) hE f) hs) (he:=hs) (hpl:=hpl)) fun A H Q m=>by
  obtain⟨F,a,l,d,S,q,k⟩:=m;obtain⟨x,u,q⟩:=aF q;by_cases c:kT x=true
  ·rw [if_pos c]at q;cases q
  ·rw [if_neg c]at q;cases q
   exact⟨F,a,l,x,S,u,fun j y v z w=>⟨j,x,v,w,by simpa using c,rfl,k j y _ z (.bl _)⟩⟩
end
def EQ(a:Uf)(oN N':List Str)(scope:Uf)(inner:List (Option Nat)):Bool:=
 scope.kind == .function && scope.names.all (fun x=>x.2 != .cell) && scope.names.all (fun x=>x.2 != .local || scope.names.lookup x.1 == some .local) &&
 scope.names.all (fun x=>x.2 != .free || (scope.names.lookup x.1 == some .free && (a.names.lookup x.1 == some .cell || a.names.lookup x.1 == some .free))) && inner.length == N'.length &&
 (Za inner.length).all fun i=>match inner[i]? with
  | some (some j)=>match N'[i]? with
   | some x=>oN[j]? == some x && scope.names.lookup x == some .free
   | none=>false
  | _=>true
theorem fF(a:Uf)(oN:List Str)(k:X.env.scope=a)(g:X.N=oN)(h:EQ a oN N' scope inner=true):kX X N' scope inner:=by
 unfold EQ at h;simp only [QW]at h;obtain⟨⟨⟨⟨⟨a1,q⟩,p⟩,o⟩,n⟩,m⟩:=h
 refine⟨Yz a1,fun x b e=>?_,fun x b e=>?_,fun x b e=>?_,Yz n,fun i j e=>?_⟩
 ·have:=Yi.mp q x b
  rw [e]at this;cases this
 ·have:=Yi.mp p x b
  rw [e]at this;rcases Bool.or_eq_true_iff.mp this with z | z
  ·cases z
  ·exact Yz z
 ·have:=Yi.mp o x b
  rw [e]at this;rcases Bool.or_eq_true_iff.mp this with z | z
  ·cases z
  ·obtain⟨d,c⟩:=QM.mp z
   refine⟨Yz d,?_⟩
   rw [k];rcases Bool.or_eq_true_iff.mp c with z | z
   ·exact .inl (Yz z)
   ·exact .inr (Yz z)
 ·have f:i<inner.length:=(Qc.mp e).1
  have:=Yi.mp m i (QU.mpr f)
  rw [e]at this;dsimp only at this
  split at this
  ·rename_i x l;obtain⟨d,c⟩:=QM.mp this
   exact⟨x,l,by rw [g];exact Yz d,Yz c⟩
  ·cases this
theorem gJ(r:cA k A):A.units+64<Zf:=by have:=r.un;lia
theorem eF(r:cA k A):A.units+65<Zf:=by have:=r.un;lia
theorem nB(r:cA k A):A.units+66<Zf:=by have:=r.un;lia
def xR(K:PySem.W.Frag)(G:List D->Option D):Sp:=fun b H Q E=>∃(a:YP) (ns:List Int),b=[.ref a]/\bY K H a (ns.map V.int)/\ns.length<=63/\∀ H',Q (.bl true) H'
theorem qC{K:PySem.W.Frag}{F:YP->Prop}{H:Hp}:∀ ns:List Int,Reps K F H (ns.map J9) (ns.map V.int)
 | []=>.nil
 | n::ns=>.cons (.int n) (qC ns)
theorem M9{P:J5}{w:J6}{K:PySem.W.Frag}{g:Str->Option JZ}{base:Heap}{CX:hW}{k:Nat}{f:YP}{i:Zh}{d:List Str}{G:List D->Option D}(F:aK P w K g base CX k f i d (aW K 1 G))
  (h:∀ ns:List Int,ns.length<=63->G [.list (ns.map J9)]=some (.bool true)):aK P w K g base CX k f i d (xR K G):=
 F.imp fun p H Q E j=>by
  obtain⟨a,ns,e,c,l,q⟩:=j;subst e
  refine⟨fun b=>H b≠none,[.list (ns.map J9)],.bool true,rfl,fun _ z=>z,.cons ?_ .nil,h ns l,fun r n v s m=>?_⟩
  ·rcases c with c | c
   ·refine .lst (.inl ⟨?_,c⟩) (qC ns)
    rcases c with c | ⟨o,c⟩ <;> (rw [c];simp)
   ·exact .lst (.inr (.inr c)) (qC ns)
  ·cases m;exact q n
theorem dJ{P:J5}{w:J6}{K:PySem.W.Frag}{d:Str->Option JZ}{base:Heap}{x a:Str}{b:Zv}{f:YP}{e:Zh}{N c:List Str}{k n m:Nat}{g:aA->Option aV}{G:List D->Option D}(l:G=cM m g)(h:c.length=n)(i:N.length=m)(F:gB K x a b f e)(S:bU N c (aS b))
  (j:∀(cdv:JZ) (A:Around) (outer:List Env) (s:J0) (H:Hp) (E:XK),cA k (A.deeper (U8 a (aS b) s.heap.objs.size f cdv))->
   iQ (jQ aM P w K d base N a (aS b) f cdv A outer s H E).nox (dE b) g):aK P w K d base aM (k+1) f e c (aW K n G):=by
 subst h i l;exact MJ F S j
end DL
namespace ST
open PySem.SetTable
def fI(M i:Nat):Nat:=(i * 5+1) % (M+1)
def jB(M:Nat):Nat->Nat->Nat
 | 0,i=>i
 | n+1,i=>jB M n (fI M i)
theorem tL(M:Nat):∀ a b i,jB M (a+b) i=jB M b (jB M a i)
 | 0,b,i=>by rw [Q7];rfl
 | a+1,b,i=>by rw [Nat.succ_add];exact tL M a b (fI M i)
def zW(M:Nat):Nat->Nat->List Nat
 | 0,_=>[]
 | n+1,i=>i::zW M n (fI M i)
theorem GY(M:Nat):∀(n i j:Nat),j∈zW M n i->∃ k,k<n/\jB M k i=j
 | 0,i,j,h=>nomatch h
 | n+1,i,j,h=>by
  rcases Qq.mp h with h | h
  ·exact⟨0,Vh n,h.symm⟩
  ·obtain⟨k,b,a⟩:=GY M n _ j h
   exact⟨k+1,Nat.succ_lt_succ b,a⟩
def k3(M:Nat):Bool:=(jB M (M+1) 0 == 0) && (Za (M+1)).all fun j=>(zW M (M+1) 0).contains j
theorem Mv:k3 7=true:=by decide +kernel
theorem Mt:k3 31=true:=by decide +kernel
theorem SI:k3 127=true:=by decide +kernel
theorem Ms:k3 15=true:=by decide +kernel
theorem Mu:k3 63=true:=by decide +kernel
theorem SJ:k3 255=true:=by decide +kernel
theorem SK:k3 511=true:=by decide +kernel
def eP(M:Nat):Prop:=M=7 ∨ M=31 ∨ M=127 ∨ M=15 ∨ M=63 ∨ M=255 ∨ M=511
theorem eP.cyc(g:eP M):k3 M=true:=by
 rcases g with rfl | rfl | rfl | rfl | rfl | rfl | rfl
 ·exact Mv
 ·exact Mt
 ·exact SI
 ·exact Ms
 ·exact Mu
 ·exact SJ
 ·exact SK
theorem Mr(g:eP M):jB M (M+1) 0=0/\∀ j,j<=M->∃ k,k<=M/\jB M k 0=j:=by
 have h:=g.cyc;unfold k3 at h;rw [QW,beq_iff_eq,Yi]at h
 refine⟨h.1,fun j b=>?_⟩
 have:=h.2 j (QU.mpr (by lia))
 obtain⟨k,c,a⟩:=GY M (M+1) 0 j (Qv.mp this)
 exact⟨k,by lia,a⟩
theorem cyc(g:eP M)(b:i<=M)(a:j<=M):∃ k,k<=M/\jB M k i=j:=by
 obtain⟨z,c⟩:=Mr g;obtain⟨m,e,rfl⟩:=c i b;obtain⟨n,d,rfl⟩:=c j a;by_cases q:m<=n
 ·refine⟨n-m,by lia,?_⟩
  rw [<- tL];congr 1;lia
 ·refine⟨n+(M+1)-m,by lia,?_⟩
  rw [<- tL,show m+(n+(M+1)-m)=(M+1)+n by lia,tL,z]
def hZ(M:Nat)(p:Probe):Probe:=
 if p.more > 0 then{ p with j:=p.j+1,more:=p.more-1 } else
 { p with j:=(leap M p.i p.perturb).1,more:=ZY M (leap M p.i p.perturb).1-(leap M p.i p.perturb).1,i:=(leap M p.i p.perturb).1,perturb:=(leap M p.i p.perturb).2 }
def run(M:Nat)(l:Nat × Nat):Probe:={ j:=l.1,more:=ZY M l.1-l.1,i:=l.1,perturb:=l.2,dummy:=none }
def L(M:Nat)(h:Int):Nat->Nat × Nat
 | 0=>(bits h % (M+1),bits h)
 | k+1=>leap M (L M h k).1 (L M h k).2
def P(M:Nat)(h:Int):Nat->Probe
 | 0=>run M (L M h 0)
 | n+1=>hZ M (P M h n)
theorem uH(M:Nat)(h:Int):∀ k,(L M h k).1<=M
 | 0=>JF (Nat.mod_lt _ (Vh _))
 | k+1=>JF (Nat.mod_lt _ (Vh _))
theorem xJ(h:i<=M):i<=ZY M i/\ZY M i<=M/\ZY M i-i<=9:=by
 unfold ZY
 split <;> lia
theorem zH(M:Nat)(h:Int):∀ n,(P M h n).j+(P M h n).more<=M/\(P M h n).dummy=none
 | 0=>by
  have:=xJ (uH M h 0)
  show(L M h 0).1+(ZY M (L M h 0).1-(L M h 0).1)<=M/\none=none
  exact⟨by lia,rfl⟩
 | n+1=>by
  obtain⟨b,a⟩:=zH M h n
  show(hZ M (P M h n)).j+(hZ M (P M h n)).more<=M/\(hZ M (P M h n)).dummy=none
  unfold hZ;split
  ·exact⟨by show(P M h n).j+1+((P M h n).more-1)<=M;lia,a⟩
  ·refine⟨?_,a⟩
   have:(leap M (P M h n).i (P M h n).perturb).1<=M:=JF (Nat.mod_lt _ (Vh _))
   have:=xJ this
   show(leap M (P M h n).i (P M h n).perturb).1+(ZY M (leap M (P M h n).i (P M h n).perturb).1-(leap M (P M h n).i (P M h n).perturb).1)<=M
   lia
theorem zG(M:Nat)(h:Int)(n:Nat):(P M h n).j<=M:=by have:=(zH M h n).1;lia
theorem Bg(e:P M h n=run M (L M h k)):∀ d,d<=ZY M (L M h k).1-(L M h k).1->
  P M h (n+d)={ j:=(L M h k).1+d,more:=ZY M (L M h k).1-(L M h k).1-d,i:=(L M h k).1,perturb:=(L M h k).2,dummy:=none }
 | 0,_=>e
 | d+1,hd=>by
  show hZ M (P M h (n+d))=_
  rw [Bg e d (by lia)];unfold hZ;rw [if_pos (show ZY M (L M h k).1-(L M h k).1-d > 0 by lia)];rfl
theorem Fr(e:P M h n=run M (L M h k)):P M h (n+(ZY M (L M h k).1-(L M h k).1)+1)=run M (L M h (k+1)):=by
 show hZ M (P M h (n+(ZY M (L M h k).1-(L M h k).1)))=_
 rw [Bg e _ (Qk _)];unfold hZ;rw [if_neg (show ¬ ZY M (L M h k).1-(L M h k).1-(ZY M (L M h k).1-(L M h k).1) > 0 by lia)];rfl
theorem De(M:Nat)(h:Int):∀ k,∃ n,n<=10 * k/\P M h n=run M (L M h k)
 | 0=>⟨0,Qk _,rfl⟩
 | k+1=>by
  obtain⟨n,a,e⟩:=De M h k
  have:=xJ (uH M h k)
  exact⟨_,by lia,Fr e⟩
theorem EY(M:Nat)(h:Int):∀ k,(L M h k).2=bits h / 32 ^ k
 | 0=>by show bits h=_;rw [Nat.pow_zero,Nat.div_one]
 | k+1=>by
  show(L M h k).2 / 32=_
  rw [EY M h k,Nat.div_div_eq_div_mul,<- Nat.pow_succ]
theorem PV(h:Int):bits h<36893488147419103232:=by
 unfold bits
 have:h % (2 ^ 64:Int)<2 ^ 64:=JA _ (by decide)
 have a:(2 ^ 64:Int)=18446744073709551616:=by decide
 rw [a]at this ⊢;lia
theorem CT(M:Nat)(h:Int):∀ k,(L M h (13+k)).2=0/\(L M h (13+k)).1=jB M k (L M h 13).1
 | 0=>by
  refine⟨?_,rfl⟩
  rw [EY];exact Nat.div_eq_of_lt (PV h)
 | k+1=>by
  obtain⟨b,a⟩:=CT M h k
  show(L M h (13+k)).2 / 32=0/\((L M h (13+k)).1 * 5+1+(L M h (13+k)).2 / 32) % (M+1)=jB M (k+1) (L M h 13).1
  rw [b,a,tL]
  exact⟨rfl,rfl⟩
theorem Eg(g:eP M)(h:Int)(a:j<=M):∃ k,k<VA M/\(L M h k).1=j:=by
 obtain⟨k,b,e⟩:=cyc g (uH M h 13) a
 exact⟨13+k,by unfold VA;lia,by rw [(CT M h k).2,e]⟩
theorem wF(g:eP M)(h:Int)(a:j<=M):∃ n,n<10 * VA M/\(P M h n).j=j:=by
 obtain⟨k,c,e⟩:=Eg g h a;obtain⟨n,b,q⟩:=De M h k
 exact⟨n,by lia,by rw [q,<- e];rfl⟩
abbrev Up(l:List Nat):Prop:=l.Pairwise (· < ·)
theorem Up.at{l:List Nat}(s:Up l){i k x y:Nat}(b:l[i]?=some x)(a:l[k]?=some y)(h:i<k):x<y:=by
 obtain⟨d,rfl⟩:=Qc.mp b;obtain⟨c,rfl⟩:=Qc.mp a;exact YE.mp s i k d c h
theorem Up.le{l:List Nat}(s:Up l){i k x y:Nat}(b:l[i]?=some x)(a:l[k]?=some y)(h:i<=k):x<=y:=by
 by_cases e:i=k
 ·subst e;rw [b]at a;cases a;exact Qk _
 ·exact YJ (s.at b a (by lia))
theorem Up.nodup(s:Up l):l.Nodup:=s.imp fun h=>QG h
theorem Ba(xs:Array Nat)(s:Up xs.toList)(j:Nat):∀ fuel lo hi,lo<=hi->hi<=xs.size->hi-lo<=fuel->
  (∀ i x,xs.toList[i]?=some x->i<lo->x<j)->(∀ i x,xs.toList[i]?=some x->hi<=i->j<=x)->
  below.go xs j fuel lo hi<=xs.size/\(∀ i x,xs.toList[i]?=some x->i<below.go xs j fuel lo hi->x<j)/\(∀ i x,xs.toList[i]?=some x->below.go xs j fuel lo hi<=i->j<=x)
 | 0,lo,hi,h1,h2,h3,a,b=>by
  have e:lo=hi:=by lia
  subst e
  exact⟨h2,a,b⟩
 | fuel+1,lo,hi,h1,h2,h3,a,b=>by
  unfold below.go;by_cases c:lo<hi
  ·rw [if_pos c];dsimp only
   have k:(lo+hi) / 2<xs.size:=by lia
   have h:xs.toList[(lo+hi) / 2]?=some (xs.getD ((lo+hi) / 2) j):=by
    rw [QI,QC k]
    simp [Vn,k]
   by_cases d:xs.getD ((lo+hi) / 2) j<j
   ·rw [if_pos d];exact Ba xs s j fuel _ _ (by lia) h2 (by lia) (fun i x g f=>YZ (s.le g h (by lia)) d) b
   ·rw [if_neg d];exact Ba xs s j fuel _ _ (by lia) (by lia) (by lia) a (fun i x g f=>QH (by lia) (s.le h g f))
  ·rw [if_neg c]
   have e:lo=hi:=by lia
   subst e
   exact⟨h2,a,b⟩
theorem pH(xs:Array Nat)(s:Up xs.toList)(j:Nat):Zu xs j<=xs.size/\(∀ i x,xs.toList[i]?=some x->i<Zu xs j->x<j)/\(∀ i x,xs.toList[i]?=some x->Zu xs j<=i->j<=x):=
 Ba xs s j _ _ _ (Q2 _) (Qk _) (by lia) (fun i x _ h=>absurd h (Yx _)) fun i x a h=>by
  obtain⟨q,_⟩:=Qc.mp a;rw [Qh]at q;lia
structure fV(t:SetTable)(hs:List Int):Prop where
 good:eP t.mask
 dum:t.dummies=#[]
 len:t.place.toList.length=hs.length
 up:Up t.place.toList
 le:∀ x∈t.place.toList,x<=t.mask
 room:t.place.toList.length * 5<t.mask * 3
 reach:∀ q∈t.place.toList.zip hs,∃ n,(P t.mask q.2 n).j=q.1/\∀ m,m<n->(P t.mask q.2 m).j∈t.place.toList
theorem xN{t:SetTable}(h:t.dummies=#[])(s:Up t.place.toList)(j:Nat):(∃ i,t.slot j=.live i/\t.place.toList[i]?=some j) ∨ (t.slot j=.empty/\j∉t.place.toList):=by
 obtain⟨n,m,l⟩:=pH t.place s j;unfold slot;dsimp only;by_cases c:(t.place[Zu t.place j]? == some j)=true
 ·rw [if_pos c];exact .inl ⟨_,rfl,by rw [QI];exact Yz c⟩
 ·rw [if_neg c,h];refine .inr ⟨rfl,fun g=>c ?_⟩;obtain⟨i,d⟩:=Q3 g
  have e:i=Zu t.place j:=by
   by_cases a:i<Zu t.place j
   ·have:=m i j d a;lia
   ·by_cases b:i=Zu t.place j
    ·exact b
    ·have k:Zu t.place j<t.place.toList.length:=by
      obtain⟨q,_⟩:=Qc.mp d;lia
     have f:=Qi k
     have:=s.at f d (by lia)
     have:=l _ _ f (Qk _)
     lia
  rw [<- e,<- QI,d];simp
theorem HW{t:SetTable}(b:t.dummies=#[])(s:Up t.place.toList){j i:Nat}(h:t.slot j=.live i):t.place.toList[i]?=some j:=by
 rcases xN b s j with⟨d,a,c⟩ | ⟨a,_⟩
 ·rw [h]at a;cases a;exact c
 ·rw [h]at a;cases a
theorem Nb{p:Nat->Prop}[DecidablePred p]:∀ n,p n->∃ m,m<=n/\p m/\∀ k,k<m->¬ p k:=by
 intro n
 induction n using Nat.strongRecOn with
 | ind n d=>
  intro h;by_cases c:∃ k,k<n/\p k
  ·obtain⟨k,b,a⟩:=c;obtain⟨m,g,f,e⟩:=d k b a
   exact⟨m,by lia,f,e⟩
  ·exact⟨n,Qk _,h,fun k b a=>c ⟨k,b,a⟩⟩
theorem OI{M:Nat}{l:List Nat}(h:l.length<=M):∃ j,j<=M/\j∉l:=by
 refine YF fun c=>?_
 have:Za (M+1) ⊆ l:=fun j b=>YF fun a=>c ⟨j,by have:=QU.mp b;lia,a⟩
 have:=YC List.nodup_range this
 rw [Yn]at this;lia
theorem FQ{M:Nat}{l:List Nat}(g:eP M)(h:l.length<=M)(x:Int):∃ n,n<10 * VA M/\(P M x n).j∉l/\∀ m,m<n->(P M x m).j∈l:=by
 obtain⟨j,e,c⟩:=OI h;obtain⟨n,o,f⟩:=wF g x e;obtain⟨m,i,b,a⟩:=Nb (p:=fun n=>(P M x n).j∉l) n (by rw [f];exact c)
 exact⟨m,by lia,b,fun k d=>YF (a k d)⟩
section
variable {t:SetTable}{hs:List Int}{hashAt:Nat->Int}{h:Int}{n:Nat}
theorem Fx(T:fV t hs)(u:(P t.mask h n).j∉t.place.toList)(s:∀ m,m<n->(P t.mask h m).j∈t.place.toList):∀ fuel c,c<=n->n-c<fuel->
  (U1 t hashAt h fuel (P t.mask h c)=some (.empty (P t.mask h n).j none)/\∀ m,c<=m->m<n->∀ i,t.slot (P t.mask h m).j=.live i->hashAt i≠h)
  ∨ ∃ m i,c<=m/\m<n/\t.slot (P t.mask h m).j=.live i/\hashAt i=h/\(∀ m',c<=m'->m'<m->∀ i,t.slot (P t.mask h m').j=.live i->hashAt i≠h)/\U1 t hashAt h fuel (P t.mask h c)=some (.candidate (P t.mask h m).j i (P t.mask h (m+1)))
 | 0,c,_,hf=>absurd hf (Yx _)
 | fuel+1,c,hc,hf=>by
  unfold U1;by_cases e:c=n
  ·subst e;rcases xN T.dum T.up (P t.mask h c).j with⟨i,f,l⟩ | ⟨f,_⟩
   ·exact absurd (QO l) u
   ·rw [f];refine .inl ⟨?_,fun m a b=>by lia⟩
    show some (Met.empty (P t.mask h c).j (P t.mask h c).dummy)=_
    rw [(zH t.mask h c).2]
  ·rcases xN T.dum T.up (P t.mask h c).j with⟨i,f,l⟩ | ⟨_,l⟩
   ·rw [f];dsimp only;by_cases k:(hashAt i == h)=true
    ·rw [if_pos k];exact .inr ⟨c,i,Qk _,by lia,f,Yz k,fun m' a b=>by lia,rfl⟩
    ·rw [if_neg k];have r:hashAt i≠h:=fun e=>k (by rw [e];simp);rcases Fx T u s fuel (c+1) (by lia) (by lia)with⟨a,b⟩ | ⟨m,i',a1,a2,a3,a4,a5,a6⟩
     ·refine .inl ⟨a,fun m p g o d=>?_⟩;by_cases q:m=c
      ·subst q;rw [f]at d;cases d;exact r
      ·exact b m (by lia) g o d
     ·refine .inr ⟨m,i',by lia,a2,a3,a4,fun m' p g o d=>?_,a6⟩;by_cases q:m'=c
      ·subst q;rw [f]at d;cases d;exact r
      ·exact a5 m' (by lia) g o d
   ·exact absurd (s c (by lia)) l
theorem met(T:fV t hs)(k:(P t.mask h n).j∉t.place.toList){i j:Nat}(b:t.place.toList[i]?=some j)(g:hs[i]?=some h):∃ m,m<n/\(P t.mask h m).j=j:=by
 have f:(j,h)∈t.place.toList.zip hs:=QO (i:=i) (by rw [YG];exact⟨b,g⟩);obtain⟨m,e,a⟩:=T.reach _ f
 refine⟨m,YF fun c=>k ?_,e⟩
 by_cases d:n=m
 ·subst d;rw [e];exact QO b
 ·exact a n (by lia)
end
theorem kS{a:Type}(xs:Array a)(p:Nat)(x:a):(Zy xs p x).toList=xs.toList.take p++x::xs.toList.drop p:=by
 rw [SetTable.toList_insertAt]
theorem Xm(T:fV t hs)(B:(P t.mask h n).j∉t.place.toList)(A:∀ m,m<n->(P t.mask h m).j∈t.place.toList)
  (G:(t.place.toList.length+1) * 5<t.mask * 3) (pl:Bool):
  fV { (t.put (P t.mask h n).j).1 with plain:=pl } (hs.take (t.put (P t.mask h n).j).2++h::hs.drop (t.put (P t.mask h n).j).2):=by
 obtain⟨b1,F,E⟩:=pH t.place T.up (P t.mask h n).j
 have c:∀ x,x∈(Zy t.place (Zu t.place (P t.mask h n).j) (P t.mask h n).j).toList ↔ x=(P t.mask h n).j ∨ x∈t.place.toList:=by
  intro x;rw [kS,QA,Qq]
  conv=>rhs;rw [<- QZ (Zu t.place (P t.mask h n).j) t.place.toList,QA]
  constructor
  ·rintro(a | a | a)
   ·exact .inr (.inl a)
   ·exact .inl a
   ·exact .inr (.inr a)
  ·rintro(a | a | a)
   ·exact .inr (.inl a)
   ·exact .inl a
   ·exact .inr (.inr a)
 refine⟨T.good,?_,?_,?_,?_,?_,?_⟩
 ·show(if has t.dummies _=true then _ else t.dummies)=#[]
  rw [T.dum];rfl
 ·show(Zy t.place (Zu t.place (P t.mask h n).j) (P t.mask h n).j).toList.length=(hs.take (Zu t.place (P t.mask h n).j)++h::hs.drop (Zu t.place (P t.mask h n).j)).length
  rw [kS];simp only [Qj,QQ,Qt,Yk];rw [T.len]
 ·show Up (Zy t.place (Zu t.place (P t.mask h n).j) (P t.mask h n).j).toList
  rw [kS];unfold Up;rw [Ya]
  have o:∀ x∈t.place.toList.take (Zu t.place (P t.mask h n).j),x<(P t.mask h n).j:=fun x f=>by
   obtain⟨i,d⟩:=Q3 f;rw [Uv]at d
   split at d
   ·rename_i q;exact F i x d q
   ·cases d
  have p:∀ x∈t.place.toList.drop (Zu t.place (P t.mask h n).j),(P t.mask h n).j<x:=fun x f=>by
   obtain⟨i,d⟩:=Q3 f;rw [Uw]at d
   have:=E _ x d (by lia)
   have w:x≠(P t.mask h n).j:=fun e=>B (e ▸ QO d);lia
  refine⟨T.up.sublist (UD _ _),Yt.mpr ⟨p,T.up.sublist (List.drop_sublist _ _)⟩,fun a s b r=>?_⟩
  rcases Qq.mp r with rfl | r
  ·exact o a s
  ·exact Vi (o a s) (p b r)
 ·intro x f
  rcases(c x).mp f with rfl | f
  ·exact zG _ _ _
  ·exact T.le x f
 ·show(Zy t.place (Zu t.place (P t.mask h n).j) (P t.mask h n).j).toList.length * 5<t.mask * 3
  rw [kS];simp only [Qj,QQ,Qt,Yk];lia
 ·intro q v
  have u:(Zy t.place (Zu t.place (P t.mask h n).j) (P t.mask h n).j).toList.zip (hs.take (Zu t.place (P t.mask h n).j)++h::hs.drop (Zu t.place (P t.mask h n).j))=(t.place.toList.take (Zu t.place (P t.mask h n).j)).zip (hs.take (Zu t.place (P t.mask h n).j))++((P t.mask h n).j,h)::(t.place.toList.drop (Zu t.place (P t.mask h n).j)).zip (hs.drop (Zu t.place (P t.mask h n).j)):=by
   rw [kS,List.zip_append (by rw [QQ,QQ,T.len]),Jx]
  have g:q=((P t.mask h n).j,h) ∨ q∈t.place.toList.zip hs:=by
   have l:q∈(Zy t.place (Zu t.place (P t.mask h n).j) (P t.mask h n).j).toList.zip (hs.take (Zu t.place (P t.mask h n).j)++h::hs.drop (Zu t.place (P t.mask h n).j)):=v;rw [u,QA,Qq]at l
   conv=>rhs;rw [<- QZ (Zu t.place (P t.mask h n).j) t.place.toList,<- QZ (Zu t.place (P t.mask h n).j) hs,List.zip_append (by rw [QQ,QQ,T.len]),QA]
   rcases l with a | a | a
   ·exact .inr (.inl a)
   ·exact .inl a
   ·exact .inr (.inr a)
  rcases g with rfl | g
  ·exact⟨n,rfl,fun m y=>(c _).mpr (.inr (A m y))⟩
  ·obtain⟨m,e,a⟩:=T.reach q g
   exact⟨m,e,fun k z=>(c _).mpr (.inr (a k z))⟩
structure dY(M:Nat)(hs:List Int)(ow:Array (Option Nat)):Prop where
 size:ow.size=M+1
 lt:∀ j i:Nat,ow[j]?=some (some i)->i<hs.length
 all:∀ i,i<hs.length->∃ j:Nat,ow[j]?=some (some i)
 inj:∀ j j' i:Nat,ow[j]?=some (some i)->ow[j']?=some (some i)->j=j'
 reach:∀(j i:Nat) (h:Int),ow[j]?=some (some i)->hs[i]?=some h->∃ n,(P M h n).j=j/\∀ m,m<n->∃ i',ow[(P M h m).j]?=some (some i')
theorem dY.free(W:dY M hs ow)(h:hs.length<=M):∃ j:Nat,j<=M/\ow[j]?=some none:=by
 refine YF fun c=>?_
 have m:∀ j,j<=M->∃ i,ow[j]?=some (some i):=fun j f=>by
  have d:j<ow.size:=by rw [W.size];lia
  cases e:ow[j]with
  | none=>exact absurd ⟨j,f,by rw [QC d,e]⟩ c
  | some i=>exact⟨i,by rw [QC d,e]⟩
 have e:∀ j,j<=M->ow[j]?=some (some ((ow.getD j none).getD 0)):=fun j f=>by
  obtain⟨i,g⟩:=m j f
  have d:j<ow.size:=by rw [W.size];lia
  rw [g];rw [QC d]at g
  have:ow.getD j none=some i:=by simp [Vn,d];exact QF g
  rw [this];rfl
 have k:(Za (M+1)).map (fun j=>(ow.getD j none).getD 0) ⊆ Za hs.length:=fun i g=>by
  obtain⟨j,f,rfl⟩:=QT.mp g;exact QU.mpr (W.lt j _ (e j (by have:=QU.mp f;lia)))
 have n:((Za (M+1)).map (fun j=>(ow.getD j none).getD 0)).Nodup:=by
  unfold UT;rw [Ym];refine List.Pairwise.imp_of_mem ?_ List.nodup_range;intro a b q p l o;refine l (W.inj a b _ (e a (by have:=QU.mp q;lia)) ?_);rw [o];exact e b (by have:=QU.mp p;lia)
 have:=YC n k
 rw [Qo,Yn,Yn]at this;lia
theorem FR(hsz:ow.size=M+1):∀ fuel k n,P M h n=run M (L M h k)->(∀ m,m<n->∃ i,ow[(P M h m).j]?=some (some i))->
  (∃ kk,k<=kk/\kk<k+fuel/\ow[(L M h kk).1]?=some none)->
  ∃ n',layClean.free M ow fuel (L M h k).1 (L M h k).2=some (P M h n').j/\ow[(P M h n').j]?=some none/\∀ m,m<n'->∃ i,ow[(P M h m).j]?=some (some i)
 | 0,k,n,e,a,⟨kk,h1,h2,_⟩=>by lia
 | fuel+1,k,n,e,a,⟨kk,h1,h2,h3⟩=>by
  have z:=xJ (uH M h k)
  have b:∀ d,d<=ZY M (L M h k).1-(L M h k).1->ow[(L M h k).1+d]?=some (ow.getD ((L M h k).1+d) (some 0)):=fun d l=>by
   have s:(L M h k).1+d<ow.size:=by lia
   rw [QC s]
   simp [Vn,s]
  have p:∀ d,d<=ZY M (L M h k).1-(L M h k).1->(P M h (n+d)).j=(L M h k).1+d:=fun d l=>by rw [Bg e d l]
  unfold layClean.free
  cases q:(Za (ZY M (L M h k).1+1-(L M h k).1)).find? fun d=>(ow.getD ((L M h k).1+d) (some 0)).isNone with
  | some d=>
   rw [List.find?_range_eq_some]at q;obtain⟨w,v,u⟩:=q
   have l:d<=ZY M (L M h k).1-(L M h k).1:=by have:=QU.mp v;lia
   refine⟨n+d,?_,?_,fun m x=>?_⟩
   ·rw [p d l]
   ·rw [p d l,b d l,Option.isNone_iff_eq_none.mp w]
   ·by_cases c:m<n
    ·exact a m c
    ·have:=u (m-n) (by lia)
     have f:m-n<=ZY M (L M h k).1-(L M h k).1:=by lia
     have o:=p (m-n) f;rw [show n+(m-n)=m by lia]at o;rw [o,b (m-n) f]
     cases r:ow.getD ((L M h k).1+(m-n)) (some 0)with
     | none=>rw [r]at this;simp at this
     | some i=>exact⟨i,rfl⟩
  | none=>
   rw [List.find?_eq_none]at q
   have g:∀ d,d<=ZY M (L M h k).1-(L M h k).1->∃ i,ow[(L M h k).1+d]?=some (some i):=fun d l=>by
    have:=q d (QU.mpr (by lia))
    rw [b d l]
    cases r:ow.getD ((L M h k).1+d) (some 0)with
    | none=>rw [r]at this;simp at this
    | some i=>exact⟨i,rfl⟩
   have A:kk≠k:=fun y=>by
    subst y;obtain⟨i,t⟩:=g 0 (Q2 _);rw [JO,h3]at t;cases t
   refine FR hsz fuel (k+1) _ (Fr e) (fun m x=>?_) ⟨kk,by lia,by lia,h3⟩;by_cases c:m<n
   ·exact a m c
   ·have f:m-n<=ZY M (L M h k).1-(L M h k).1:=by lia
    have o:=p (m-n) f;rw [show n+(m-n)=m by lia]at o;rw [o];exact g (m-n) f
theorem dY.put(W:dY M hs ow)(q:ow[(P M h n).j]?=some none)(v:∀ m,m<n->∃ i,ow[(P M h m).j]?=some (some i)):
  dY M (hs++[h]) (ow.setIfInBounds (P M h n).j (some hs.length)):=by
 have t:(P M h n).j<ow.size:=by rw [W.size];have:=zG M h n;lia
 have f:∀ j,(ow.setIfInBounds (P M h n).j (some hs.length))[j]?=if(P M h n).j=j then some (some hs.length)else ow[j]?:=fun j=>by
  rw [Array.getElem?_setIfInBounds];split
  ·first | rfl | rw [if_pos t]
  ·rfl
 have g:∀ j:Nat,(∃ i,ow[j]?=some (some i))->∃ i,(ow.setIfInBounds (P M h n).j (some hs.length))[j]?=some (some i):=fun j r=>by
  obtain⟨i,o⟩:=r;rw [f];split
  ·exact⟨_,rfl⟩
  ·exact⟨i,o⟩
 refine⟨by simpa using W.size,fun j i b=>?_,fun i o=>?_,fun j p i b d=>?_,fun j i x b l=>?_⟩
 ·rw [Qj,Yd];rw [f]at b
  split at b
  ·cases b;lia
  ·have:=W.lt j i b;lia
 ·rw [Qj,Yd]at o;by_cases c:i<hs.length
  ·obtain⟨j,b⟩:=W.all i c
   refine⟨j,?_⟩
   rw [f,if_neg (fun e=>by rw [e,b]at q;cases q)];exact b
  ·refine⟨(P M h n).j,?_⟩
   rw [f,if_pos rfl,show i=hs.length by lia]
 ·rw [f]at b d
  split at b
  ·rename_i e;cases b
   split at d
   ·rename_i w;rw [<- e,<- w]
   ·have:=W.lt p _ d;lia
  ·split at d
   ·cases d
    have:=W.lt j _ b;lia
   ·exact W.inj j p i b d
 ·rw [f]at b
  split at b
  ·rename_i e;cases b;rw [QK (Qk _),Nat.sub_self]at l;cases l
   exact⟨n,e,fun m s=>g _ (v m s)⟩
  ·rw [QR (W.lt j i b)]at l;obtain⟨m,e,a⟩:=W.reach j i x b l
   exact⟨m,e,fun k u=>g _ (a k u)⟩
def zP(M:Nat)(a:Option (Array (Option Nat) × Nat))(h:Int):Option (Array (Option Nat) × Nat):=do
 let(owner,k) <- a
 let j <- layClean.free M owner (VA M) (bits h % (M+1)) (bits h)
 pure (owner.setIfInBounds j (some k),k+1)
theorem FM(g:eP M):∀(rest done:List Int) (ow:Array (Option Nat)),dY M done ow->(done++rest).length<=M->∃ ow',rest.foldl (zP M) (some (ow,done.length))=some (ow',(done++rest).length)/\dY M (done++rest) ow'
 | [],done,ow,W,_=>⟨ow,by rw [QP];rfl,by rw [QP];exact W⟩
 | h::rest,done,ow,W,hl=>by
  rw [Qj,Qt]at hl;obtain⟨j,l,o⟩:=W.free (by lia);obtain⟨i,q,e⟩:=Eg g h l;obtain⟨n,f,d,c⟩:=FR (h:=h) W.size (VA M) 0 0 rfl (fun m k=>absurd k (Yx _)) ⟨i,Q2 _,by lia,by rw [e];exact o⟩;have p:=W.put d c;obtain⟨ow',b,a⟩:=FM g rest (done++[h]) _ p (by simp;lia)
  refine⟨ow',?_,by rw [<- List.append_cons]at a;exact a⟩
  rw [YL]
  have:zP M (some (ow,done.length)) h=some (ow.setIfInBounds (P M h n).j (some done.length),(done++[h]).length):=by
   show(layClean.free M ow (VA M) (L M h 0).1 (L M h 0).2).bind _=_
   rw [f,Qj];rfl
  rw [this,b,<- List.append_cons]
theorem NZ(M:Nat):dY M [] (Ut (M+1) none):=by
 have:∀(j:Nat) (i:Nat),(Ut (M+1) (none:Option Nat))[j]?=some (some i)->False:=fun j i h=>by
  rw [Array.getElem?_replicate]at h
  split at h <;> simp at h
 exact⟨by simp,fun j i h=>(this j i h).elim,fun i a=>absurd a (Yx _),fun j b i h=>(this j i h).elim,fun j i _ h=>(this j i h).elim⟩
theorem TN(g:eP M)(hs:Array Int)(a:hs.size<=M):∃ ow,layClean M hs=some ow/\dY M hs.toList ow:=by
 obtain⟨ow,c,b⟩:=FM g hs.toList [] _ (NZ M) (by simpa using a)
 refine⟨ow,?_,b⟩
 unfold layClean;rw [<- Array.foldl_toList]
 show(hs.toList.foldl (zP M) (some (Ut (M+1) none,0))).map (·.1)=_
 rw [show(0:Nat)=([]:List Int).length from rfl,c];rfl
def fY(M:Nat)(a:Array (Option Nat)):List (Nat × Nat):=(Za (M+1)).filterMap fun j=>(a.getD j none).map (j,·)
theorem nM(W:dY M hs ow)(q:Nat × Nat):q∈fY M ow ↔ q.1<=M/\ow[q.1]?=some (some q.2):=by
 unfold fY;rw [List.mem_filterMap];constructor
 ·rintro⟨j,c,e⟩
  have a:j<ow.size:=by rw [W.size];exact QU.mp c
  cases b:ow.getD j none with
  | none=>rw [b]at e;cases e
  | some i=>
   rw [b]at e;cases e
   refine⟨by have:=QU.mp c;show j<=M;lia,?_⟩
   show ow[j]?=some (some i)
   rw [QC a]
   simp [Vn,a]at b
   rw [b]
 ·rintro⟨f,d⟩
  have a:q.1<ow.size:=by rw [W.size];lia
  refine⟨q.1,QU.mpr (by lia),?_⟩
  rw [QC a]at d
  have:ow.getD q.1 none=some q.2:=by simp [Vn,a];exact QF d
  rw [this];rfl
theorem G3(M:Nat)(e:Array (Option Nat)):(fY M e).Pairwise fun p q=>p.1<q.1:=by
 unfold fY;rw [List.pairwise_filterMap];refine List.Pairwise.imp ?_ List.pairwise_lt_range;intro a b f x d y c
 cases h:e.getD a none with
 | none=>rw [h]at d;cases d
 | some i=>
  cases g:e.getD b none with
  | none=>rw [g]at c;cases c
  | some k=>
   rw [h]at d;rw [g]at c
   cases d;cases c
   exact f
theorem HK(z w:Nat)(le pl:Bool)(g:eP M)(B:hs.size * 5<M * 3):
  ∃ t' order,laid M z w le pl hs=some (t',order)/\Zk order.toList (Za hs.size)/\fV t' (order.toList.map fun i=>hs.toList.getD i 0)/\t'.led=le/\t'.plain=pl:=by
 obtain⟨d,F,W⟩:=TN g hs (by lia)
 have f:Zk ((fY M d).map (·.2)) (Za hs.size):=by
  rw [List.perm_ext_iff_of_nodup ?_ List.nodup_range]
  ·intro i;rw [QT,QU];constructor
   ·rintro⟨q,h,rfl⟩
    have:=W.lt _ _ ((nM W q).mp h).2
    simpa using this
   ·intro v;obtain⟨j,y⟩:=W.all i (by simpa using v);have u:j<d.size:=(Array.getElem?_eq_some_iff.mp y).1
    exact⟨(j,i),(nM W (j,i)).mpr ⟨by rw [W.size]at u;show j<=M;lia,y⟩,rfl⟩
  ·unfold UT;rw [Ym];refine List.Pairwise.imp_of_mem ?_ (G3 M d);intro p q t h l E;have a:=((nM W p).mp t).2;have b:=((nM W q).mp h).2;rw [E]at a
   have:=W.inj _ _ _ a b
   lia
 have o:(fY M d).length=hs.size:=by
  have:=f.length_eq
  rwa [Qo,Yn]at this
 refine⟨{ mask:=M,place:=((fY M d).map (·.1)).toArray,dummies:=#[],finger:=z,led:=le,moves:=w,plain:=pl },((fY M d).map (·.2)).toArray,?_,f,?_,rfl,rfl⟩
 ·unfold laid;rw [F];rfl
 ·refine⟨g,rfl,?_,?_,?_,?_,?_⟩
  ·show((fY M d).map (·.1)).length=(((fY M d).map (·.2)).map fun i=>hs.toList.getD i 0).length
   simp
  ·show Up ((fY M d).map (·.1))
   unfold Up;rw [Ym];exact G3 M d
  ·intro x s;have r:x∈(fY M d).map (·.1):=s;obtain⟨q,h,rfl⟩:=QT.mp r
   exact((nM W q).mp h).1
  ·show((fY M d).map (·.1)).length * 5<M * 3
   rw [Qo,o];exact B
  ·intro q h;have k:q∈((fY M d).map (·.1)).zip (((fY M d).map (·.2)).map fun i=>hs.toList.getD i 0):=h;rw [Yj,List.zip_map']at k;obtain⟨p,t,rfl⟩:=QT.mp k;obtain⟨a,b⟩:=(nM W p).mp t;have l:=W.lt _ _ b
   have s:hs.toList[p.2]?=some (hs.toList.getD p.2 0):=by
    rw [QY,Qi l];rfl
   obtain⟨n,e,c⟩:=W.reach _ _ _ b s
   refine⟨n,e,fun m A=>?_⟩
   obtain⟨i,v⟩:=c m A
   show(P M (hs.toList.getD p.2 0) m).j∈(fY M d).map (·.1)
   exact QT.mpr ⟨((P M (hs.toList.getD p.2 0) m).j,i),(nM W _).mpr ⟨zG _ _ _,v⟩,rfl⟩
theorem XC{t:SetTable}{hs:Array Int}{a M:Nat}(c:Zo a-1=M)(g:eP M)(b:hs.size * 5<M * 3):
  ∃ t' order,t.relaid hs a=some (t',order)/\Zk order.toList (Za hs.size)/\fV t' (order.toList.map fun i=>hs.toList.getD i 0)/\t'.led=t.led/\t'.plain=t.plain:=by
 unfold relaid;rw [c];exact HK _ _ _ _ g b
section
variable {prog:J5}{w:J6}{A:Around}{E:JZ->J0->Prop}{s:J0}
abbrev TK(prog:J5)(w:J6)(h:Heap)(k:List Int)(a:YP):Prop:=IsTupleKey (intKind prog w) h k a
abbrev TH(prog:J5)(w:J6)(k:List Int):Int:=tupleKeyHash (intKind prog w) k
theorem items_int(h:ItemsAre (intKind prog w) ks vs):∀ v∈vs,∃ i t,v=.int i t:=by
 induction h with
 | nil=>intro v a;simp at a
 | @cons k v' ks vs h1 _ ih=>
  intro v a;rcases Qq.mp a with rfl | a
  ·obtain⟨t,e⟩:=UA h1
   exact⟨k,t,e⟩
  ·exact ih v a
theorem Hm(n:Nat)(l:TK prog w s.heap k a)(h:Q false s):J3 (J4 prog w) A (ofAClassStatement (n+2) (.ref a)) Q E s:=by
 have y:=l.typeIs;obtain⟨o,f,n,p,_,x,q⟩:=l;have m:=items_int q;unfold ofAClassStatement;refine Qa (Y1 y ?_)
 show J3 _ _ (do let b <- (if("tuple" == "tuple")=true then pure true else isSubtype (.type "tuple") (.type "tuple"));_) Q E s
 refine Qa ?_;rw [if_pos (by decide)];refine Qb ?_;simp only [Ys,Qm,if_false];refine Qa (JL p x ?_);dsimp only;refine Qa ?_;rw [<- Ux];refine YY _ (fun c r e=>r.1=none/\e=s/\∀ v∈c,∃ i t,v=Vk i t) _ ?_ ?_ _ _ ⟨rfl,rfl,m⟩
 ·rintro v c r e ⟨j,rfl,d⟩;obtain⟨i,t,rfl⟩:=d v Qg;refine Qa ?_;unfold ofAClassStatement;refine Qb ?_;simp only [Qm,if_false];exact Qb ⟨rfl,rfl,fun u g=>d u (Qf _ g)⟩
 ·rintro⟨B,z⟩ e ⟨j,rfl,_⟩
  simp only at j
  subst j;exact Qb h
theorem PZ(n:Nat)(j:TK prog w s.heap k a)(h:Q true s):J3 (J4 prog w) A (hashByValue (n+2) (.ref a)) Q E s:=by
 have x:=j.typeIs;obtain⟨o,d,n,m,_,q,p⟩:=j;have l:=items_int p;unfold hashByValue;refine Qa (JC x F.slot_tuple_hash.lookup ?_);dsimp only;refine Qa (JL m q ?_);refine Qa ?_
 show J3 _ _ (forIn d _ _) _ _ s
 rw [<- Ux];refine YY _ (fun b r e=>r.1=none/\e=s/\∀ v∈b,∃ i t,v=Vk i t) _ ?_ ?_ _ _ ⟨rfl,rfl,l⟩
 ·rintro v b r e ⟨g,rfl,c⟩;obtain⟨i,t,rfl⟩:=c v Qg;refine Qa ?_;unfold hashByValue;refine Qb ?_;simp only [Ys,Qm,if_false];exact Qb ⟨rfl,rfl,fun u f=>c u (Qf _ f)⟩
 ·rintro⟨z,y⟩ e ⟨g,rfl,_⟩
  simp only at g
  subst g;exact Qb h
theorem GL{k:List Int}{a:YP}{d:List JZ}{Q:Bool->J0->Prop}(m:TK prog w s.heap k a)(hs:∀ y∈d,∃ k' b,y=.ref b/\TK prog w s.heap k' b)(h:Q false s):
  J3 (J4 prog w) A (searchCouldBeSeen (.ref a) d) Q E s:=by
 unfold searchCouldBeSeen;refine Qa ?_;refine YY _ (fun e r i=>r.1=none/\i=s/\∀ y∈e,∃ k' b,y=.ref b/\TK prog w s.heap k' b) _ ?_ ?_ _ _ ⟨rfl,rfl,hs⟩
 ·rintro v e r i ⟨l,rfl,g⟩;have f:∀ y∈e,∃ k' b,y=.ref b/\TK prog w i.heap k' b:=fun u j=>g u (Qf _ j);obtain⟨k',b,rfl,n⟩:=g v Qg;dsimp only;by_cases c:(a == b)=true
  ·rw [c];simp only [Bool.true_or,if_true];exact Qb ⟨rfl,rfl,f⟩
  ·rw [if_neg (by simp [carriedByValue,c])];refine Qa (wpAny_eqIsQuiet_tuple m ?_);simp only [Ys,Qm,if_false];refine Qa (wpAny_eqIsQuiet_tuple n ?_);simp only [Ys,Qm,if_false];refine Qa (Hm 6 m ?_);simp only [Qm,if_false];refine Qa (Hm 6 n ?_);simp only [Qm,if_false];exact Qb ⟨rfl,rfl,f⟩
 ·rintro⟨p,o⟩ i ⟨l,rfl,_⟩
  simp only at l
  subst l;exact Qb h
inductive bQ(prog:J5)(w:J6)(h:Heap):List (Int × JZ)->List (List Int)->Prop
 | nil:bQ prog w h [] []
 | cons {k:List Int}{b:YP}{es:List (Int × JZ)}{ks:List (List Int)}:TK prog w h k b->bQ prog w h es ks->bQ prog w h ((TH prog w k,.ref b)::es) (k::ks)
theorem bQ.at(X:bQ prog w h es ks):∀{i:Nat}{e:Int × JZ},es[i]?=some e->∃ k b,ks[i]?=some k/\e=(TH prog w k,.ref b)/\TK prog w h k b:=by
 induction X with
 | nil=>intro i e h;simp at h
 | @cons k b es ks h1 _ ih=>
  intro i e h
  cases i with
  | zero=>cases h;exact⟨k,b,rfl,rfl,h1⟩
  | succ i=>exact ih (i:=i) (by simpa using h)
theorem bQ.length(X:bQ prog w h es ks):es.length=ks.length:=by
 induction X with
 | nil=>rfl
 | cons _ _ a=>simp [a]
theorem bQ.append(X:bQ prog w h es ks)(Y:bQ prog w h es' ks'):bQ prog w h (es++es') (ks++ks'):=by
 induction X with
 | nil=>exact Y
 | cons b _ a=>exact .cons b a
theorem bQ.take(X:bQ prog w h es ks):∀ n,bQ prog w h (es.take n) (ks.take n):=by
 induction X with
 | nil=>intro n;simpa using bQ.nil
 | cons b _ a=>
  intro n
  cases n with
  | zero=>exact .nil
  | succ n=>exact .cons b (a n)
theorem bQ.drop(X:bQ prog w h es ks):∀ n,bQ prog w h (es.drop n) (ks.drop n):=by
 induction X with
 | nil=>intro n;simpa using bQ.nil
 | @cons k b es ks h1 hr ih=>
  intro n
  cases n with
  | zero=>exact .cons h1 hr
  | succ n=>exact ih n
theorem bQ.mono(X:bQ prog w h es ks)(m:∀ k b,TK prog w h k b->TK prog w h' k b):bQ prog w h' es ks:=by
 induction X with
 | nil=>exact .nil
 | cons c _ a=>exact .cons (m _ _ c) a
theorem bQ.pick(X:bQ prog w h es ks):∀(l:List Nat),(∀ i∈l,i<es.length)->bQ prog w h (l.filterMap (es[·]?)) (l.filterMap (ks[·]?)):=by
 intro l
 induction l with
 | nil=>intro _;exact .nil
 | cons i l d=>
  intro a;have c:=a i Qg;obtain⟨k,b,m,g,f⟩:=X.at (Qi c);rw [Um (b:=(TH prog w k,Zb b)) (by rw [Qi c,g]),Um (b:=k) m];exact .cons f (d fun j e=>a j (Qf _ e))
theorem fV.fits(T:fV t hs)(e:hs.length=n):t.fits n=true:=by
 have a:=T.len;have b:=T.room;rw [Qh]at a b;unfold Uo Uq;rw [T.dum,a,e];rw [a]at b;simp only [QW,beq_iff_eq,decide_eq_true_eq]
 refine⟨?_,?_⟩
 ·trivial
 ·show n+0<=t.mask
  lia
theorem fV.odd(T:fV t hs):t.gaveWay=false:=by
 unfold SetTable.gaveWay
 rcases T.good with h | h | h | h | h | h | h <;> rw [h] <;> rfl
theorem Iz
  (hu:A.units<Zf) (S:s.heap.get? a=some o) (hd:o.data=.set es ep t) (T:fV t (es.toList.map (·.1))) (X:bQ prog w s.heap es.toList ks) (Y:TK prog w s.heap k x)
  (h1:(P t.mask (TH prog w k) n).j∉t.place.toList) (h2:∀ m,m<n->(P t.mask (TH prog w k) m).j∈t.place.toList)
  (q1:k∈ks->Q (.there none) s) (q2:k∉ks->Q (.free (P t.mask (TH prog w k) n).j false) s):
  ∀ fuel c,c<=n->n<10 * VA t.mask->n-c<fuel->(∀ m,m<c->∀ i,t.slot (P t.mask (TH prog w k) m).j=.live i->ks[i]?≠some k)->∀ stand:Option Probe,stand.getD (t.probeStart (TH prog w k))=P t.mask (TH prog w k) c->
  J3 (J4 prog w) A (setSearchFrom a (.ref x) (TH prog w k) true fuel stand) Q E s
 | 0,c,_,_,hf,_,_,_=>absurd hf (Yx _)
 | fuel+1,c,hc,hN,hf,inv,stand,hst=>by
  have r:t.fits es.size=true:=T.fits (by simp);unfold setSearchFrom;refine Qa (QV S hd r ?_);dsimp only;rw [hst,if_neg (by rw [T.odd];exact QB)];refine Qa (Qb ?_);generalize M:t.probe _ (TH prog w k) (P t.mask (TH prog w k) c)=met;obtain⟨f,a3,M⟩:∃ f:Nat->Int,(∀ i,f i=(es[i]?.map (·.1)).getD 0)/\t.probe f (TH prog w k) (P t.mask (TH prog w k) c)=met:=⟨_,fun _=>rfl,M⟩
  have key:∀ m i,t.slot (P t.mask (TH prog w k) m).j=.live i->f i≠TH prog w k->ks[i]?≠some k:=fun m i F U W=>by
   have R:=HW T.dum T.up F
   have q:i<es.toList.length:=by
    have:=(Qc.mp R).1
    rw [T.len]at this
    simpa using this
   obtain⟨B,b,u,K,e3⟩:=X.at (Qi q);rw [W]at u;cases u;apply U;rw [a3,<- QI,Qi q,K];rfl
  have a2:=Fx (hashAt:=f) T h1 h2 (10 * VA t.mask) c hc (by lia);rcases a2 with⟨g1,g2⟩ | ⟨m,i,g1,g2,g3,g4,g5,g6⟩
  ·have:met=some (.empty (P t.mask (TH prog w k) n).j none):=M.symm.trans g1
   subst this;dsimp only;refine Qb (q2 fun I=>?_);obtain⟨i,F⟩:=Q3 I
   have q:i<es.toList.length:=by rw [X.length];exact(Qc.mp F).1
   obtain⟨B,b,u,K,e3⟩:=X.at (Qi q);rw [F]at u;cases u
   have H:i<t.place.toList.length:=by rw [T.len];simpa using q
   obtain⟨m,hm,hj⟩:=met T h1 (Qi H) (h:=TH prog w k) (by rw [QN,Qi q,K];rfl);obtain⟨p,z,d⟩ | ⟨_,d⟩:=xN T.dum T.up (P t.mask (TH prog w k) m).j
   ·have Z:p=i:=by
     rw [hj]at d;have a1:=Qi H;by_cases O:p<i
     ·have:=T.up.at d a1 O;lia
     ·by_cases N:i<p
      ·have:=T.up.at a1 d N;lia
      ·lia
    subst Z;by_cases cm:m<c
    ·exact inv m cm p z F
    ·exact key m p z (g2 m (by lia) hm p z) F
   ·rw [hj]at d;exact d (Yy _)
  ·have:met=some (.candidate (P t.mask (TH prog w k) m).j i (P t.mask (TH prog w k) (m+1))):=M.symm.trans g6
   subst this;have R:=HW T.dum T.up g3
   have q:i<es.toList.length:=by
    have:=(Qc.mp R).1
    rw [T.len]at this
    simpa using this
   obtain⟨B,b,u,K,e3⟩:=X.at (Qi q)
   have J:es[i]?=some (TH prog w B,.ref b):=by rw [<- QI,Qi q,K]
   dsimp only
   have v:∀ y∈(es.filter (fun x=>x.1 == TH prog w k)).toList.map (fun x=>x.2),∃ B b,y=.ref b/\TK prog w s.heap B b:=fun y hy=>by
    obtain⟨e,he,rfl⟩:=QT.mp hy
    have a4:e∈es.toList:=by
     rw [Array.toList_filter]at he
     exact(Q9.mp he).1
    obtain⟨i2,a0⟩:=Q3 a4;obtain⟨k2,b2,_,z2,z3⟩:=X.at a0
    exact⟨k2,b2,by rw [z2],z3⟩
   split
   all_goals try (refine Qa (GL Y v ?_);rw [if_neg QB])
   all_goals
    rw [J];dsimp only;refine Qa (Yb (wpAny_eqBool_tuple hu e3 Y ?_));refine Qa (QV S hd r ?_);dsimp only;by_cases g:B=k
    ·rw [if_pos (by simp [g])];exact Qb (q1 (g ▸ QO u))
    ·rw [if_neg (by simp [g]),show t.sameMemory t.moves t.mask=some true by unfold sameMemory;simp];dsimp only;rw [if_pos rfl,g3];dsimp only;rw [J];dsimp only;refine Qa (wpAny_isSame_ref_self ?_);simp only [if_true];refine Qa (Qb ?_);dsimp only;rw [if_neg (by simp [g])];refine Iz hu S hd T X Y h1 h2 q1 q2 fuel (m+1) (by lia) hN (by lia) (fun G a5 p l=>?_) _ rfl;by_cases O:G<c
     ·exact inv G O p l
     ·by_cases N:G=m
      ·subst N;rw [g3]at l;cases l;rw [u];exact fun e=>g (QF e)
      ·exact key G p l (g5 G (by lia) (by lia) p l)
theorem TK.keep(i:h.get? a=some o)(l:o.data=.set es ep t)(hs:Zp a h h')(x:TK prog w h k b):TK prog w h' k b:=by
 obtain⟨g,c,n,e,m,d,j⟩:=x
 have f:b≠a:=by
  rintro rfl
  obtain rfl:g=o:=QF (e.symm.trans i)
  rw [l]at d;exact nomatch d
 exact⟨g,c,n,(hs.2 b f).trans e,m,d,j⟩
def jC(w:J6):Bool := !w.params.followText "set-order"
def cK(prog:J5)(w:J6)(V:JZ->Prop)(h:Heap)(a:YP)(b:List (List Int)):Prop:=
 ∃ o es ep t,h.get? a=some o/\o.ExactSet/\o.data=.set es ep t/\fV t (es.toList.map (·.1))/\(t.plain=true/\t.led=jC w)/\bQ prog w h es.toList b/\b.Nodup/\∀ e∈es.toList,V e.2
theorem AG(es:List (Int × JZ)):∀ l:List Nat,(∀ i∈l,i<es.length)->(l.filterMap (es[·]?)).map (·.1)=l.map fun i=>(es.map (·.1)).getD i 0
 | [],_=>rfl
 | i::l,h=>by
  have a:=h i Qg;rw [Um (b:=es[i]) (Qi a),Qs,Qs,AG es l fun j c=>h j (Qf _ c)];congr 1;rw [QY,QN,Qi a];rfl
theorem RM(T:fV t hs)(b:(t.place.toList.length+1) * 5 >= t.mask * 3)(c:t.place.toList.length+1<=76):
  ∃ M,Zo (grown (t.place.toList.length+1))-1=M/\eP M/\(t.place.toList.length+1) * 5<M * 3/\¬ Zo (grown (t.place.toList.length+1)) > sizeLine:=by
 have a:=T.room;rcases T.good with g | g | g | g | g | g | g
 ·rw [g]at a b
  have e:t.place.toList.length+1=5:=by lia
  rw [e]
  exact⟨31,by decide,.inr (.inl rfl),by decide,by rw [Yo];decide⟩
 ·rw [g]at a b
  have e:t.place.toList.length+1=19:=by lia
  rw [e]
  exact⟨127,by decide,.inr (.inr (.inl rfl)),by decide,by rw [Yo];decide⟩
 ·rw [g]at a b;lia
 ·rw [g]at a b
  have e:t.place.toList.length+1=9:=by lia
  rw [e]
  exact⟨63,by decide,.inr (.inr (.inr (.inr (.inl rfl)))),by decide,by rw [Yo];decide⟩
 ·rw [g]at a b
  have e:t.place.toList.length+1=38:=by lia
  rw [e]
  exact⟨255,by decide,.inr (.inr (.inr (.inr (.inr (.inl rfl))))),by decide,by rw [Yo];decide⟩
 ·rw [g]at a b;lia
 ·rw [g]at a b;lia
theorem Ig
  (u:s.heap.get? a=some o) (x:o.ExactSet) (q:o.data=.set es ep t) (n:t.fits es.size=true) (y:t.plain=true/\t.led=jC w) (X:bQ prog w s.heap es.toList ks) (v:ks.Nodup) (N:∀ e∈es.toList,V e.2)
  (O:Zo wanted-1=M) (g:eP M) (H:es.size * 5<M * 3) (hz:¬ Zo wanted > sizeLine) (hsz:es.size<=sizeLine)
  (h:∀ h' ks',Zp a s.heap h'->cK prog w V h' a ks'->Zk ks' ks->Q () { s with heap:=h' }):
  J3 (J4 prog w) A (setRelay a wanted) Q E s:=by
 obtain⟨j,c,G,r,F,B,z⟩:=XC (t:=t) (hs:=es.map (·.1)) O g (by simpa using H)
 have m:∀ i∈c.toList,i<es.toList.length:=fun i I=>by
  have:=QU.mp (r.mem_iff.mp I)
  simpa using this
 have p:(c.filterMap (es[·]?)).toList=c.toList.filterMap (es.toList[·]?):=by
  rw [JB];congr 1
  funext i
  rw [QI]
 have f:Zk (c.filterMap (es[·]?)).toList es.toList:=by
  rw [JB]
  refine(r.filterMap _).trans ?_
  rw [Jh,filterMap_getElem?_range]
 have d:(c.filterMap (es[·]?)).size=es.size:=by rw [<- Qh,f.length_eq,Qh]
 unfold setRelay;refine Qa (QV u q n ?_);dsimp only;rw [if_neg hz];rw [G];refine Qa ?_
 show J3 _ _ (if((c.filterMap (es[·]?)).size != es.size)=true then _ else pure (c.filterMap (es[·]?),j)) _ _ s
 rw [if_neg (by simp [d])];refine Qb ?_;dsimp only;refine Jo u q ?_ (by rw [d];exact hsz)
 have J:(s.heap.update a (ZF (c.filterMap (es[·]?)) j)).get? a=some { o with data:=.set (c.filterMap (es[·]?)) (ep+1) j }:=by
  have:=Ye (ZF (c.filterMap (es[·]?)) j) u (by rw [Jr _ j q];rfl)
  rw [Jr _ j q]at this;exact this
 have l:=Q8 s.heap a (ZF (c.filterMap (es[·]?)) j);refine h _ (c.toList.filterMap (ks[·]?)) l ⟨_,_,_,j,J,x,rfl,?_,⟨by rw [z];exact y.1,by rw [B];exact y.2⟩,?_,?_,fun e K=>N e (f.mem_iff.mp K)⟩ ?_
 ·rw [p,AG _ _ m]
  simpa using F
 ·rw [p]
  exact(X.pick _ m).mono fun k b=>TK.keep u q l
 ·have:Zk (c.toList.filterMap (ks[·]?)) ks:=by
   refine(r.filterMap _).trans ?_
   rw [Jh,<- Qh,X.length,Y7]
  exact this.nodup_iff.mpr v
 ·refine(r.filterMap _).trans ?_
  rw [Jh,<- Qh,X.length,Y7]
theorem Er(hu:A.units<Zf)(S:cK prog w V s.heap a ks)(U:TK prog w s.heap k x)(hx:V (.ref x))(a0:ks.length+1<=76)
  (q1:k∈ks->Q false s) (W:k∉ks->∀ h' ks',Zp a s.heap h'->cK prog w V h' a ks'->Zk ks' (k::ks)->Q true { s with heap:=h' }):
  J3 (J4 prog w) A (setAddHashed a (.ref x) (TH prog w k)) Q E s:=by
 obtain⟨o,q,ep,t,H,J,G,T,O,X,R,hV⟩:=S;have v:t.fits q.size=true:=T.fits (by simp)
 have i:t.place.toList.length=ks.length:=by rw [T.len,Qo,X.length]
 have r:q.size=ks.length:=by rw [<- X.length,Qh]
 have N:=T.room;obtain⟨n,n1,Z,Y⟩:=FQ (l:=t.place.toList) T.good (by lia) (TH prog w k)
 have hM:t.mask<=511:=by rcases T.good with g | g | g | g | g | g | g <;> lia
 unfold setAddHashed setAddHashedIn;refine Yb (Qa (QV H G v ?_));dsimp only;rw [if_neg (by simp [byScan,Value.scannable])];refine Qa ?_;unfold setSearch;refine Iz hu H G T X U Z Y ?_ ?_ 100000 0 (Q2 _) n1 (by unfold VA at n1;lia) (fun m hm=>absurd hm (Yx _)) none rfl
 ·intro d;exact Qb (q1 d)
 ·intro d;dsimp only;refine Qa (QV H G v ?_);dsimp only;rw [if_pos (show(t.put (P t.mask (TH prog w k) n).j).1.plain=true from O.1)];refine Qa (PZ 6 U ?_);rw [if_pos rfl]
  have p:(Zy q (t.put (P t.mask (TH prog w k) n).j).2 (TH prog w k,Zb x)).size=q.size+1:=by
   rw [<- Qh,(Y9 _ _ _).length_eq];simp
  refine Qa (Jo H G ?_ (by rw [p,Yo];lia))
  have hg:(s.heap.update a (ZF (Zy q (t.put (P t.mask (TH prog w k) n).j).2 (TH prog w k,Zb x)) (t.put (P t.mask (TH prog w k) n).j).1)).get? a=some { o with data:=.set (Zy q (t.put (P t.mask (TH prog w k) n).j).2 (TH prog w k,Zb x)) (ep+1) (t.put (P t.mask (TH prog w k) n).j).1 }:=by
   have:=Ye (ZF (Zy q (t.put (P t.mask (TH prog w k) n).j).2 (TH prog w k,Zb x)) (t.put (P t.mask (TH prog w k) n).j).1) H (by rw [Jr _ _ G];rfl)
   rw [Jr _ _ G]at this;exact this
  have y:=Q8 s.heap a (ZF (Zy q (t.put (P t.mask (TH prog w k) n).j).2 (TH prog w k,Zb x)) (t.put (P t.mask (TH prog w k) n).j).1)
  have X2:bQ prog w (s.heap.update a (ZF (Zy q (t.put (P t.mask (TH prog w k) n).j).2 (TH prog w k,Zb x)) (t.put (P t.mask (TH prog w k) n).j).1)) (Zy q (t.put (P t.mask (TH prog w k) n).j).2 (TH prog w k,Zb x)).toList (ks.take (t.put (P t.mask (TH prog w k) n).j).2++k::ks.drop (t.put (P t.mask (TH prog w k) n).j).2):=by
   rw [kS]
   exact((X.take _).append (.cons U (X.drop _))).mono fun k b=>TK.keep H G y
  have z:Zk (ks.take (t.put (P t.mask (TH prog w k) n).j).2++k::ks.drop (t.put (P t.mask (TH prog w k) n).j).2) (k::ks):=by
   refine List.perm_middle.trans ?_;rw [QZ]
  have u:(ks.take (t.put (P t.mask (TH prog w k) n).j).2++k::ks.drop (t.put (P t.mask (TH prog w k) n).j).2).Nodup:=z.nodup_iff.mpr (Yp.mpr ⟨d,R⟩)
  have K:∀ e∈(Zy q (t.put (P t.mask (TH prog w k) n).j).2 (TH prog w k,Zb x)).toList,V e.2:=fun e he=>by
   have:=(Y9 q (t.put (P t.mask (TH prog w k) n).j).2 (TH prog w k,Zb x)).mem_iff.mp he
   rw [JG,QA,Qp]at this;rcases this with h | rfl
   ·exact hV e h
   ·exact hx
  have f:(t.put (P t.mask (TH prog w k) n).j).1.fill=t.place.toList.length+1:=by
   show(Zy t.place (Zu t.place (P t.mask (TH prog w k) n).j) (P t.mask (TH prog w k) n).j).size+(if has t.dummies _=true then _ else t.dummies).size=_
   rw [T.dum,<- Qh,(Y9 _ _ _).length_eq]
   simp [has]
  have B:(t.put (P t.mask (TH prog w k) n).j).1.fits (Zy q (t.put (P t.mask (TH prog w k) n).j).2 (TH prog w k,Zb x)).size=true:=by
   unfold Uo;rw [f,p]
   have:(t.put (P t.mask (TH prog w k) n).j).1.place.size=q.size+1:=by
    show(Zy t.place (Zu t.place (P t.mask (TH prog w k) n).j) (P t.mask (TH prog w k) n).j).size=_
    rw [<- Qh,(Y9 _ _ _).length_eq];simp;rw [<- Qh,i,r]
   rw [this];simp only [beq_self_eq_true,JU,decide_eq_true_eq]
   show t.place.toList.length+1<=t.mask
   lia
  by_cases c:(t.put (P t.mask (TH prog w k) n).j).1.tooFull=true
  ·rw [c];simp only [UF,UY,if_true]
   have F:(t.place.toList.length+1) * 5 >= t.mask * 3:=by
    unfold SetTable.tooFull at c;rw [f]at c;exact of_decide_eq_true c
   obtain⟨M,m1,m2,m3,m4⟩:=RM T F (by lia);refine Qa (Ig (V:=V) hg J rfl B O X2 u K (M:=M) ?_ m2 ?_ ?_ ?_ ?_)
   ·rw [r,<- i];exact m1
   ·rw [p,r,<- i];exact m3
   ·rw [r,<- i];exact m4
   ·rw [p,Yo];lia
   ·intro h' ks' I S' pk;exact Qb (W d h' ks' (y.trans I) S' (pk.trans z))
  ·rw [Yl]at c;rw [c];simp only [Bool.and_false,Qm,if_false]
   have F:(t.place.toList.length+1) * 5<t.mask * 3:=by
    unfold SetTable.tooFull at c;rw [f]at c
    have:=of_decide_eq_false c
    have e:(t.put (P t.mask (TH prog w k) n).j).1.mask=t.mask:=rfl;rw [e]at this;lia
   have T2:=Xm T Z Y F t.plain;refine Qa (Qb (Qb (W d _ _ y ⟨_,_,_,_,hg,J,rfl,?_,O,X2,u,K⟩ z)));rw [kS,Q6,Qs,List.map_take,List.map_drop];exact T2
end
section
variable {prog:J5}{w:J6}{A:Around}{R:Result->J0->Prop}{I:YP}{fp wr:List YP}{G:Array Vv->Array Vv->Prop}{n:Nat}{Pv:Nat->JZ->Prop}{St:Nat->J0->Prop}{V:JZ->Prop}
abbrev nS(w:J6):Obj:={ cls:=.type "set",dict:=none,data:=.set #[] 0 (.fresh 0 0 (jC w)) }
theorem TK.at(x:TK prog w h k b)(e:∀ o,h.get? b=some o->h'.get? b=some o):TK prog w h' k b:=by
 obtain⟨o,a,n,c,r⟩:=x
 exact⟨o,a,n,e o c,r⟩
theorem cK.moved(S:cK prog w V h a ks)(e:∀ b o,h.get? b=some o->(b=a ∨ ∃ k,TK prog w h k b)->h'.get? b=some o):cK prog w V h' a ks:=by
 obtain⟨o,n,p,t,j,f,l,T,i,X,d,m⟩:=S
 exact⟨o,n,p,t,e a o j (.inl rfl),f,l,T,i,X.mono fun k b x=>x.at fun g c=>e b g c (.inr ⟨k,x⟩),d,m⟩
def k7(b:List (List Int))(a:Nat->List Int)(i:Nat):Prop:=∀ k,k∈b ↔ ∃ j,j<i/\a j=k
theorem Tu(h:k7 ks val i)(a:ks.Nodup):ks.length<=i:=by
 have:ks ⊆ (Za i).map val:=fun k b=>by
  obtain⟨j,c,e⟩:=(h k).mp b;exact QT.mpr ⟨j,QU.mpr c,e⟩
 have:=YC a this
 simpa using this
theorem cK.nodup(S:cK prog w V h a ks):ks.Nodup:=by
 obtain⟨o,i,j,t,e,c,f,T,d,X,b,g⟩:=S;exact b
theorem Lx(W:WalksS prog w A.in1 I fp wr G n Pv St)(S:YP)(a7:S∉fp)(hu:A.in1.units<Zf)(f:Nat->List Int)(g:Heap)
  (a:∀ b o,g.get? b=some o->b≠S/\b∉wr) (a0:∀ i v,i<n->Pv i v->V v/\∃ b,v=.ref b/\TK prog w g (f i) b) (Q:n<=75):
  ∀(k i:Nat) (s:J0) (ks:List (List Int)),n-i=k->i<=n->St i s->(∀ b o,g.get? b=some o->s.heap.get? b=some o)->
   cK prog w (fun v=>V v/\∃ k b,v=.ref b/\TK prog w g k b) s.heap S ks->k7 ks f i->
   (∀ s' ks',Moved (S::wr) G s s'->(∀ b o,g.get? b=some o->s'.heap.get? b=some o)->cK prog w (fun v=>V v/\∃ k b,v=.ref b/\TK prog w g k b) s'.heap S ks'->k7 ks' f n->R (.ok (.ret .none)) s')->
   Ud (J4 prog w) A (.builtin "set.update.loop" ⟨[.ref S,.ref I],[]⟩) R s:=by
 have b5:S∉wr:=fun h=>a7 (W.sub _ h);have E:∀ b∈wr,b∈S::wr:=fun b Q=>Qf _ Q
 have a3:∀(s s':J0) ks,Moved wr G s s'->(∀ b o,g.get? b=some o->s.heap.get? b=some o)->cK prog w (fun v=>V v/\∃ k b,v=.ref b/\TK prog w g k b) s.heap S ks->cK prog w (fun v=>V v/\∃ k b,v=.ref b/\TK prog w g k b) s'.heap S ks:=fun s s' ks z K Y=>by
  obtain⟨o,es,ep,t,ho,a4,hd,T,hp,X,a2,hV⟩:=Y
  refine⟨o,es,ep,t,z.heap S _ b5 ho,a4,hd,T,hp,?_,a2,hV⟩
  clear hd a4 ho T hp
  have:∀ e∈es.toList,∃ k b,e.2=.ref b/\TK prog w g k b:=fun e he=>(hV e he).2
  revert this
  clear hV a2;generalize es.toList=l at X;intro this
  induction X with
  | nil=>exact .nil
  | @cons k b es ks h1 hr ih=>
   refine .cons ?_ (ih fun e he=>this e (Qf _ he));obtain⟨k',b',e1,e2⟩:=this _ Qg
   have b8:b=b':=by injection e1
   subst b8;obtain⟨o',a9,n',O,r⟩:=e2;refine h1.at fun o2 b2=>?_
   have:=K b o' O
   rw [b2]at this;cases this;exact z.heap b _ (a b _ O).2 (K b _ O)
 intro k
 induction k with
 | zero=>
  intro i s ks hk hi N K Y Z hR
  have b3:i=n:=by lia
  subst b3;refine YM F.entry_set_update_loop ?_;rw [YB Js _]
  show J3 _ A.in1 (Uh (.ref I) >>= _) _ _ s
  refine Qa (W.done s _ _ N fun s' z=>?_)
  show J3 _ A.in1 (ret ZH) _ _ s'
  exact Qb (hR s' ks (z.mono E) (fun b o e=>z.heap b o (a b o e).2 (K b o e)) (a3 s s' ks z K Y) Z)
 | succ k ih=>
  intro i s ks hk hi N K Y Z hR
  have B:i<n:=by lia
  refine YM F.entry_set_update_loop ?_;rw [YB Js _]
  show J3 _ A.in1 (Uh (.ref I) >>= _) _ _ s
  refine Qa (W.item i s _ _ B N fun v s' hP H z=>?_);obtain⟨b4,b,rfl,a6⟩:=a0 i v B hP;have U:∀ b o,g.get? b=some o->s'.heap.get? b=some o:=fun b o e=>z.heap b o (a b o e).2 (K b o e);have a5:TK prog w s'.heap (f i) b:=a6.at fun o e=>U b o e;have a8:=a3 s s' ks z K Y
  show J3 _ A.in1 (UB [Zb b] (setAdd S (.ref b)) >>= _) _ _ s'
  refine Qa (Yb ?_);unfold setAdd;refine Yb ?_;refine Qa (wpAny_pyHash_tuple hu a5 ?_);have b9:=Tu Z Y.nodup
  have d:∀(h':Heap) (tk:Nat),s'.toks<=tk->Zp S s'.heap h'->Moved (S::wr) G s { s' with heap:=h',toks:=tk }:=fun h' tk b0 p=>
   (z.mono E).then_heap b0 fun b o Q e=>by rw [p.2 b (fun h:b=S=>Q (by rw [h];exact Qg))];exact e
  refine Er (V:=fun v=>V v/\∃ k b,v=.ref b/\TK prog w g k b) (s:={ s' with toks:=s'.toks+((f i).length+1) }) hu a8 a5 ⟨b4,f i,b,rfl,a6⟩ (by lia) ?_ ?_
  ·intro J;refine Qb ⟨Ja Js _,ih (i+1) _ ks (by lia) B (W.frame _ s' s'.heap _ H (Yg _ _) fun b Q o e=>e) U a8 ?_ fun M m q y u x=>?_⟩
   ·intro k';rw [Z k'];constructor
    ·rintro⟨j,hj,e⟩;exact⟨j,by lia,e⟩
    ·rintro⟨j,hj,e⟩
     by_cases c:j=i
     ·subst c;subst e;exact(Z _).mp J
     ·exact⟨j,by lia,e⟩
   ·exact hR M m (Moved.trans W.gtrans (d s'.heap _ (Yg _ _) (JI S _)) q) y u x
  ·intro J h' ks' p b6 hp
   have b7:∀ b o,g.get? b=some o->h'.get? b=some o:=fun b o e=>by
    rw [p.2 b (a b o e).1];exact U b o e
   refine Qb ⟨Ja Js _,ih (i+1) _ ks' (by lia) B (W.frame _ s' _ _ H (Yg _ _) fun b Q o e=>?_) b7 b6 ?_ fun M m q y u x=>?_⟩
   ·rw [p.2 b (fun h:b=S=>a7 (by rw [<- h];exact Q))];exact e
   ·intro k';rw [hp.mem_iff,Qq,Z k'];constructor
    ·rintro(rfl | ⟨j,hj,e⟩)
     ·exact⟨i,by lia,rfl⟩
     ·exact⟨j,by lia,e⟩
    ·rintro⟨j,hj,e⟩
     by_cases c:j=i
     ·subst c;exact .inl e.symm
     ·exact .inr ⟨j,by lia,e⟩
   ·exact hR M m (Moved.trans W.gtrans (d h' _ (Yg _ _) p) q) y u x
end
section
variable {prog:J5}{w:J6}{A:Around}{E:JZ->J0->Prop}{s:J0}
theorem Hg(a:JZ)
  (h:Q₁ (.ref s.heap.objs.size) { s with heap:=s.heap.push (nS w) }):
  Ud (J4 prog w) A (.call (.builtin "set.__new__") ⟨[.type "set",a],[]⟩) (wants Q₁ E) s:=by
 refine codeAny_of_tree ?_
 show J3 _ A.in1 (checkBuiltinCall "set.__new__" ⟨[.type "set",a],[]⟩ >>= fun _=>again (.builtin "set.__new__" ⟨[.type "set",a],[]⟩)) _ _ s
 refine Qa (U2 (F.newCall_set_1 a) (Qb ⟨Ja F.plain_set_new _,YM F.entry_set_new ?_⟩));rw [YB F.plain_set_new _];unfold Builtin.«set.__new__» Builtin.Frozenset.newClass;have b:=sub_set_self;obtain⟨f,g,d,c,e⟩:=s;dsimp only
 wp_walk
 refine UU (Qb ?_);dsimp only;simp only [newObj];refine Qa (wpAny_alloc (Qb ?_));exact Qb h
theorem zSr:isSubtype (.type "tuple") (.type "set")=pure false:=by rw [UJ];kernel_rfl
theorem zSq:isSubtype (.type "tuple") (.type "frozenset")=pure false:=by rw [UJ];kernel_rfl
variable {V:JZ->Prop}
theorem P8{l:YP}{items:Array JZ}{kl:List (List Int)}{Q:JZ->J0->Prop}
  (hh:A.handled=none) (hu:A.units+8<Zf) (hl:s.heap.IsList l items) (hi:∀ i v,items[i]?=some v->V v/\∃ b,v=.ref b/\TK prog w s.heap (kl.getD i []) b) (hb:items.size<=75)
  (h:∀(h':Heap) (tk:Nat) ks,cK prog w V h' s.heap.objs.size ks->k7 ks (fun i=>kl.getD i []) items.size->
   (∀ b o,s.heap.get? b=some o->h'.get? b=some o)->Q (.ref s.heap.objs.size) { s with heap:=h',toks:=tk }):
  J3 (J4 prog w) A (call (.type "set") [.ref l]) Q E s:=by
 obtain⟨c,tl,a9⟩:=F.called_set.mro;have W:=F.called_set.made;have a6:=F.called_set.sub;refine wpAny_call (codeAny_of_tree ?_)
 show J3 _ _ (callAny (.type "set") _) _ _ _
 refine Qb ⟨Code.quiet_builtin _ (by decide +kernel),YM F.entry_type_call ?_⟩;rw [Around.under_plain (weight_type_call_type "set" [.ref l] []) rfl];have h1:=F.called_set.notType;have h2:=F.called_set.canCreate;have b3:=F.typeCall_set_1 (.ref l)
 repeat (any_goals (first | assumption | wp_step))
 refine Jw (Hg (.ref l) (E:=E) (Q₁:=fun z j=>z=.ref s.heap.objs.size/\j={ s with heap:=s.heap.push (nS w) }) ⟨rfl,rfl⟩) fun r j U=>?_
 cases r with
 | error e=>exact U
 | ok fl=>
  cases fl with
  | ret z=>
   obtain⟨rfl,rfl⟩:=U;have hS:(s.heap.push (nS w)).get? s.heap.objs.size=some (nS w):=Qz _ rfl;have hT:Shared.TypeIs { s with heap:=s.heap.push (nS w) } (.ref s.heap.objs.size) "set":=⟨_,hS,rfl⟩;have b2:=F.called_set.init.lookup;have b4:=F.called_set.init.bind (.ref s.heap.objs.size)
   repeat (any_goals (first | assumption | wp_step))
   refine Jw (codeAny_call_builtin (R:=wants (fun r g=>r=.none/\∃ h' tk ks,g={ s with heap:=h',toks:=tk } /\
     cK prog w V h' s.heap.objs.size ks/\k7 ks (fun i=>kl.getD i []) items.size /\
     (∀ b o,s.heap.get? b=some o->h'.get? b=some o)) E) F.called_set.init.plain F.entry_set_init (check_set_init_1 hT ?_)) fun y g a=>?_
   ·obtain⟨ol,G,N,nl,M⟩:=hl;obtain⟨a5,m,T,d⟩:=ol
    simp only at N M
    subst N;subst M;have B:(s.heap.push (nS w)).get? l=some { cls:=.type "list",dict:=m,data:=.seq items nl,slots:=d }:=Qe _ G;have a7:=F.sub_list_set;have a8:=F.sub_list_frozenset
    have b0:(Z3 "list" == Z3 "dict")=false:=by decide
    have J:(s.heap.push (nS w)).IsList l items:=⟨_,B,rfl,nl,rfl⟩;unfold Builtin.«set.__init__» noKeywords Builtin.Frozenset.updateFrom;generalize hPI:pyIter=PI
    wp_walk
    subst hPI;refine Jn J ?_;refine Qa (wpAny_runValue ?_);have I:l<s.heap.objs.size:=Qu G
    have Y:A.in1.in1.in1.handled=none:=by simp [hh]
    have H:l≠(s.heap.push (nS w)).objs.size:=by
     rw [YT];exact QG (JH I)
    have a0:s.heap.objs.size∉[(s.heap.push (nS w)).objs.size,l]:=by
     rw [YT];simp only [Qq,Qp,JP,or_false,not_or]
     exact⟨QG (Jb _),Jv I⟩
    have f:A.in1.in1.in1.units<Zf:=by
     show A.units+1+1+1<Zf
     lia
    refine Lx (V:=V) ((Walks.list Y _ l H items).toS) s.heap.objs.size
     a0 f (fun i=>kl.getD i []) s.heap (fun b o e=>?_) (fun i v _ hv=>hi i v hv) hb (items.size-0) 0 _ [] (by lia) (Q2 _)
     ⟨⟨_,Qz _ rfl,rfl,rfl⟩,(J.push _)⟩ (fun b o e=>?_) ?hS0 ?hK0 ?hR
    ·have n:b<s.heap.objs.size:=Qu e
     refine⟨QG n,fun u=>?_⟩
     rw [YT]at u
     have:b=s.heap.objs.size+1:=Qp.mp u
     rw [this]at n;exact absurd n (Nat.not_lt.mpr (Nat.le_succ _))
    ·exact Qe _ (Qe _ e)
    case hS0=>
     have K:((s.heap.push (nS w)).push { cls:=.type "list_iterator",data:=.fields #[.ref l,.int 0 0] }).get? s.heap.objs.size
       = some (nS w):=Qe _ hS
     exact⟨_,#[],0,_,K,⟨rfl,rfl,rfl⟩,rfl,⟨.inl rfl,rfl,rfl,ZU,fun x hx=>by simp [SetTable.fresh]at hx,(by show 0 * 5<7 * 3;decide),fun q hq=>by simp at hq⟩,⟨rfl,rfl⟩,.nil,Ji,fun e Z=>by simp at Z⟩
    case hK0=>
     intro k;simp
    case hR=>
     intro s' ks u h0 p hK;obtain⟨h',g',d',O,S⟩:=s';have eg:g'=s.gens:=u.gens;have ed:d'=s.drawn:=u.drawn;have eo:S=s.os:=u.os;subst eg;subst ed;subst eo
     show J3 _ _ _ _ _ _
     refine Qb ?_
     show J3 _ _ (ret ZH) _ _ _
     obtain⟨o',a3,a4,t',z1,z2,z3,z4,z5,z6,z7,z8⟩:=p;exact Qb ⟨rfl,h',O,ks,rfl,⟨o',a3,a4,t',z1,z2,z3,z4,z5,z6,z7,fun e Z=>(z8 e Z).1⟩,hK,fun b o e=>h0 b o e⟩
   ·cases y with
    | error e=>exact a
    | ok t=>
     cases t with
     | ret r=>
      obtain⟨rfl,h',tk,ks,rfl,p,a2,X⟩:=a
      repeat (any_goals (first | assumption | wp_step))
      exact h _ _ _ p a2 X
     | _=>exact a.elim
  | _=>exact U.elim
theorem P7{l:YP}{items:Array JZ}{kl:List (List Int)}{Q:JZ->J0->Prop}
  (hh:A.handled=none) (hu:A.units+8<Zf) (hl:s.heap.IsTuple l items) (hi:∀ i v,items[i]?=some v->V v/\∃ b,v=.ref b/\TK prog w s.heap (kl.getD i []) b) (hb:items.size<=75)
  (h:∀(h':Heap) (tk:Nat) ks,cK prog w V h' s.heap.objs.size ks->k7 ks (fun i=>kl.getD i []) items.size->
   (∀ b o,s.heap.get? b=some o->h'.get? b=some o)->Q (.ref s.heap.objs.size) { s with heap:=h',toks:=tk }):
  J3 (J4 prog w) A (call (.type "set") [.ref l]) Q E s:=by
 obtain⟨c,tl,a9⟩:=F.called_set.mro;have W:=F.called_set.made;have a6:=F.called_set.sub;refine wpAny_call (codeAny_of_tree ?_)
 show J3 _ _ (callAny (.type "set") _) _ _ _
 refine Qb ⟨Code.quiet_builtin _ (by decide +kernel),YM F.entry_type_call ?_⟩;rw [Around.under_plain (weight_type_call_type "set" [.ref l] []) rfl];have h1:=F.called_set.notType;have h2:=F.called_set.canCreate;have b3:=F.typeCall_set_1 (.ref l)
 repeat (any_goals (first | assumption | wp_step))
 refine Jw (Hg (.ref l) (E:=E) (Q₁:=fun z j=>z=.ref s.heap.objs.size/\j={ s with heap:=s.heap.push (nS w) }) ⟨rfl,rfl⟩) fun r j U=>?_
 cases r with
 | error e=>exact U
 | ok fl=>
  cases fl with
  | ret z=>
   obtain⟨rfl,rfl⟩:=U;have hS:(s.heap.push (nS w)).get? s.heap.objs.size=some (nS w):=Qz _ rfl;have hT:Shared.TypeIs { s with heap:=s.heap.push (nS w) } (.ref s.heap.objs.size) "set":=⟨_,hS,rfl⟩;have b2:=F.called_set.init.lookup;have b4:=F.called_set.init.bind (.ref s.heap.objs.size)
   repeat (any_goals (first | assumption | wp_step))
   refine Jw (codeAny_call_builtin (R:=wants (fun r g=>r=.none/\∃ h' tk ks,g={ s with heap:=h',toks:=tk } /\
     cK prog w V h' s.heap.objs.size ks/\k7 ks (fun i=>kl.getD i []) items.size /\
     (∀ b o,s.heap.get? b=some o->h'.get? b=some o)) E) F.called_set.init.plain F.entry_set_init (check_set_init_1 hT ?_)) fun y g a=>?_
   ·obtain⟨ol,G,N,nl,M⟩:=hl;obtain⟨a5,m,T,d⟩:=ol
    simp only at N M
    subst N;subst M;have B:(s.heap.push (nS w)).get? l=some { cls:=.type "tuple",dict:=m,data:=.seq items nl,slots:=d }:=Qe _ G;have a7:=zSr;have a8:=zSq
    have b0:(Z3 "tuple" == Z3 "dict")=false:=by decide
    have J:(s.heap.push (nS w)).IsTuple l items:=⟨_,B,rfl,nl,rfl⟩;unfold Builtin.«set.__init__» noKeywords Builtin.Frozenset.updateFrom;generalize hPI:pyIter=PI
    wp_walk
    subst hPI;refine wpAny_pyIter_tuple J ?_;refine Qa (wpAny_runValue ?_);have I:l<s.heap.objs.size:=Qu G
    have Y:A.in1.in1.in1.handled=none:=by simp [hh]
    have H:l≠(s.heap.push (nS w)).objs.size:=by
     rw [YT];exact QG (JH I)
    have a0:s.heap.objs.size∉[(s.heap.push (nS w)).objs.size,l]:=by
     rw [YT];simp only [Qq,Qp,JP,or_false,not_or]
     exact⟨QG (Jb _),Jv I⟩
    have f:A.in1.in1.in1.units<Zf:=by
     show A.units+1+1+1<Zf
     lia
    refine Lx (V:=V) ((Walks.tuple Y _ l H items).toS) s.heap.objs.size
     a0 f (fun i=>kl.getD i []) s.heap (fun b o e=>?_) (fun i v _ hv=>hi i v hv) hb (items.size-0) 0 _ [] (by lia) (Q2 _)
     ⟨⟨_,Qz _ rfl,rfl,rfl⟩,(J.push _)⟩ (fun b o e=>?_) ?hS0 ?hK0 ?hR
    ·have n:b<s.heap.objs.size:=Qu e
     refine⟨QG n,fun u=>?_⟩
     rw [YT]at u
     have:b=s.heap.objs.size+1:=Qp.mp u
     rw [this]at n;exact absurd n (Nat.not_lt.mpr (Nat.le_succ _))
    ·exact Qe _ (Qe _ e)
    case hS0=>
     have K:((s.heap.push (nS w)).push { cls:=.type "tuple_iterator",data:=.fields #[.ref l,.int 0 0] }).get? s.heap.objs.size
       = some (nS w):=Qe _ hS
     exact⟨_,#[],0,_,K,⟨rfl,rfl,rfl⟩,rfl,⟨.inl rfl,rfl,rfl,ZU,fun x hx=>by simp [SetTable.fresh]at hx,(by show 0 * 5<7 * 3;decide),fun q hq=>by simp at hq⟩,⟨rfl,rfl⟩,.nil,Ji,fun e Z=>by simp at Z⟩
    case hK0=>
     intro k;simp
    case hR=>
     intro s' ks u h0 p hK;obtain⟨h',g',d',O,S⟩:=s';have eg:g'=s.gens:=u.gens;have ed:d'=s.drawn:=u.drawn;have eo:S=s.os:=u.os;subst eg;subst ed;subst eo
     show J3 _ _ _ _ _ _
     refine Qb ?_
     show J3 _ _ (ret ZH) _ _ _
     obtain⟨o',a3,a4,t',z1,z2,z3,z4,z5,z6,z7,z8⟩:=p;exact Qb ⟨rfl,h',O,ks,rfl,⟨o',a3,a4,t',z1,z2,z3,z4,z5,z6,z7,fun e Z=>(z8 e Z).1⟩,hK,fun b o e=>h0 b o e⟩
   ·cases y with
    | error e=>exact a
    | ok t=>
     cases t with
     | ret r=>
      obtain⟨rfl,h',tk,ks,rfl,p,a2,X⟩:=a
      repeat (any_goals (first | assumption | wp_step))
      exact h _ _ _ p a2 X
     | _=>exact a.elim
  | _=>exact U.elim
end
end ST
namespace SL
open PySem.Spec L2 CL DL SD ST
section
variable {X:Cx}{pins:List (YP × Obj)}{σ:L2.St}{H:Hp}{s:J0}
theorem iM(I:Inv X pins σ H s)(h:bJ X.K H b (k.map V.int)):TK X.prog X.w s.heap k b:=by
 obtain⟨a,c,j,l⟩:=I.tuple h;obtain⟨o,f,e,n,d⟩:=j
 refine⟨o,a.toArray,n,f,e,d,?_⟩
 show ItemsAre (intKind X.prog X.w) k a
 clear h d f e l;generalize hxs:k.map V.int=g at c
 induction c generalizing k with
 | nil=>
  cases k with
  | nil=>exact .nil
  | cons _ _=>simp at hxs
 | @cons x u g us r t ih=>
  cases k with
  | nil=>simp at hxs
  | cons i k=>
   rw [Qs,List.cons.injEq]at hxs;obtain⟨p,m⟩:=hxs;subst p;obtain⟨q,rfl⟩:=r;exact .cons (intKind_is _ _ _ _) (ih m)
abbrev qS:=List (List Int)->Hp->Prop
abbrev uP:=L2.St->Hp->qS->Prop
def Di(X:Cx)(c:List (YP × Obj))(e:L2.St)(Q:qS)(u:JZ)(d:J0):Prop:=
 ∃ a o ks H',u=.ref a/\Inv X ((a,o)::c) e H' d/\cK X.prog X.w (fun v=>∃ b,∃ xs:List Int,v=.ref b/\bJ X.K H' b (xs.map V.int)) d.heap a ks/\(∀ p∈c,p.1≠a)/\Q ks H'
def uN(X:Cx)(e:Expr)(t:uP):Prop:=
 ∀(pins:List (YP × Obj)) (s:J0) (σ:L2.St) (H:Hp) (Q:qS),Inv X pins σ H s->t σ H Q->J3 (J4 X.prog X.w) X.A (Zr e X.env) (Di X pins σ Q) X.xe s
def O7(K:PySem.W.Frag)(t:TA):uP:=fun d H Q=>t d H fun e c=>∃(a:YP) (xs:List V) (kl:List (List Int)),e=[.ref a]/\(bY K c a xs ∨ bJ K c a xs)/\xs.length<=75/\xs.length=kl.length/\(∀(i:Nat) (x:V),xs[i]?=some x->∃ b,x=.ref b/\bJ K c b ((kl.getD i []).map V.int))/\∀ ks:List (List Int),ks.Nodup->(∀ k,k∈ks ↔ k∈kl)->Q ks c
theorem nX(hc:X.calm=true)(hu:X.A.units+64<Zf)(hg:Gl X x)(hm:X.mg x=none)(m:Zw x=some (.type "set"))(ha:PA X [e] t)(hn:x≠"__name__":=by decide)(S:(x == ("__debug__":Str))=false:=by decide)
  (he:J2 [e] X.env=(false,Zr e X.env)::J2 [] X.env:=by rfl) (hpl:(Zt pos (J2 [] X.env)).any (·.1)=false:=by rfl):
  uN X (.Call (.Name x p) [e] [] pos) (O7 X.K t):=by
 intro d s M H Q I h;refine Je (nL I hg hm m ?_ hn S);refine Y8 (aT (ha pos d s M H _ I h) fun us s1 ⟨vs,J,I1,r1,q1⟩=>?_) he hpl;obtain⟨a,l,kl,rfl,B,a0,F,R,q⟩:=q1;obtain⟨u,rfl,ru⟩:=iN r1;cases ru
 have go:∀ c:List JZ,Vals l c->(∀(f:List (List Int)) (O:JZ->J0->Prop),(∀ i v,c.toArray[i]?=some v->(∃ b,∃ l:List Int,v=.ref b/\bJ X.K J b (l.map V.int))/\∃ b,v=.ref b/\TK X.prog X.w s1.heap (f.getD i []) b)->
   c.toArray.size<=75->(∀(n:Heap) (N:Nat) r,cK X.prog X.w (fun v=>∃ b,∃ l:List Int,v=.ref b/\bJ X.K J b (l.map V.int)) n s1.heap.objs.size r->k7 r (fun i=>f.getD i []) c.toArray.size->
   (∀ b o,s1.heap.get? b=some o->n.get? b=some o)->O (.ref s1.heap.objs.size) { s1 with heap:=n,toks:=N })->J3 (J4 X.prog X.w) X.A (call (.type "set") [.ref a]) O X.xe s1)->
   J3 (J4 X.prog X.w) X.A (call (.type "set") [.ref a]) (Di X d M Q) X.xe s1:=by
  intro c g cs
  have z:c.toArray.size=kl.length:=by rw [QJ,<- g.length,F]
  refine cs kl _ (fun i v m=>?_) (by rw [z];lia) fun n N r S' K' keep=>?_
  ·have y:c[i]?=some v:=by simpa using m
   have hi:i<l.length:=by
    have:=(Qc.mp y).1
    rw [g.length];exact this
   obtain⟨u,e1,e2⟩:=Vals.get g (Qi hi);rw [y]at e1;cases e1;obtain⟨b,e3,e4⟩:=R i _ (Qi hi);rw [e3]at e2;cases e2
   exact⟨⟨b,_,rfl,e4⟩,b,rfl,iM I1 e4⟩
  ·obtain⟨o,es,ep,t,z1,z2,Z,z4,z5,z6,Y,z8⟩:=S';have I2:Inv X d M J { s1 with heap:=n,toks:=N }:=I1.kept keep
   have I3:Inv X ((s1.heap.objs.size,o)::d) M J { s1 with heap:=n,toks:=N }:=by
    refine I2.pins_of fun p E=>?_;rcases Qq.mp E with rfl | E
    ·refine⟨z1,I1.hok.fresh (Qk _),Jv I1.lt,I1.nofs (Qk _),fun v m=>?_⟩
     rw [Z]at m;exact nomatch m
    ·exact I2.pin p (Qw _ E)
   refine⟨_,o,r,J,rfl,I3,⟨o,es,ep,t,z1,z2,Z,z4,z5,z6,Y,z8⟩,fun p E=>QG (Qu (I1.pin p (Qw _ E)).1),q r Y fun k=>(K' k).trans ?_⟩
   rw [z];constructor
   ·rintro⟨j,G,rfl⟩
    show kl.getD j []∈kl
    rw [QY,Qi G];exact Yy G
   ·intro hk;obtain⟨j,G⟩:=Q3 hk
    refine⟨j,(Qc.mp G).1,?_⟩
    show kl.getD j []=k
    rw [QY,G];rfl
 rcases B with B | B
 ·obtain⟨c,g,pl,_⟩:=I1.list B;exact go c g fun f O W U T=>P8 (kl:=f) (I1.ok.hd hc) (by lia) pl.isList W U T
 ·obtain⟨c,g,it,hz⟩:=I1.tuple B;exact go c g fun f O W U T=>P7 (kl:=f) (I1.ok.hd hc) (by lia) it W U T
end
def pM:List D->Option (List (List Int))
 | []=>some []
 | .tuple ds::r=>(dR ds).bind fun b=>(pM r).bind fun a=>some (b::a)
 | _=>none
theorem Io{K:PySem.W.Frag}{F:YP->Prop}{H:Hp}:∀{ds:List D}{vs:List V}{kl:List (List Int)},Reps K F H ds vs->pM ds=some kl->ds.length=kl.length/\∀(i:Nat) (x:V),vs[i]?=some x->∃ b,x=.ref b/\bJ K H b ((kl.getD i []).map V.int):=by
 intro ds
 induction ds with
 | nil=>intro vs kl r h;cases r;cases h;exact⟨rfl,fun i x e=>by simp at e⟩
 | cons d ds k=>
  intro vs kl r h
  cases r with
  | cons f r=>
   cases d with
   | tuple n=>
    cases f with
    | tup a c=>
     obtain⟨p,m,h⟩:=aF h;obtain⟨o,l,h⟩:=aF h;cases h;obtain⟨j,g⟩:=k r l
     refine⟨by simp [j],fun i x e=>?_⟩
     cases i with
     | zero=>
      cases e
      refine⟨_,rfl,?_⟩
      rw [Hv c m]at a;exact a
     | succ i=>exact g i x (by simpa using e)
   | _=>cases h
def DZ(K:PySem.W.Frag)(g:aA->Option (List (List Int))):uP:=fun a H Q=>mP K a H g fun F b=>∀ F' H' (ks:List (List Int)),aI F F' H H'->ks.Nodup->(∀ k,k∈ks ↔ k∈b)->Q ks H'
def yW(X:Cx)(e:Expr)(g:aA->Option (List (List Int))):Prop:=uN X e (DZ X.K g)
def vI:List D->Option (List (List Int))
 | [.list xs]=>if xs.length<=75 then pM xs else none
 | [.tuple xs]=>if xs.length<=75 then pM xs else none
 | _=>none
def uV(gr:aA->Option (List D)):aA->Option (List (List Int)):=fun a=>(gr a).bind vI
def dd:List (List Int)->List (List Int)
 | []=>[]
 | k::r=>if k∈r then dd r else k::dd r
theorem yH:∀{l:List (List Int)}{k:List Int},k∈dd l ↔ k∈l
 | [],k=>by simp [dd]
 | x::r,k=>by
  unfold dd;split
  ·rename_i h;rw [yH,Qq];constructor
   ·exact .inr
   ·rintro(rfl | a)
    ·exact h
    ·exact a
  ·rw [Qq,Qq,yH]
theorem Ct:∀ l:List (List Int),(dd l).Nodup
 | []=>Ji
 | x::r=>by
  unfold dd;split
  ·exact Ct r
  ·rename_i h;exact Yp.mpr ⟨fun q=>h (yH.mp q),Ct r⟩
section
variable {X:Cx}{e:Expr}{p pos:Pos}{gr:aA->Option (List D)}{g:aA->Option (List (List Int))}
theorem ps_mono(h:uN X e t)(m:∀ σ H Q,t' σ H Q->t σ H Q):uN X e t':=fun a s σ H Q I q=>h a s σ H Q I (m σ H Q q)
theorem Gw(E:X.calm=true)(y:X.A.units+64<Zf)(B:Gl X x)(z:X.mg x=none)(w:Zw x=some (.type "set"))(G:DA X [e] gr)(b:x≠"__name__":=by decide)(l:(x == ("__debug__":Str))=false:=by decide)
  (he:J2 [e] X.env=(false,Zr e X.env)::J2 [] X.env:=by rfl) (hpl:(Zt pos (J2 [] X.env)).any (·.1)=false:=by rfl):
  yW X (.Call (.Name x p) [e] [] pos) (uV gr):=
 ps_mono (nX E y B z w G b l he hpl) fun K H Q v=>by
  obtain⟨F,d,u,n,S,q,k⟩:=v;obtain⟨J,I,q⟩:=aF q
  refine⟨F,d,u,J,S,I,fun s r M t o=>?_⟩
  unfold vI at q
  split at q
  ·rename_i h;by_cases c:h.length<=75
   ·rw [if_pos c]at q
    cases o with
    | cons R2 m=>
     cases m
     cases R2 with
     | @lst a us _ h1 r1=>
      obtain⟨g,f⟩:=Io r1 q
      exact⟨a,us,n,rfl,.inl h1.sq,by rw [<- r1.length];exact c,by rw [<- r1.length,g],f,fun i b j=>k s r i t b j⟩
   ·rw [if_neg c]at q;cases q
  ·rename_i h;by_cases c:h.length<=75
   ·rw [if_pos c]at q
    cases o with
    | cons R2 m=>
     cases m
     cases R2 with
     | @tup a us _ h1 r1=>
      obtain⟨g,f⟩:=Io r1 q
      exact⟨a,us,n,rfl,.inr h1,by rw [<- r1.length];exact c,by rw [<- r1.length,g],f,fun i b j=>k s r i t b j⟩
   ·rw [if_neg c]at q;cases q
  ·cases q
end
end SL
namespace PySem.F
theorem set_iter_entry:entryFor table "set.__iter__"=some Builtin.«frozenset.__iter__»:=
 entryFor_alias (id':="frozenset.__iter__") (by kernel_rfl) rfl (by decide +kernel) (by kernel_rfl)
theorem set_sub_entry:entryFor table "set.__sub__"=some Builtin.«frozenset.__sub__»:=
 entryFor_alias (id':="frozenset.__sub__") (by kernel_rfl) rfl (by decide +kernel) (by kernel_rfl)
theorem IE:Manifest.owners.lookup (String.ofList ['r','o','t','a','r','e','t','i','_','t','e','s'].reverse)=some Manifest.sig_set_iterator:=by kernel_rfl
theorem si_next:Slot "set_iterator" "__next__" "set_iterator.__next__":=
 .of (owner:="set_iterator") (n:="__next__") (by rw [typeLookup_type,UO];kernel_rfl) (by decide +kernel) (by decide +kernel) (by decide +kernel)
  (.inl (by decide +kernel)) (by rw [UJ];kernel_rfl)
theorem si_iter:Slot "set_iterator" "__iter__" "set_iterator.__iter__":=
 .of (owner:="set_iterator") (n:="__iter__") (by rw [typeLookup_type,UO];kernel_rfl) (by decide +kernel) (by decide +kernel) (by decide +kernel)
  (.inl (by decide +kernel)) (by rw [UJ];kernel_rfl)
theorem si_iter_entry:entryFor table "set_iterator.__iter__"=some Builtin.«dict_keyiterator.__iter__»:=
 entryFor_alias (id':="dict_keyiterator.__iter__") (by kernel_rfl) rfl (by decide +kernel) (by kernel_rfl)
theorem si_iter_args(a:JZ):argsOk "set_iterator.__iter__" ⟨[a],[]⟩:=by
 unfold argsOk;rw [signature?_of (id:="set_iterator.__iter__") (n:=['_','_','r','e','t','i','_','_']) (o:=['r','o','t','a','r','e','t','i','_','t','e','s']) (by kernel_rfl) IE];kernel_rfl
theorem si_next_entry:entryFor table "set_iterator.__next__"=some Builtin.«set_iterator.__next__»:=entryFor_of_tree (by kernel_rfl)
theorem si_next_args(a:JZ):argsOk "set_iterator.__next__" ⟨[a],[]⟩:=by
 unfold argsOk;rw [signature?_of (id:="set_iterator.__next__") (n:=['_','_','t','x','e','n','_','_']) (o:=['r','o','t','a','r','e','t','i','_','t','e','s']) (by kernel_rfl) IE];kernel_rfl
end PySem.F
namespace ST
open PySem.SetTable
theorem IR{b:Type}(next:Nat->Nat):∀(fuel k:Nat) (left:List b) (out:Array b),left.length=fuel->Zk (pickOrder.go next fuel k left out).toList (out.toList++left)
 | 0,k,left,out,h=>by
  have:left=[]:=YA.mp h
  subst this;rw [QP];exact .refl _
 | fuel+1,k,left,out,h=>by
  have a:next k % left.length<left.length:=Nat.mod_lt _ (by lia);unfold pickOrder.go;rw [Qi a];dsimp only
  refine(IR next fuel (k+1) _ _ (by rw [List.length_eraseIdx_of_lt a];lia)).trans ?_
  rw [JG,QD];refine List.Perm.append_left _ ?_;rw [List.eraseIdx_eq_take_drop_succ]
  have e:left=left.take (next k % left.length)++left[next k % left.length]::left.drop (next k % left.length+1):=by
   rw [<- Yc a,QZ]
  refine List.Perm.trans ?_ (.of_eq e.symm)
  show Zk (left[next k % left.length]::(left.take (next k % left.length)++left.drop (next k % left.length+1))) _
  exact List.perm_middle.symm
def gH(w:J6)(a ep:Nat)(es:Array (Int × JZ)):Array (Int × JZ):=if w.params.followText "set-order"=true then pickOrder (w.params.setOrder a ep) es else es
theorem qQ(w:J6)(a ep:Nat)(es:Array (Int × JZ)):Zk (gH w a ep es).toList es.toList:=by
 unfold gH;split
 ·exact(IR _ es.size 0 es.toList #[] (by simp)).trans (by simp)
 ·exact .refl _
theorem wY(w:J6)(a ep:Nat)(es:Array (Int × JZ)):(gH w a ep es).size=es.size:=by
 have:=(qQ w a ep es).length_eq
 simpa using this
theorem PQ(xs:Array Nat)(s:Up xs.toList):Zu xs 0=0:=by
 obtain⟨e,b,d⟩:=pH xs s 0;by_cases c:Zu xs 0=0
 ·exact c
 ·have a:0<xs.toList.length:=by rw [Qh];lia
  have:=b 0 _ (Qi a) (by lia)
  lia
theorem PP(xs:Array Nat)(s:Up xs.toList)(h:xs.toList[i]?=some j):Zu xs (j+1)=i+1:=by
 obtain⟨k,g,f⟩:=pH xs s (j+1);have d:=(Qc.mp h).1;rw [Qh]at d;by_cases a:Zu xs (j+1)<=i
 ·have:=f i j h a
  lia
 ·by_cases b:Zu xs (j+1)=i+1
  ·exact b
  ·have c:i+1<xs.toList.length:=by rw [Qh];lia
   have e:=Qi c
   have:=g _ _ e (by lia)
   have:=s.at h e (by lia)
   lia
structure iF(w:J6)(h:Heap)(a:YP)(o:Obj)(es:Array (Int × JZ))(ep:Nat)(t:SetTable):Prop where
 get:h.get? a=some o
 ex:o.ExactSet
 data:o.data=.set es ep t
 fits:t.fits es.size=true
 up:Up t.place.toList
 plain:t.plain=true
 led:t.led=jC w
theorem iF.at(S:iF w h a o es ep t)(e:h'.get? a=some o):iF w h' a o es ep t:=⟨e,S.ex,S.data,S.fits,S.up,S.plain,S.led⟩
def pE(h:Heap)(I a:YP)(slot i n ep:Nat):Prop:=∃ o,h.get? I=some o/\o.cls=.type "set_iterator"/\o.data=.fields #[.int slot 0,.int i 0,.ref a,.int n 0,.int ep 0]
section
variable {prog:J5}{w:J6}{A:Around}{E:JZ->J0->Prop}{s:J0}{I a:YP}{o:Obj}{es:Array (Int × JZ)}{ep slot i:Nat}{t:SetTable}
theorem pE.typeIs(h:pE s.heap I a slot i n ep):s.TypeIs (.ref I) "set_iterator":=by
 obtain⟨o,c,b,_⟩:=h
 exact⟨o,c,b⟩
theorem v9(h:Q (w.params.followText "set-order") s):J3 (J4 prog w) A setsByText Q E s:=by
 unfold setsByText;exact Qa (UU (Qb h))
theorem Kt(S:iF w s.heap a o es ep t)(h:Q (gH w a ep es) s):J3 (J4 prog w) A (setWalk a) Q E s:=by
 unfold setWalk;refine Qa (QV S.get S.data S.fits ?_);dsimp only;refine Qa (v9 ?_);unfold gH at h
 cases c:w.params.followText "set-order" with
 | true=>
  rw [c,if_pos rfl]at h;rw [if_pos rfl];exact Qa (UU (Qb h))
 | false=>
  rw [c,if_neg QB]at h;rw [if_neg QB]
  have d:(!t.plain && decide (es.size > 1))=false:=by rw [S.plain];rfl
  have b:(!t.led && decide (es.size > 1))=false:=by rw [S.led,jC,c];rfl
  show J3 _ _ (if(!t.plain && decide (es.size > 1))=true then _ else _) _ _ s
  rw [d,if_neg QB];refine Qa ?_
  show J3 _ _ (if(!t.led && decide (es.size > 1))=true then _ else _) _ _ s
  rw [b,if_neg QB];exact Qb (Qb h)
theorem Hi(S:iF w s.heap a o es ep t)(m:w.params.followText "set-order"=false->Zu t.place slot=i)
  (d:∀ x next,(gH w a ep es)[i]?=some x->(w.params.followText "set-order"=false->Zu t.place next=i+1)->Q (some (x.2,next)) s) (f:es.size<=i->Q none s):
  J3 (J4 prog w) A (setNext a slot i ep) Q E s:=by
 unfold setNext;refine Qa (QV S.get S.data S.fits ?_);dsimp only;refine Qa (v9 ?_)
 cases c:w.params.followText "set-order" with
 | true=>
  rw [if_pos rfl,if_neg (by simp)];refine Qa (Kt S (Qb ?_));by_cases l:i<es.size
  ·have b:i<(gH w a ep es).size:=by rw [wY];exact l
   rw [QC b]
   exact d _ _ (QC b) fun e=>by rw [c]at e;cases e
  ·rw [YD (by rw [wY];lia)];exact f (by lia)
 | false=>
  rw [if_neg QB]
  have k:(!t.plain && decide (es.size > 1))=false:=by rw [S.plain];rfl
  have j:(!t.led && !es.isEmpty)=false:=by rw [S.led,jC,c];rfl
  show J3 _ _ (if(!t.plain && decide (es.size > 1))=true then _ else _) _ _ s
  rw [k,if_neg QB];refine Qa ?_
  show J3 _ _ (if(!t.led && !es.isEmpty)=true then _ else _) _ _ s
  rw [j,if_neg QB];refine Qb (Qb ?_)
  have g:t.place.size=es.size:=by
   have:=S.fits
   unfold Uo at this;rw [QW,beq_iff_eq]at this;exact this.1
  rw [m c]
  have h:gH w a ep es=es:=by unfold gH;rw [c,if_neg QB]
  rw [h]at d;by_cases l:i<es.size
  ·have b:i<t.place.size:=by lia
   rw [QC l,QC b];refine d _ _ (QC l) fun _=>PP _ S.up ?_;rw [QI,QC b]
  ·rw [YD (by lia)];exact f (by lia)
theorem VX(S:iF w s.heap a o es ep t)
  (h:Q (.ref s.heap.objs.size) { s with heap:=s.heap.push { cls:=.type "set_iterator",data:=.fields #[.int 0 0,.int 0 0,.ref a,.int (es.size:Nat) 0,.int (ep:Nat) 0] } }):J3 (J4 prog w) A (pyIter (.ref a)) Q E s:=by
 have b:s.TypeIs (.ref a) "set":=⟨o,S.get,S.ex.1⟩;refine wpAny_pyIter_slot b F.slot_set_iter (Yq F.slot_set_iter b F.set_iter_entry ?_ (F.args_set_iter_1 _));unfold Builtin.«frozenset.__iter__» Builtin.Frozenset.slot0 slotArgs;simp only [List.isEmpty_nil,Ys,Qm,↓reduceIte,bind_assoc,JV,bne_self_eq_false];unfold ZZ Ur;refine Qa (Qb ?_);refine Qa (Qb ?_);refine Qa (Qa (JS S.get S.data S.fits (Qb ?_)));unfold setDrawn;refine Qa (Qa (QV S.get S.data S.fits ?_));dsimp only;refine Qa (v9 ?_);refine Qb ?_
 have c:(!(w.params.followText "set-order") && (!t.plain && decide (es.size > 1)))=false:=by rw [S.plain];simp
 show J3 _ _ (if(!(w.params.followText "set-order") && (!t.plain && decide (es.size > 1)))=true then _ else _) _ _ s
 rw [c,if_neg QB];refine Qa (Qb ?_);unfold setEpoch;refine Qa (Qa (QV S.get S.data S.fits (Qb ?_)));exact Qa (Yv (Qb ⟨_,rfl,"set_iterator",_,⟨_,Qz _ rfl,rfl⟩,F.si_next.lookup,h⟩))
theorem W9(c:pE s.heap I a slot i es.size ep)(S:iF w s.heap a o es ep t)(k:w.params.followText "set-order"=false->Zu t.place slot=i)(g:i<es.size)
  (l:∀ x h' next,(gH w a ep es)[i]?=some x->(w.params.followText "set-order"=false->Zu t.place next=i+1)->pE h' I a next (i+1) es.size ep->Zp I s.heap h'->Q (some x.2) { s with heap:=h' }):
  J3 (J4 prog w) A (Uh (.ref I)) Q E s:=by
 obtain⟨p,b,j,f⟩:=id c;unfold Uh
 refine Qa (UX (YQ (name:=ZM "__next__") c.typeIs F.si_next
  (Yq F.si_next c.typeIs F.si_next_entry ?_ (F.si_next_args _))))
 show J3 _ _ (fieldsOf (.ref I) >>= _) _ _ s
 refine Qa (Vo b f ?_);dsimp only;refine Qa (JS S.get S.data S.fits ?_);rw [if_neg (by simp)];refine Qa (Hi (i:=i) (slot:=slot) S k (fun x next n m=>?_) fun h=>absurd g (by lia));dsimp only;refine Qa (UK b f (by simp) ?_);have e:=Ye (Obj.mapFields (·.setIfInBounds 0 (Vy next))) b (UP (Jj f _));have d:=Jj f (fun x=>x.setIfInBounds 0 (Vy next));refine Qa (UK e d (by simp) (Qb ⟨_,rfl,Qb (l x _ next n m ?_ ((Q8 ..).trans (Q8 ..)))⟩))
 refine⟨_,Ye _ e (UP (Jj d _)),((Obj.cls_mapFields ..).trans (Obj.cls_mapFields ..)).trans j,?_⟩
 rw [Jj d]
 simp [Vy]
theorem W8(e:A.handled=none)(c:pE s.heap I a slot es.size es.size ep)(S:iF w s.heap a o es ep t)(h:w.params.followText "set-order"=false->Zu t.place slot=es.size)
  (j:∀ h',Heap.ExtBut I s.heap h'->Q none { s with heap:=h' }):
  J3 (J4 prog w) A (Uh (.ref I)) Q E s:=by
 obtain⟨k,d,l,f⟩:=id c;unfold Uh
 refine Qa (UX (YQ (name:=ZM "__next__") c.typeIs F.si_next
  (Yq F.si_next c.typeIs F.si_next_entry ?_ (F.si_next_args _))))
 show J3 _ _ (fieldsOf (.ref I) >>= _) _ _ s
 refine Qa (Vo d f ?_);dsimp only;refine Qa (JS S.get S.data S.fits ?_);rw [if_neg (by simp)];refine Qa (Hi (i:=es.size) (slot:=slot) S h (fun x next g n=>?_) fun _=>?_)
 ·rw [YD (by rw [wY];exact Qk _)]at g;cases g
 dsimp only;refine Qa (UK d f (by simp) ?_)
 show J3 _ _ (newExc (.type "StopIteration") [] >>= _) _ _ _
 refine Qa ?_;simp only [newExc,newTuple];refine Qa (Yv ?_ (by size_fits));refine Qa (m:=Vp _ _) (U2 (a:=ZH) (by first | rfl | (simp only [Vp];rfl)) ?_);refine Yv ?_ (by size_fits);simp only [raiseNew];refine Qa (wpAny_handled ?_)
 first | rw [show A.in1.handled=none from e] | rw [e]
 refine Qa (Qb (wpAny_throw ?_));refine Qa (Jc (T:="StopIteration") (b:=true) ⟨_,Qz _ rfl,rfl⟩ isSubtype_stop ?_);exact Qb (j _ (((Q8 ..).extBut.push _).push _))
theorem Walks.set(u:A.handled=none)(I a:YP)(j:a≠I)(o:Obj)(es:Array (Int × JZ))(ep:Nat)(t:SetTable):
  Walks prog w A I [I,a] [I] es.size (fun i v=>∃ x,(gH w a ep es)[i]?=some x/\v=x.2) (fun i h=>∃ slot,(w.params.followText "set-order"=false->Zu t.place slot=i)/\pE h I a slot i es.size ep/\iF w h a o es ep t) where
 sub:=fun b d=>by simp at d;simp [d]
 frame:=fun _ _ _ ⟨slot,f,⟨q,B,z,y⟩,S⟩ m=>⟨slot,f,⟨q,m I (by simp) _ B,z,y⟩,S.at (m a (by simp) _ S.get)⟩
 item:=fun i s Q E r ⟨slot,f,c,S⟩ g=>
  W9 c S f r fun x l next J H G n=>g _ l s.toks ⟨x,J,rfl⟩ ⟨next,H,G,S.at ((n.2 a j).trans S.get)⟩ fun b o d e=>n.extBut b o (fun h=>d (by simp [h])) e
 done:=fun s Q E ⟨slot,f,c,S⟩ g=>W8 u c S f fun l k=>g l s.toks fun b o d e=>k b o (fun h=>d (by simp [h])) e
 self:=fun i s Q E p g=>by
  obtain⟨slot,f,c,S⟩:=p;refine wpAny_pyIter_slot c.typeIs F.si_iter (Yq F.si_iter c.typeIs F.si_iter_entry ?_ (F.si_iter_args _))
  show J3 _ _ (ret (.ref I)) _ _ s
  exact Qb ⟨_,rfl,"set_iterator",_,c.typeIs,F.si_next.lookup,g⟩
end
section
variable {prog:J5}{w:J6}{A:Around}{E:JZ->J0->Prop}{s:J0}
theorem VE(c:s.TypeIs (.ref r) "set")(h:Q false s):J3 (J4 prog w) A (Builtin.List.listLengthHint (.ref r)) Q E s:=by
 unfold Builtin.List.listLengthHint;refine Qa (JC c PySem.F.slot_set_len.lookup ?_);generalize hid:("set.__len__":String)=a
 wp_delta
 rw [show splitId a=some ("set","__len__")from by subst hid;decide +kernel];subst hid;refine Qa (Jc (T:="set") (b:=true) c (by rw [UJ];kernel_rfl) ?_);refine wpAny_ite_split (fun z=>absurd z (by decide)) fun _=>wpAny_ite_split (fun _=>?_) fun z=>absurd (by decide +kernel) z;exact Qa (Y1 c (Qb h))
theorem zSj(a:YP)(o:Obj)(es:Array (Int × JZ))(ep:Nat)(t:SetTable):PySem.W.KdlSrc prog w "set" a a es.size (fun i v=>∃ x,(gH w a ep es)[i]?=some x/\v=x.2) (fun h=>iF w h a o es ep t) where
 type:=fun s S=>⟨o,S.get,S.ex.1⟩
 there:=fun h S=>⟨Qu S.get,Qu S.get⟩
 keep:=fun h e S b=>S.at (b a (.inl rfl) o S.get)
 notList:=by decide
 notTuple:=by decide
 hint:=fun A E s Q S h=>VE ⟨o,S.get,S.ex.1⟩ h
 iter:=fun A s c S=>⟨_,_,fun E Q d=>VX S d,Walks.set c _ a (QG (Qu S.get)) o es ep t,⟨0,fun _=>PQ _ S.up,⟨_,Qz _ rfl,rfl,rfl⟩,S.at (Qe _ S.get)⟩⟩
theorem VW(h:ItemsOf (fun i v=>∃ x,(gH w a ep es)[i]?=some x/\v=x.2) acc es.size):acc.toList=(gH w a ep es).toList.map (·.2):=by
 refine List.ext_getElem? fun i=>?_;rw [QN,QI,QI];by_cases l:i<es.size
 ·have b:i<acc.size:=by rw [h.1];exact l
  obtain⟨x,d,c⟩:=h.2 i _ (QC b);rw [d,QC b,c];rfl
 ·rw [YD (by rw [h.1];lia),YD (by rw [wY];lia)];rfl
theorem bQ.perm(p:Zk es es'):∀{ks:List (List Int)},bQ prog w h es ks->∃ ks',bQ prog w h es' ks'/\Zk ks' ks:=by
 induction p with
 | nil=>intro ks X;exact⟨ks,X,.refl _⟩
 | cons x _ g=>
  intro ks X
  cases X with
  | cons c r=>
   obtain⟨ks',m,q⟩:=g r
   exact⟨_,.cons c m,q.cons _⟩
 | swap x y l=>
  intro ks X
  cases X with
  | cons c r=>cases r with
   | cons i r=>exact⟨_,.cons i (.cons c r),.swap _ _ _⟩
 | trans _ _ b a=>
  intro ks X;obtain⟨n,k,e⟩:=b X;obtain⟨f,j,d⟩:=a k
  exact⟨f,j,d.trans e⟩
theorem ItemsAre.unique:∀{k k':List Int}{vs:List JZ},ItemsAre (intKind prog w) k vs->ItemsAre (intKind prog w) k' vs->k=k'
 | _,_,_,.nil,h=>by cases h;rfl
 | _,_,_,.cons h1 r1,h=>by
  cases h with
  | cons c b=>
   obtain⟨f,d⟩:=UA h1;obtain⟨e,a⟩:=UA c;rw [d]at a;cases a;rw [ItemsAre.unique r1 b]
theorem TK.unique(x:TK prog w h k a)(y:TK prog w h k' a):k=k':=by
 obtain⟨o,e,n,g,_,j,i⟩:=x;obtain⟨l,d,m,b,_,c,f⟩:=y;rw [g]at b;cases b;rw [j]at c;cases c;exact ItemsAre.unique i f
def LV(prog:J5)(w:J6)(V:JZ->Prop)(h:Heap)(a:YP)(o:Obj)(b:List (List Int)):Prop:=
 ∃ es ep t,iF w h a o es ep t/\bQ prog w h es.toList b/\b.Nodup/\∀ e∈es.toList,V e.2
end
end ST
namespace SL
open PySem.Spec L2 CL DL SD ST
def e7(k:List Int):D:=.tuple (k.map J9)
section
variable {X:Cx}{pins:List (YP × Obj)}{σ:L2.St}{H:Hp}{s:J0}
abbrev VT(K:PySem.W.Frag)(H:Hp)(v:JZ):Prop:=∃ b,∃ xs:List Int,v=.ref b/\bJ K H b (xs.map V.int)
def LW(X:Cx)(b:List (YP × Obj))(d:L2.St)(Q:qS)(u:JZ)(c:J0):Prop:=
 ∃ a o ks H',u=.ref a/\Inv X ((a,o)::b) d H' c/\LV X.prog X.w (VT X.K H') c.heap a o ks/\Q ks H'
def LU(X:Cx)(e:Expr)(t:uP):Prop:=
 ∀(pins:List (YP × Obj)) (s:J0) (σ:L2.St) (H:Hp) (Q:qS),Inv X pins σ H s->t σ H Q->J3 (J4 X.prog X.w) X.A (Zr e X.env) (LW X pins σ Q) X.xe s
def CK(X:Cx)(e:Expr)(g:aA->Option (List (List Int))):Prop:=LU X e (DZ X.K g)
theorem GA(I:Inv X pins σ H s):∀{es:List (Int × JZ)}{ks:List (List Int)},bQ X.prog X.w s.heap es ks->(∀ e∈es,VT X.K H e.2)->∃ vs:List V,Reps X.K F H (ks.map e7) vs/\Vals vs (es.map (·.2))
 | _,_,.nil,_=>⟨[],.nil,.nil⟩
 | _,_,.cons (k:=k) (b:=b) h1 r,hv=>by
  obtain⟨vs,d,c⟩:=GA (F:=F) I r fun e f=>hv e (Qf _ f);obtain⟨h,xs,g,a⟩:=hv _ Qg;cases g
  have:k=xs:=h1.unique (iM I a)
  subst this
  exact⟨.ref b::vs,.cons (.tup a (qC k)) d,.cons rfl c⟩
end
theorem XH(p:Zk ds ds'):∀{l:List KD},eO d0 ds=some l->∃ l',eO d0 ds'=some l'/\Zk l' l:=by
 induction p with
 | nil=>intro l h;exact⟨l,h,.refl _⟩
 | cons x _ o=>
  intro l h;obtain⟨k,f,h⟩:=aF h;obtain⟨r,e,h⟩:=aF h;cases h;obtain⟨l',b,a⟩:=o e
  exact⟨(k,x)::l',by unfold eO;rw [f,b];rfl,a.cons _⟩
 | swap x y u=>
  intro l h;obtain⟨k,f,h⟩:=aF h;obtain⟨r,e,h⟩:=aF h;cases h;obtain⟨n,s,h⟩:=aF e;obtain⟨g,q,h⟩:=aF h;cases h
  exact⟨(n,x)::(k,y)::g,by unfold eO;rw [s];unfold eO;rw [f,q];rfl,.swap _ _ _⟩
 | trans _ _ d c=>
  intro l h;obtain⟨t,b,a⟩:=d h;obtain⟨m,j,i⟩:=c b
  exact⟨m,j,i.trans a⟩
theorem zSh(h:eO d0 ds=some l)(h':eO d0 ds'=some l')(p:Zk l' l):fT l'=fT l:=by
 refine B3 (((pP l').trans p).trans (pP l).symm) (uC l') (uC l) fun a f b d e=>?_;have r:=(xI h').2;have c:=r a ((pP l').mem_iff.mp f);have g:=r b ((pP l').mem_iff.mp d);rw [e]at c;exact Jm e (nZ c g)
def AN(g:aA->Option (List (List Int))):aA->Option D:=fun a=>(g a).bind fun b=>k5 [.list ((dd b).map e7)]
section
variable {X:Cx}{e:Expr}{p pos:Pos}{g:aA->Option (List (List Int))}
theorem SW(hc:X.calm=true)(hu:X.A.units+66<Zf)(hg:Gl X x)(hm:X.mg x=none)(hv:Zw x=some (.builtin "sorted"))(ha:CK X e g)(hn:x≠"__name__":=by decide)(R:(x == ("__debug__":Str))=false:=by decide)
  (he:J2 [e] X.env=(false,Zr e X.env)::J2 [] X.env:=by rfl) (hpl:(Zt pos (J2 [] X.env)).any (·.1)=false:=by rfl):
  DE X (.Call (.Name x p) [e] [] pos) (AN g):=by
 intro i s U H Q I ⟨F,y,ρ,d,S,q,k⟩;obtain⟨h,e1,q⟩:=aF q;refine Je (nL I hg hm hv ?_ hn R);refine PyProof.Rows.callWith_builtin1 (Q:=?_) ?_ he hpl;rw [he]
 show J3 _ _ (spliced ((false,Zr e X.env)::Zt pos (J2 [] X.env))) _ _ s
 refine Calls.spliced_cons (aT (ha i s U H (fun n J=>n.Nodup/\(∀ k,k∈n ↔ k∈h)/\∃ B,aI F B H J) I ⟨F,y,ρ,h,S,e1,fun B J n E1 M N=>⟨M,N,B,E1⟩⟩) fun u s1 zz=>?_);obtain⟨a,o,n,J,eu,I1,⟨G,T,t,S1,X1,M,v1⟩,_,N,B,E1⟩:=zz;refine Calls.spliced_nil ?_;subst eu;refine Calls.call_function_entry kind_sorted plain_sorted entry_sorted (args_sorted1 _) ?_;unfold Builtin.«sorted»;have K:Zk n (dd h):=(List.perm_ext_iff_of_nodup M (Ct h)).mpr fun k=>(N k).trans yH.symm
 have a0:G.size=(dd h).length:=by rw [<- Qh,X1.length,K.length_eq]
 have a3:(dd h).length<=1000:=by
  cases c:dd h with
  | nil=>decide
  | cons O j=>
   rw [c]at q;have f:(if(j.map e7).length<1000 then _ else none)=some d:=q;by_cases z:(j.map e7).length<1000
   ·rw [Qo]at z;simp;lia
   ·rw [if_neg z]at f;cases f
 refine Qa (m:=checkCount "sorted" 1 1 _) (Qb (Qa (PySem.W.kdu_collect (zSj a o G T t) (by simp [I1.ok.hd hc]) S1 (fJ (by lia)) fun h' tk a5 hk r=>?_)));have I2:Inv X i U J { s1 with heap:=h',toks:=tk }:=(I1.pins_of fun p E=>I1.pin p (Qw _ (Qf _ E))).kept hk;obtain⟨a4,X2,p2⟩:=(X1.mono fun k b x=>x.at fun o e=>hk b o e).perm (qQ X.w a T G).symm;obtain⟨vs,r1,Y⟩:=GA (F:=B) I2 X2 fun e he=>v1 e ((qQ X.w a T G).mem_iff.mp he);rw [<- VW r]at Y
 have v:∃ d0 l,eO d0 ((dd h).map e7)=some l/\d=.list ((fT l).map (·.2)):=by
  cases c:dd h with
  | nil=>rw [c]at q;cases q;exact⟨[],[],rfl,rfl⟩
  | cons O j=>
   rw [c]at q;have f:(if(j.map e7).length<1000 then(eO (O.map J9) ((O::j).map e7)).bind fun l=>some (ZO ((fT l).map (·.2)))else none)=some d:=q;by_cases z:(j.map e7).length<1000
   ·rw [if_pos z]at f;obtain⟨l,e2,f⟩:=aF f;cases f
    exact⟨_,l,e2,rfl⟩
   ·rw [if_neg z]at f;cases f
 obtain⟨d0,l,f1,rfl⟩:=v;obtain⟨l',f2,f3⟩:=XH ((p2.trans K).map e7).symm f1;refine H0 hu I2 Y r1 f2 (by rw [Qo,(p2.trans K).length_eq];lia) fun p a2 E Z _=>?_;rw [zSh f1 f2 f3]at Z;exact k _ _ _ (E1.trans (aI.frozen E)) (aO.newLst E Z)
end
end SL
namespace SL
open PySem.Spec L2 CL DL SD
section
variable {X:Cx}{e st:Expr}{p2 pos:Pos}
end
end SL
namespace TL
open PySem.Spec L2 HT
section
variable {prog:J5}{w:J6}{A:Around}{E:JZ->J0->Prop}{s:J0}
theorem Pr{t b:YP}{ws:List JZ}{Q:JZ->J0->Prop}(q:IsTup s.heap t #[])(r:IsTup s.heap b ws.toArray)(h:Q (.ref b) s):J3 (J4 prog w) A (ZD .Add (.ref t) (.ref b)) Q E s:=by
 obtain⟨⟨u,dd,l,o⟩,i,k,n,j⟩:=id q;obtain⟨⟨m,f,g,e⟩,a,d,p,c⟩:=id r
 simp only at k j d c
 subst k j d c;exact concat_meets ⟨_,i,rfl⟩ ⟨_,a,rfl⟩ noFill_tuple_add seq_tuple_add PySem.F.slot_tuple_add PySem.F.entry_tuple_add (PySem.F.args_tuple_add_2 _ _) (tuple_addW0 t b #[] ws.toArray n p dd f o e rfl) ⟨i,a,h⟩
theorem Ps{t b:YP}{vs ws:List JZ}{Q:JZ->J0->Prop}(q:s.heap.IsList t vs.toArray)(r:s.heap.IsList b ws.toArray)(hz:vs.length+ws.length<=sizeLine)
  (h:Q (.ref s.heap.objs.size) { s with heap:=s.heap.push { cls:=.type "list",data:=.seq (vs++ws).toArray } }):J3 (J4 prog w) A (ZD .Add (.ref t) (.ref b)) Q E s:=by
 obtain⟨⟨cls,dd,data,o⟩,j,l,n,k⟩:=id q;obtain⟨⟨m,g,i,f⟩,a,d,p,c⟩:=id r
 simp only at l k d c
 subst l k d c
 have e:vs.toArray++ws.toArray=(vs++ws).toArray:=by simp
 refine concat_meets ⟨_,j,rfl⟩ ⟨_,a,rfl⟩ noFill_list_add seq_list_add PySem.F.slot_list_add PySem.F.entry_list_add (PySem.F.args_list_add_2 _ _) (list_addW t b vs.toArray ws.toArray n p dd g o f (by simpa using hz)) ⟨j,a,?_⟩;rw [e];exact h
theorem zS2{t c:YP}{a:Array JZ}{i g:JZ}{j l:Option Int}{Q:JZ->J0->Prop}(b:IsTup s.heap t a)(hs:s.heap.IsSliceOf c i g .none)(pl:Vz i j)(m:Vz g l)
  (k:sIx a.size 0 j=0/\sIx a.size a.size l=a.size) (h:Q (.ref t) s):J3 (J4 prog w) A (getItem (.ref t) (.ref c)) Q E s:=by
 obtain⟨n,d,e,o⟩:=id hs;have f:s.TypeIs (.ref c) "slice":=⟨n,d,e⟩;unfold getItem
 try with_reducible refine Yb ?_
 first | refine Qa (Qb ?_) | skip
 refine Qa (wpAny_sequenceKey b.typeIs (by decide) ?_)
 refine Qa (YQ (name:=ZM "__getitem__") b.typeIs YX
  (Yq YX b.typeIs entry_tuple_getitem ?_ (args_tuple_getitem _ _)))
 show J3 _ _ (Builtin.Tuple.tupleItemsOf (.ref t) >>= _) _ _ s
 refine Qa (tupleItemsOf_ b (Qa (Y1 f ?_)));rw [if_pos (by decide)];refine Qa (HU hs pl m ?_);rw [k.1,k.2]
 show J3 _ _ (if(((0:Nat):Int) == 0 && (1:Int) == 1 && (a.size-0) == a.size)=true then _ else _) _ _ s
 rw [if_pos (by simp)];unfold Builtin.Tuple.tupleIsExact;refine Qa (Qa (Y1 b.typeIs (Qb ?_)));rw [if_pos (by decide)];exact Qa (Jg (Qb ⟨_,rfl,Qb h⟩))
end
end TL
namespace SL
open PySem.Spec L2 CL DL SD TL
section
variable {X:Cx}{e st:Expr}{p2 pos:Pos}
theorem WF:bF X (ZD .Add) (fun x y H Q=>∃ a b ys,x=.ref a/\y=.ref b/\bJ X.K H a []/\bJ X.K H b ys/\Q (.ref b) H):=by
 intro c s n H x y v u Q I f e h;obtain⟨a,b,ys,rfl,rfl,m,l,q⟩:=h;cases f;cases e;obtain⟨k,g,j,_⟩:=I.tuple m;obtain⟨d,o,i,_⟩:=I.tuple l;cases g;exact Pr j i ⟨.ref b,H,I,rfl,q⟩
theorem WG:bF X (ZD .Add) (fun x y H Q=>∃ a b xs ys,x=.ref a/\y=.ref b/\bY X.K H a xs/\bY X.K H b ys/\xs.length+ys.length<=1000/\∀ p,H p=none->Q (.ref p) (aJ H p (.lst (xs++ys)))):=by
 intro e s t H x y v u Q I j i h;obtain⟨a,b,xs,ys,rfl,rfl,r,n,g,q⟩:=h;cases j;cases i;obtain⟨m,d,l,_⟩:=I.list r;obtain⟨f,c,k,_⟩:=I.list n;refine Ps l.isList k.isList (by rw [<- d.length,<- c.length];exact fJ g) ?_
 refine⟨.ref s.heap.objs.size,_,I.laid (t':=s.toks) (o:=.lst (xs++ys)) (fun b w q=>Qe _ q) (Qk _) ?_,rfl,q _ (I.hok.fresh (Qk _))⟩
 exact⟨by rw [Qj];exact fJ g,_,0,d.append c,Qz _ rfl⟩
theorem zSc:lA X (fun x lo hi H Q=>∃ a xs,x=.ref a/\bJ X.K H a xs/\(HT.sIx xs.length 0 lo=0/\HT.sIx xs.length xs.length hi=xs.length)/\Q (.ref a) H):=by
 intro d s m H x v o n lo hi p Q I f l i g h;obtain⟨a,xs,rfl,j,k,q⟩:=h;cases f;obtain⟨c,r,e,t⟩:=I.tuple j
 have b:c.toArray.size=xs.length:=by rw [QJ];exact r.length.symm
 exact⟨"tuple",_,YX.lookup,e.typeIs,zS2 e l i g (by rw [b];exact k) ⟨.ref a,H,I,rfl,q⟩⟩
def Dt:D->Option Int->Option Int->Option D
 | .list xs,lo,hi=>some (.list (DL.cutD xs lo hi))
 | .tuple xs,lo,hi=>some (.tuple (DL.cutD xs lo hi))
 | _,_,_=>none
def kG(e:aA->Option D)(b c:aA->Option (Option Int)):aA->Option D:=fun a=>(e a).bind fun d=>(b a).bind fun l=>(c a).bind fun h=>Dt d l h
theorem SF{xs:List D}{a b:Option Int}(h:HT.sIx xs.length 0 a=0/\HT.sIx xs.length xs.length b=xs.length):DL.cutD xs a b=xs:=by
 unfold DL.cutD;rw [h.1,h.2,List.drop_zero,Nat.sub_zero,JN]
theorem Bt{a:Expr}{g i:Option Expr}{n:aA->Option D}{j m:aA->Option (Option Int)}(t:DE X a n)(r:DO X g j)(s:DO X i m):DE X (.Subscript a (.Slice g i none p2) pos) (kG n j m):=
 cJ (X5 (Xk.or (Xl.or zSc)) t r s) fun E H Q o=>by
  obtain⟨F,b,f,d,S,q,k⟩:=o;obtain⟨x,y,q⟩:=aF q;obtain⟨l,w,q⟩:=aF q;obtain⟨h,u,q⟩:=aF q
  refine⟨F,b,f,x,S,y,fun B J v E1 R1=>⟨B,b,f,l,S.ext E1,w,fun A I E2=>⟨A,b,f,h,(S.ext E1).ext E2,u,fun K G E3=>?_⟩⟩⟩
  have z:=(R1.stay E2.stay).stay E3.stay;have E123:=E1.trans (E2.trans E3)
  cases z with
  | @lst a' vs ds h1 r1=>
   cases q;exact .inl ⟨a',vs,rfl,h1.sq,fun p e=>k _ _ _ (E123.trans (aI.frozen e)) (aO.newLst e (r1.cut l h))⟩
  | @tup a' vs ds h1 r1=>
   cases q;by_cases c:HT.sIx ds.length 0 l=0/\HT.sIx ds.length ds.length h=ds.length
   ·rw [SF c]at k;exact .inr (.inr ⟨a',vs,rfl,h1,by rw [<- r1.length];exact c,k _ _ _ E123 (.tup h1 r1)⟩)
   ·exact .inr (.inl ⟨a',vs,rfl,h1,by rw [<- r1.length];exact c,fun p e=>k _ _ _ (E123.trans (aI.fresh e)) (aO.newTup e (r1.cut l h))⟩)
  | non=>cases q
  | dct _ _ _ _ _=>cases q
  | exn _ _ _=>cases q
  | bl _=>cases q
  | int _=>cases q
  | str _=>cases q
def bX:D->D->Option D
 | .int i,.int j=>some (.int (i+j))
 | .tuple xs,.tuple ys=>if xs.length+ys.length<=1000 then some (.tuple (xs++ys))else none
 | .list xs,.list ys=>if xs.length+ys.length<=1000 then some (.list (xs++ys))else none
 | _,_=>none
theorem Hj{c b:Type}{xs:List c}{a:List b}(h:xs.length=a.length)(e:a=[]):xs=[]:=by subst e;exact Ju h
theorem dB:bF X (ZD .Add) (cD X.K bX):=tW (Wr.or (Wt.or (WF.or WG))) fun x y H Q l=>by
 obtain⟨F,d,e,q,z,j,R2,f,k⟩:=l;unfold bX at f
 split at f
 ·cases f;cases j;cases R2;exact .inl ⟨_,_,rfl,rfl,k F H _ (aI.refl F H) (.int _)⟩
 ·rename_i i h;by_cases c:i.length+h.length<=1000
  ·rw [if_pos c]at f;cases f
   cases j with
   | @tup a vs _ h1 r1=>
    cases R2 with
    | @tup b us _ h2 r2=>
     by_cases n:vs=[]
     ·subst n
      have:i=[]:=Hj r1.length rfl
      subst this;exact .inr (.inr (.inl ⟨a,b,us,rfl,rfl,h1,h2,k F H _ (aI.refl F H) (.tup h2 r2)⟩))
     ·refine .inr (.inl ⟨a,b,vs,us,rfl,rfl,h1,h2,n,fJ (by rw [<- r1.length,<- r2.length];exact c),fun e=>?_,fun e p g=>?_⟩)
      ·have:h=[]:=Hj r2.length e
       subst this;rw [QP]at k;exact k F H _ (aI.refl F H) (.tup h1 r1)
      ·exact k F _ _ (aI.fresh g) (aO.newTup g (r1.append r2))
  ·rw [if_neg c]at f;cases f
 ·rename_i i h;by_cases c:i.length+h.length<=1000
  ·rw [if_pos c]at f;cases f
   cases j with
   | @lst a vs _ h1 r1=>
    cases R2 with
    | @lst b us _ h2 r2=>
     exact .inr (.inr (.inr ⟨a,b,vs,us,rfl,rfl,h1.sq,h2.sq,by rw [<- r1.length,<- r2.length];exact c,fun p g=>k _ _ _ (aI.frozen g) (aO.newLst g (r1.append r2))⟩))
  ·rw [if_neg c]at f;cases f
 ·cases f
end
end SL
namespace EL
open PySem.Spec L2 DL ZL
open AutoSeq1 (wpAny_loadPart')
section
variable {prog:J5}{w:J6}{A:Around}{E:JZ->J0->Prop}{s:J0}
end
end EL
namespace SL
open PySem.Spec L2 CL DL SD EL
end SL
namespace SL
open PySem.Spec L2 CL DL SD
def pI:List D->Option (List Bool)
 | []=>some []
 | .bool b::r=>(pI r).bind fun bs=>some (b::bs)
 | _=>none
theorem PX{K:PySem.W.Frag}{F:YP->Prop}{H:Hp}:∀{ds:List D}{vs:List V}{bs:List Bool},Reps K F H ds vs->pI ds=some bs->vs=bs.map V.bl:=by
 intro ds
 induction ds with
 | nil=>intro vs bs r h;cases r;cases h;rfl
 | cons d ds f=>
  intro vs bs r h
  cases r with
  | cons c a=>
   cases d with
   | bool b=>
    cases c;obtain⟨g,e,h⟩:=aF h;cases h;rw [f a e];rfl
   | _=>cases h
theorem Ko:∀{bs:List Bool}{us:List JZ},Vals (bs.map V.bl) us->us=bs.map ZV
 | [],_,h=>by cases h;rfl
 | b::bs,_,h=>by
  cases h with
  | cons r t=>
   rw [Ko t]
   cases(show _=ZV b from r)
   rfl
theorem Xu(bs:List Bool):(Za bs.length).any (fun i=>bs.getD i false)=bs.any id:=by
 rw [Jl,List.any_eq_true,List.any_eq_true];constructor
 ·rintro⟨i,a,h⟩
  have a:=QU.mp a;rw [QY,Qi a]at h
  exact⟨_,Yy a,h⟩
 ·rintro⟨b,c,h⟩
  obtain⟨i,a⟩:=Q3 c
  refine⟨i,QU.mpr (Qc.mp a).1,?_⟩
  rw [QY,a];exact h
section
variable {X:Cx}
theorem zSy{P:J5}{w:J6}{A:Around}{bs:List Bool}:TruthOf P w A (fun i v=>(bs.map ZV).toArray[i]?=some v) (fun i=>bs.getD i false):=fun i v s Q E a c=>by
 have a:(List.map ZV bs).toArray[i]?=some v:=a;have c:Q (bs.getD i false) s:=c;rw [List.getElem?_toArray,QN]at a
 cases e:bs[i]? with
 | none=>rw [e]at a;cases a
 | some b=>
  rw [e]at a;cases a;rw [QY,e]at c;exact Qb c
theorem Ra(l:X.calm=true):dW X (.builtin "any") (fun xs H Q=>∃(a:YP) (bs:List Bool),xs=[.ref a]/\bY X.K H a (bs.map V.bl)/\Q (.bl (bs.any id)) H):=by
 intro d s n H xs p Q I f h;obtain⟨a,bs,rfl,m,q⟩:=h;obtain⟨u,rfl,g⟩:=iN f;cases g;obtain⟨j,r,c,_⟩:=I.list m;have e:=Ko r;subst e
 have i:a<s.heap.objs.size:=by obtain⟨_,e,_⟩:=c.isList;exact Qu e
 refine call_any_walk (Jn c.isList ⟨s.heap.objs.size,_,_,_,_,_,_,rfl,Walks.list (by simp [I.ok.hd l]) s.heap.objs.size a (QG i) (bs.map ZV).toArray,⟨⟨_,Qz _ rfl,rfl,rfl⟩,c.isList.push _⟩,zSy,fun v t k=>?_⟩);rw [QJ,Qo,Xu]
 exact⟨.bl _,H,I.kept fun b o e=>k b o (fun z=>absurd (Qu e) (by rw [Qp.mp z];exact Y0 _)) (Qe _ e),rfl,q⟩
def uS:List D->Option D
 | [.list xs]=>(pI xs).bind fun bs=>some (.bool (bs.any id))
 | _=>none
theorem Pu(d:X.calm=true):dW X (.builtin "any") (jE X.K uS):=pZ (Ra d) fun g H Q c=>by
 obtain⟨F,h,q,z,R,b,k⟩:=c;unfold uS at b
 split at b
 ·obtain⟨bs,e,b⟩:=aF b;cases b
  cases R with
  | cons f R2=>
   cases R2
   cases f with
   | @lst a vs _ h1 r1=>
    rw [PX r1 e]at h1
    exact⟨a,bs,rfl,h1.sq,k F H _ (aI.refl F H) (.bl _)⟩
 ·cases b
theorem boot_any:Zw "any"=some (.builtin "any"):=by decide +kernel
end
open AutoSeq1 (wpAny_loadPart')
theorem Se(l:YP)(c:Array JZ)(n:Nat)(b:YP)(a:Array JZ)(o:Nat)(dd:Option YP)(m:Array (Option JZ))(p:(!c.isEmpty && Uj (c.size+a.size))=false)(i:c.size<=sizeLine)(f:c.size+a.size<=sizeLine+1):
  Meets (Builtin.«list.extend» ⟨[.ref l,.ref b],[]⟩) (fun _ R s=>s.heap.get? l=some { cls:=.type "list",dict:=none,data:=.seq c n,slots:=#[] }/\s.heap.get? b=some { cls:=.type "list",dict:=dd,data:=.seq a o,slots:=m }/\R (.ok (.ret ZH)) { s with heap:=s.heap.update l (Z5 fun x=>x++a),toks:=s.toks }):=
 .of_wp fun j w A R s h=>by
  obtain⟨u,g,d,r,t⟩:=s;obtain⟨k,q,h⟩:=h;have E:=AutoSeq1.idx_int;have B:=AutoSeq1.sub_tuple_tuple;have z:=AutoSeq1.sub_list_list;have y:=AutoSeq1.sub_tuple_list;have v:=AutoSeq1.sub_list_tuple
  have e:(c++a).size<=sizeLine+1:=by rw [Array.size_append];exact f
  wp_walk using(Ve k rfl (hz:=i) (_hz':=e)),U9 k,U9 q
  exact⟨_,rfl,h⟩
section
variable {X:Cx}
theorem WM:CU X "list.extend" (fun x vs H Q=>∃ l b xs zs,x=.ref l/\vs=[.ref b]/\H l=some (.lst xs)/\bY X.K H b zs/\xs.length+zs.length<=1000/\Q .non (aJ H l (.lst (xs++zs)))):=by
 intro k s B H x vs v E Q I o p h;obtain⟨l,b,xs,zs,rfl,rfl,m,y,N,q⟩:=h;cases o;obtain⟨u,rfl,t⟩:=p.one;cases t;obtain⟨z,c,n,r,O,e⟩:=I.lstM m;obtain⟨a,j,⟨⟨S,dd,R,G⟩,w,A,g,f,d⟩,_⟩:=I.list y
 simp only at g f d
 subst g f d;have M:=r.length;have J:=j.length
 have i:c.toArray.size+a.toArray.size<=sizeLine:=by rw [QJ,QJ];exact fJ (by lia)
 refine call_meets F.slot_list_extend ⟨_,e,rfl⟩ F.entry_list_extend (F.args_list_extend_2 _ _)
  (Se l c.toArray n b a.toArray w _ _ (by rw [Wh i,Bool.and_false]) (by lia) (by lia)) ⟨e,A,?_⟩
 refine⟨.non,_,I.lset (its':=c++a) m e (by simp) (r.append j) ?_,rfl,q⟩
 rw [Qj];exact fJ (by lia)
def oX(i:Nat)(g:aA->Option D):aA->Option aV:=fun a=>match a[i]? with
 | some (.own ds)=>(g a).bind fun d=>match d with
  | .list b=>if ds.length+b.length<=1000 then some (.nx (a.set i (.own (ds++b))))else none
  | _=>none
 | _=>none
variable {e:Expr}{p pos:Pos}{ga:aA->Option D}
theorem Gv(Q:DE X e ga)(R:X.N[i]?=some x:=by rfl)(M:gD X.env.scope x:=by first | exact Zi rfl | exact Zd (Zi rfl) | exact Zd (Zd rfl))(O:(x == ("__debug__":Str))=false:=by decide)
  (t:(x == ("__classdict__":Str))=false:=by decide) (g:J2 [e] X.env=(false,Zr e X.env)::J2 [] X.env:=by rfl)
  (f:ZE (.Name x p) "extend" X.env (Zr (.Name x p) X.env)=Zr (.Name x p) X.env:=by rfl)
  (h:((Zt pos' (J2 [e] X.env)).all (fun x => !x.1) && (UC pos' (ZT [] X.env)).all (fun x=>x.1.isSome)
   && decide ([e].length+([]:List Us).length+(if([]:List Us).isEmpty then 0 else 1)<30))=true:=by rfl)
  (c:(apos.endLine == pos'.line)=true:=by rfl) (a:(Zt pos' (J2 [] X.env)).any (·.1)=false:=by rfl) (r:ZC (.Call (.Attribute (.Name x p) "extend" apos) [e] [] pos') none pos.line X.env=pure false:=by rfl):
  DS X (.Expr (.Call (.Attribute (.Name x p) "extend" apos) [e] [] pos') pos) (oX i ga):=
 DL.ps_mono (pL (Cz PySem.F.plainAttrs_list PySem.F.slot_list_extend PySem.F.type_list_extend WM (gQ R M O t) (fS Q hE g) f h c g a) r) fun W B H I=>by
 obtain⟨A,j,F,G,o,E,S,q,k⟩:=I;unfold oX at q
 split at q
 ·rename_i ds u;obtain⟨d,Z,q⟩:=aF q
  split at q
  ·rename_i Y;by_cases s:ds.length+Y.length<=1000
   ·rw [if_pos s]at q;cases q;obtain⟨l,vs,n,K,q3,J,q5⟩:=S.own u
    refine⟨_,n,.inl ⟨rfl,_,bY.of K⟩,F,j,G,_,S,Z,fun F' H' v E' R'=>?_⟩
    have S':=S.ext E';obtain⟨l',m,z,y,U,g4,w⟩:=S'.own u;rw [n]at z;cases z
    cases R' with
    | @lst b us _ h1 r1=>
     refine⟨l,b,m,us,rfl,rfl,y,h1.sq,by rw [<- w.length,<- r1.length];exact s,?_⟩
     obtain⟨S2,T⟩:=S'.turn u n y U (w.append r1);exact k F' _ B ((E.trans E').turn J) (E'.stay.trans T) S2
   ·rw [if_neg s]at q;cases q
  ·cases q
 ·cases q
end
def CG:Expr->Bool
 | .Starred ..=>false
 | _=>true
theorem zSk(e:Expr)(es:List Expr)(env:Env)(h:CG e=true):J2 (e::es) env=(false,Zr e env)::J2 es env:=by
 cases e <;> first | rfl | cases h
theorem SN(b:DE X e ga)(a:DA X es gr)(h:CG e=true:=by rfl):DA X (e::es) (aD ga gr):=SM b a (zSk e es X.env h)
end SL
namespace ST
open PySem.SetTable
structure gT(t:SetTable)(hs:List Int):Prop where
 good:eP t.mask
 len:t.place.toList.length=hs.length
 up:Up t.place.toList
 dup:Up t.dummies.toList
 apart:∀ x∈t.dummies.toList,x∉t.place.toList
 room:(t.place.toList.length+t.dummies.toList.length) * 5<t.mask * 3
 reach:∀ q∈t.place.toList.zip hs,∃ n,(P t.mask q.2 n).j=q.1/\∀ m,m<n->(P t.mask q.2 m).j∈t.place.toList++t.dummies.toList
theorem fV.toD(T:fV t hs):gT t hs:=by
 refine⟨T.good,T.len,T.up,?_,?_,?_,fun q c=>?_⟩
 ·rw [T.dum];exact ZU
 ·rw [T.dum];intro x b;simp at b
 ·rw [T.dum];exact T.room
 ·obtain⟨n,e,a⟩:=T.reach q c
  exact⟨n,e,fun m d=>QL _ (a m d)⟩
theorem AD(s:Up xs.toList)(j:Nat):has xs j=true ↔ j∈xs.toList:=by
 obtain⟨n,l,k⟩:=pH xs s j;unfold has;constructor
 ·intro h
  have:=Yz h
  rw [<- QI]at this;exact QO this
 ·intro f;obtain⟨i,c⟩:=Q3 f;have m:=(Qc.mp c).1
  have e:i=Zu xs j:=by
   by_cases a:i<Zu xs j
   ·have:=l i j c a;lia
   ·by_cases b:i=Zu xs j
    ·exact b
    ·have g:Zu xs j<xs.toList.length:=by lia
     have d:=Qi g
     have:=s.at d c (by lia)
     have:=k _ _ d (Qk _)
     lia
  rw [<- e,<- QI,c];simp
theorem xO(T:gT t hs)(j:Nat):(∃ i,t.slot j=.live i/\t.place.toList[i]?=some j) ∨ (t.slot j=.dummy/\j∉t.place.toList/\j∈t.dummies.toList) ∨ (t.slot j=.empty/\j∉t.place.toList++t.dummies.toList):=by
 unfold slot;dsimp only;by_cases c:(t.place[Zu t.place j]? == some j)=true
 ·rw [if_pos c];exact .inl ⟨_,rfl,by rw [QI];exact Yz c⟩
 ·rw [if_neg c];have a:j∉t.place.toList:=fun b=>c ((AD T.up j).mpr b);by_cases d:has t.dummies j=true
  ·rw [if_pos d];exact .inr (.inl ⟨rfl,a,(AD T.dup j).mp d⟩)
  ·rw [if_neg d];exact .inr (.inr ⟨rfl,fun h=>(QA.mp h).elim a fun h=>d ((AD T.dup j).mpr h)⟩)
theorem HX(T:gT t hs)(h:t.slot j=.live i):t.place.toList[i]?=some j:=by
 rcases xO T j with⟨c,a,b⟩ | ⟨a,_⟩ | ⟨a,_⟩
 ·rw [h]at a;cases a;exact b
 ·rw [h]at a;cases a
 ·rw [h]at a;cases a
theorem gT.fits(T:gT t hs)(e:hs.length=n):t.fits n=true:=by
 have b:=T.len;have a:=T.room;rw [Qh]at b a;rw [Qh]at a;unfold Uo Uq;rw [b,e];rw [b]at a;simp only [QW,beq_iff_eq,decide_eq_true_eq]
 refine⟨?_,?_⟩
 ·trivial
 ·show n+t.dummies.size<=t.mask
  lia
theorem gT.odd(T:gT t hs):t.gaveWay=false:=by
 unfold SetTable.gaveWay
 rcases T.good with h | h | h | h | h | h | h <;> rw [h] <;> rfl
def Pd(M:Nat)(h:Int)(n:Nat)(d:Option Nat):Probe:={ P M h n with dummy:=d }
theorem L4(M:Nat)(p:Probe)(d:Option Nat):hZ M { p with dummy:=d }={ hZ M p with dummy:=d }:=by
 unfold hZ;dsimp only
 split <;> rfl
theorem Fs(M:Nat)(h:Int)(n:Nat)(d:Option Nat):hZ M (Pd M h n d)=Pd M h (n+1) d:=L4 M (P M h n) d
section
variable {t:SetTable}{hs:List Int}{hashAt:Nat->Int}{h:Int}{n:Nat}
theorem RJ(a c:Nat)(d:Option Nat):U1 t hashAt h (a+1) (Pd t.mask h c d)=match t.slot (P t.mask h c).j with
  | .empty=>some (.empty (P t.mask h c).j d)
  | .dummy=>U1 t hashAt h a (Pd t.mask h (c+1) (some (P t.mask h c).j))
  | .live i=>if(hashAt i == h)=true then some (.candidate (P t.mask h c).j i (Pd t.mask h (c+1) d))else U1 t hashAt h a (Pd t.mask h (c+1) d):=by
 conv=>lhs;unfold U1
 rw [<- Fs t.mask h c d,<- Fs t.mask h c (some (P t.mask h c).j)];rfl
theorem Bb(T:gT t hs)(s:(P t.mask h n).j∉t.place.toList++t.dummies.toList)(u:∀ m,m<n->(P t.mask h m).j∈t.place.toList++t.dummies.toList):∀ fuel c d,c<=n->n-c<fuel->
  (∃ d',U1 t hashAt h fuel (Pd t.mask h c d)=some (.empty (P t.mask h n).j d')/\∀ m,c<=m->m<n->∀ i,t.slot (P t.mask h m).j=.live i->hashAt i≠h)
  ∨ ∃ m i d',c<=m/\m<n/\t.slot (P t.mask h m).j=.live i/\hashAt i=h/\(∀ m',c<=m'->m'<m->∀ i,t.slot (P t.mask h m').j=.live i->hashAt i≠h)/\U1 t hashAt h fuel (Pd t.mask h c d)=some (.candidate (P t.mask h m).j i (Pd t.mask h (m+1) d'))
 | 0,c,d,_,hf=>absurd hf (Yx _)
 | fuel+1,c,d,hc,hf=>by
  rw [RJ];by_cases e:c=n
  ·subst e;rcases xO T (P t.mask h c).j with⟨i,l,r⟩ | ⟨l,r,v⟩ | ⟨l,_⟩
   ·exact absurd (QL _ (QO r)) s
   ·exact absurd (Qw _ v) s
   ·rw [l];exact .inl ⟨d,rfl,fun m a b=>by lia⟩
  ·rcases xO T (P t.mask h c).j with⟨i,l,r⟩ | ⟨l,r,v⟩ | ⟨_,r⟩
   ·rw [l];dsimp only;by_cases k:(hashAt i == h)=true
    ·rw [if_pos k];exact .inr ⟨c,i,d,Qk _,by lia,l,Yz k,fun m' a b=>by lia,rfl⟩
    ·rw [if_neg k];have w:hashAt i≠h:=fun e=>k (by rw [e];simp);rcases Bb T s u fuel (c+1) d (by lia) (by lia)with⟨d',a,b⟩ | ⟨m,i',d',a1,a2,a3,a4,a5,a6⟩
     ·refine .inl ⟨d',a,fun m p g o f=>?_⟩;by_cases q:m=c
      ·subst q;rw [l]at f;cases f;exact w
      ·exact b m (by lia) g o f
     ·refine .inr ⟨m,i',d',by lia,a2,a3,a4,fun m' p g o f=>?_,a6⟩;by_cases q:m'=c
      ·subst q;rw [l]at f;cases f;exact w
      ·exact a5 m' (by lia) g o f
   ·rw [l];dsimp only;rcases Bb T s u fuel (c+1) (some (P t.mask h c).j) (by lia) (by lia)with⟨d',a,b⟩ | ⟨m,i',d',a1,a2,a3,a4,a5,a6⟩
    ·refine .inl ⟨d',a,fun m p g o f=>?_⟩;by_cases q:m=c
     ·subst q;rw [l]at f;cases f
     ·exact b m (by lia) g o f
    ·refine .inr ⟨m,i',d',by lia,a2,a3,a4,fun m' p g o f=>?_,a6⟩;by_cases q:m'=c
     ·subst q;rw [l]at f;cases f
     ·exact a5 m' (by lia) g o f
   ·exact absurd (u c (by lia)) r
theorem Nk(T:gT t hs)(k:(P t.mask h n).j∉t.place.toList++t.dummies.toList){i j:Nat}(b:t.place.toList[i]?=some j)(g:hs[i]?=some h):∃ m,m<n/\(P t.mask h m).j=j:=by
 have f:(j,h)∈t.place.toList.zip hs:=QO (i:=i) (by rw [YG];exact⟨b,g⟩);obtain⟨m,e,a⟩:=T.reach _ f
 refine⟨m,YF fun c=>k ?_,e⟩
 by_cases d:n=m
 ·subst d;rw [e];exact QL _ (QO b)
 ·exact a n (by lia)
end
section
variable {prog:J5}{w:J6}{A:Around}{E:JZ->J0->Prop}{s:J0}
theorem GJ{a x:YP}{o:Obj}{es:Array (Int × JZ)}{ep:Nat}{t:SetTable}{ks:List (List Int)}{k:List Int}{n:Nat}{Q:SetFound->J0->Prop}
  (hu:A.units<Zf) (Z:s.heap.get? a=some o) (hd:o.data=.set es ep t) (T:gT t (es.toList.map (·.1))) (X:bQ prog w s.heap es.toList ks) (hk:TK prog w s.heap k x)
  (h1:(P t.mask (TH prog w k) n).j∉t.place.toList++t.dummies.toList) (h2:∀ m,m<n->(P t.mask (TH prog w k) m).j∈t.place.toList++t.dummies.toList)
  (q1:∀ i,ks[i]?=some k->Q (.there (some i)) s) (S:k∉ks->∀ j b,Q (.free j b) s):
  ∀ fuel c d,c<=n->n<10 * VA t.mask->n-c<fuel->(∀ m,m<c->∀ i,t.slot (P t.mask (TH prog w k) m).j=.live i->ks[i]?≠some k)->∀ stand:Option Probe,stand.getD (t.probeStart (TH prog w k))=Pd t.mask (TH prog w k) c d->
  J3 (J4 prog w) A (setSearchFrom a (.ref x) (TH prog w k) false fuel stand) Q E s
 | 0,c,d,_,_,hf,_,_,_=>absurd hf (Yx _)
 | fuel+1,c,d,hc,hN,hf,inv,stand,hst=>by
  have u:t.fits es.size=true:=T.fits (by simp);unfold setSearchFrom;refine Qa (QV Z hd u ?_);dsimp only;rw [hst,if_neg (by rw [T.odd];exact QB)];refine Qa (Qb ?_);generalize R:t.probe _ (TH prog w k) (Pd t.mask (TH prog w k) c d)=met;obtain⟨f,a6,R⟩:∃ f:Nat->Int,(∀ i,f i=(es[i]?.map (·.1)).getD 0)/\t.probe f (TH prog w k) (Pd t.mask (TH prog w k) c d)=met:=⟨_,fun _=>rfl,R⟩
  have key:∀ m i,t.slot (P t.mask (TH prog w k) m).j=.live i->f i≠TH prog w k->ks[i]?≠some k:=fun m i G a0 a2=>by
   have Y:=HX T G
   have q:i<es.toList.length:=by
    have:=(Qc.mp Y).1
    rw [T.len]at this
    simpa using this
   obtain⟨F,b,v,N,e3⟩:=X.at (Qi q);rw [a2]at v;cases v;apply a0;rw [a6,<- QI,Qi q,N];rfl
  have a5:=Bb (hashAt:=f) T h1 h2 (10 * VA t.mask) c d hc (by lia);rcases a5 with⟨O,g1,g2⟩ | ⟨m,i,O,g1,g2,g3,g4,g5,g6⟩
  ·have:met=some (.empty (P t.mask (TH prog w k) n).j O):=R.symm.trans g1
   subst this
   have H:k∉ks:=fun K=>by
    obtain⟨i,G⟩:=Q3 K
    have q:i<es.toList.length:=by rw [X.length];exact(Qc.mp G).1
    obtain⟨F,b,v,N,e3⟩:=X.at (Qi q);rw [G]at v;cases v
    have J:i<t.place.toList.length:=by rw [T.len];simpa using q
    obtain⟨m,hm,hj⟩:=Nk T h1 (Qi J) (h:=TH prog w k) (by rw [QN,Qi q,N];rfl);rcases xO T (P t.mask (TH prog w k) m).j with⟨p,B,g⟩ | ⟨_,g,_⟩ | ⟨_,g⟩
    ·have a3:p=i:=by
      rw [hj]at g;have a1:=Qi J;by_cases W:p<i
      ·have:=T.up.at g a1 W;lia
      ·by_cases U:i<p
       ·have:=T.up.at a1 g U;lia
       ·lia
     subst a3;by_cases cm:m<c
     ·exact inv m cm p B G
     ·exact key m p B (g2 m (by lia) hm p B) G
    ·rw [hj]at g;exact g (Yy _)
    ·rw [hj]at g;exact g (QL _ (Yy _))
   dsimp only
   cases O with
   | none=>exact Qb (S H _ _)
   | some dd=>
    dsimp only;rw [if_neg (by simp)];exact Qb (S H _ _)
  ·have:met=some (.candidate (P t.mask (TH prog w k) m).j i (Pd t.mask (TH prog w k) (m+1) O)):=R.symm.trans g6
   subst this;have Y:=HX T g3
   have q:i<es.toList.length:=by
    have:=(Qc.mp Y).1
    rw [T.len]at this
    simpa using this
   obtain⟨F,b,v,N,e3⟩:=X.at (Qi q)
   have M:es[i]?=some (TH prog w F,.ref b):=by rw [<- QI,Qi q,N]
   dsimp only
   have z:∀ y∈(es.filter (fun x=>x.1 == TH prog w k)).toList.map (fun x=>x.2),∃ F b,y=.ref b/\TK prog w s.heap F b:=fun y hy=>by
    obtain⟨e,he,rfl⟩:=QT.mp hy
    have a7:e∈es.toList:=by
     rw [Array.toList_filter]at he
     exact(Q9.mp he).1
    obtain⟨i2,a4⟩:=Q3 a7;obtain⟨k2,b2,_,z2,z3⟩:=X.at a4
    exact⟨k2,b2,by rw [z2],z3⟩
   split
   all_goals try (refine Qa (GL hk z ?_);rw [if_neg QB])
   all_goals
    rw [M];dsimp only;refine Qa (Yb (wpAny_eqBool_tuple hu e3 hk ?_));refine Qa (QV Z hd u ?_);dsimp only;rw [if_neg (by simp),show t.sameMemory t.moves t.mask=some true by unfold sameMemory;simp];dsimp only;rw [if_pos rfl,g3];dsimp only;rw [M];dsimp only;refine Qa (wpAny_isSame_ref_self ?_);simp only [if_true];refine Qa (Qb ?_);dsimp only;by_cases r:F=k
    ·rw [if_pos (by simp [r])];exact Qb (q1 i (r ▸ v))
    ·rw [if_neg (by simp [r])];refine GJ hu Z hd T X hk h1 h2 q1 S fuel (m+1) O (by lia) hN (by lia) (fun I a8 p l=>?_) _ rfl;by_cases W:I<c
     ·exact inv I W p l
     ·by_cases U:I=m
      ·subst U;rw [g3]at l;cases l;rw [v];exact fun e=>r (QF e)
      ·exact key I p l (g5 I (by lia) (by lia) p l)
theorem GK
  (v:A.units<Zf) (f:s.heap.get? a=some o) (h:o.data=.set es ep t) (T:gT t (es.toList.map (·.1))) (X:bQ prog w s.heap es.toList ks) (B:TK prog w s.heap k x)
  (q:∀ i,ks[i]?=some k->Q (some i) s) (p:k∉ks->Q none s):J3 (J4 prog w) A (setFind a (.ref x) (TH prog w k)) Q E s:=by
 have c:t.fits es.size=true:=T.fits (by simp);have d:=T.room;obtain⟨n,e,u,r⟩:=FQ (l:=t.place.toList++t.dummies.toList) T.good (by rw [Qj];lia) (TH prog w k)
 have G:t.mask<=511:=by rcases T.good with g | g | g | g | g | g | g <;> lia
 unfold setFind setFindIn;refine Qa (QV f h c ?_);dsimp only;rw [if_neg (by simp [byScan,Value.scannable])];refine Qa ?_;unfold setSearch;refine GJ v f h T X B u r ?_ ?_ 100000 0 none (Q2 _) e (by unfold VA at e;lia) (fun m z=>absurd z (Yx _)) none ?_
 ·intro i F;exact Qb (q i F)
 ·intro y j b;exact Qb (p y)
 ·show P t.mask (TH prog w k) 0=_
  rfl
end
theorem sI{a:Type}(xs:Array a)(p:Nat):(Z6 xs p).toList=xs.toList.take p++xs.toList.drop (p+1):=by
 unfold Z6;rw [Q5,Array.toList_extract,Array.toList_extract];simp only [List.extract_eq_take_drop,Nat.sub_zero,List.drop_zero];congr 1;exact Jz (by rw [Yk,Qh];lia)
theorem G7(s:Up l)(c:l[i]?=some j)(x:Nat):x∈l.take i++l.drop (i+1) ↔ x∈l/\x≠j:=by
 have d:=(Qc.mp c).1
 have e:l=l.take i++j::l.drop (i+1):=by
  have:l[i]=j:=by rw [Qi d]at c;exact QF c
  rw [<- this,<- Yc d,QZ]
 have f:(l.take i++j::l.drop (i+1)).Nodup:=by rw [<- e];exact s.nodup
 constructor
 ·intro a
  refine⟨?_,fun q=>?_⟩
  ·rw [e];rcases QA.mp a with h | h
   ·exact QL _ h
   ·exact Qw _ (Qf _ h)
  ·subst q
   have:=(List.perm_middle.nodup_iff.mp f)
   exact(Yp.mp this).1 a
 ·rintro⟨a,b⟩
  rw [e]at a;rcases QA.mp a with h | h
  ·exact QL _ h
  ·rcases Qq.mp h with h | h
   ·exact absurd h b
   ·exact Qw _ h
theorem zSR(s:Up xs.toList)(m:j∉xs.toList):Up (Zy xs (Zu xs j) j).toList:=by
 obtain⟨b1,o,n⟩:=pH xs s j;rw [kS];unfold Up;rw [Ya]
 have d:∀ x∈xs.toList.take (Zu xs j),x<j:=fun x g=>by
  obtain⟨i,c⟩:=Q3 g;rw [Uv]at c
  split at c
  ·rename_i q;exact o i x c q
  ·cases c
 have f:∀ x∈xs.toList.drop (Zu xs j),j<x:=fun x g=>by
  obtain⟨i,c⟩:=Q3 g;rw [Uw]at c
  have:=n _ x c (by lia)
  have l:x≠j:=fun e=>m (e ▸ QO c);lia
 refine⟨s.sublist (UD _ _),Yt.mpr ⟨f,s.sublist (List.drop_sublist _ _)⟩,fun a k b h=>?_⟩
 rcases Qq.mp h with rfl | h
 ·exact d a k
 ·exact Vi (d a k) (f b h)
theorem G9:x∈(Zy xs p j).toList ↔ x=j ∨ x∈xs.toList:=by
 rw [kS,QA,Qq]
 conv=>rhs;rw [<- QZ p xs.toList,QA]
 constructor
 ·rintro(a | a | a)
  ·exact .inr (.inl a)
  ·exact .inl a
  ·exact .inr (.inr a)
 ·rintro(a | a | a)
  ·exact .inr (.inl a)
  ·exact .inl a
  ·exact .inr (.inr a)
theorem zTg{d c:Type}{l:List d}{m:List c}{i:Nat}(b:l.length=m.length){q:d × c}(h:q∈(l.take i++l.drop (i+1)).zip (m.take i++m.drop (i+1))):q∈l.zip m:=by
 rw [List.zip_append (by rw [QQ,QQ,b]),QA]at h;rcases h with h | h
 ·obtain⟨n,a⟩:=Q3 h;rw [YG,Uv,Uv]at a
  split at a
  ·exact QO (i:=n) (by rw [YG];exact a)
  ·cases a.1
 ·obtain⟨n,a⟩:=Q3 h;rw [YG,Uw,Uw]at a;exact QO (i:=i+1+n) (by rw [YG];exact a)
theorem RU{t:SetTable}{hs:List Int}{i:Nat}(T:gT t hs)(y:i<hs.length):gT (t.drop i) (hs.take i++hs.drop (i+1))/\(t.drop i).plain=t.plain/\(t.drop i).led=t.led:=by
 have p:i<t.place.toList.length:=by rw [T.len];exact y
 obtain⟨j,g⟩:∃ j,t.place.toList[i]?=some j:=⟨_,Qi p⟩
 have l:t.place[i]?=some j:=by rw [<- QI];exact g
 have o:j∈t.place.toList:=QO g;have s:j∉t.dummies.toList:=fun h=>T.apart j h o
 have e:t.drop i={ t with place:=Z6 t.place i,dummies:=Zy t.dummies (Zu t.dummies j) j }:=by
  unfold SetTable.drop;rw [l]
 rw [e];have d:(Z6 t.place i).toList=t.place.toList.take i++t.place.toList.drop (i+1):=sI _ _
 have A:(Z6 t.place i).toList.length+1=t.place.toList.length:=by
  rw [d,Qj,QQ,Yk];lia
 have r:(Zy t.dummies (Zu t.dummies j) j).toList.length=t.dummies.toList.length+1:=by
  rw [(Y9 _ _ _).length_eq];simp
 have k:∀ x,x∈(Z6 t.place i).toList++(Zy t.dummies (Zu t.dummies j) j).toList ↔ x∈t.place.toList++t.dummies.toList:=fun x=>by
  rw [QA,QA,d,G7 T.up g,G9];constructor
  ·rintro(⟨a,_⟩ | a | a)
   ·exact .inl a
   ·exact .inl (a ▸ o)
   ·exact .inr a
  ·rintro(a | a)
   ·by_cases c:x=j
    ·exact .inr (.inl c)
    ·exact .inl ⟨a,c⟩
   ·exact .inr (.inr a)
 refine⟨⟨T.good,?_,?_,zSR T.dup s,fun x u=>?_,?_,fun q v=>?_⟩,rfl,rfl⟩
 ·show(Z6 t.place i).toList.length=_
  rw [d,Qj,Qj,QQ,Yk,QQ,Yk,T.len]
 ·show Up (Z6 t.place i).toList
  rw [d];refine T.up.sublist ?_
  have:(t.place.toList.take i++t.place.toList.drop (i+1)).Sublist (t.place.toList.take i++t.place.toList.drop i):=List.Sublist.append (List.Sublist.refl _) (by
   rw [Yc p];exact List.sublist_cons_self _ _)
  rwa [QZ]at this
 ·show x∉(Z6 t.place i).toList
  rw [d,G7 T.up g]
  rintro⟨a,b⟩
  rcases G9.mp u with c | c
  ·exact b c
  ·exact T.apart x c a
 ·show((Z6 t.place i).toList.length+(Zy t.dummies (Zu t.dummies j) j).toList.length) * 5<t.mask * 3
  have:=T.room
  rw [r];lia
 ·have f:q∈(Z6 t.place i).toList.zip (hs.take i++hs.drop (i+1)):=v;rw [d]at f;obtain⟨n,z,a⟩:=T.reach q (zTg T.len f)
  exact⟨n,z,fun m w=>(k _).mpr (a m w)⟩
def mO(prog:J5)(w:J6)(V:JZ->Prop)(h:Heap)(a:YP)(b:List (List Int)):Prop:=
 ∃ o es ep t,h.get? a=some o/\o.ExactSet/\o.data=.set es ep t/\gT t (es.toList.map (·.1))/\(t.plain=true/\t.led=jC w)/\bQ prog w h es.toList b/\b.Nodup/\∀ e∈es.toList,V e.2
theorem cK.toD(S:cK prog w V h a ks):mO prog w V h a ks:=by
 obtain⟨o,k,l,t,j,i,g,f,e,d,c,b⟩:=S
 exact⟨o,k,l,t,j,i,g,f.toD,e,d,c,b⟩
section
variable {prog:J5}{w:J6}{A:Around}{E:JZ->J0->Prop}{s:J0}{V:JZ->Prop}
theorem Ej{a:Type}{l:List a}{i:Nat}{x:a}(h:l[i]?=some x):Zk l (x::(l.take i++l.drop (i+1))):=by
 have b:=(Qc.mp h).1
 have:l[i]=x:=by rw [Qi b]at h;exact QF h
 have e:l=l.take i++x::l.drop (i+1):=by rw [<- this,<- Yc b,QZ]
 exact(List.Perm.of_eq e).trans List.perm_middle
theorem RS{a x:YP}{d:List (List Int)}{k:List Int}{Q:Bool->J0->Prop}(G:A.units<Zf)(S:mO prog w V s.heap a d)(J:TK prog w s.heap k x)
  (z:k∉d->Q false s) (y:∀ h' ks',Zp a s.heap h'->mO prog w V h' a ks'->Zk d (k::ks')->Q true { s with heap:=h' }) (hsz:d.length<=1000):
  J3 (J4 prog w) A (setDiscardHashed a (.ref x) (TH prog w k)) Q E s:=by
 obtain⟨o,c,N,t,j,r,g,T,u,X,m,v⟩:=S;have l:t.fits c.size=true:=T.fits (by simp);unfold setDiscardHashed;refine Qa (GK G j g T X J (fun i q=>?_) fun H=>Qb (z H));dsimp only;have n:i<d.length:=(Qc.mp q).1
 have p:i<c.toList.length:=by rw [X.length];exact n
 refine Qa (QV j g l ?_);dsimp only
 have M:c.size=d.length:=by rw [<- X.length,Qh]
 have I:(Z6 c i).size<=c.size:=by
  rw [<- Qh,sI,Qj,QQ,Yk,Qh];lia
 refine Qa (Jo j g ?_ (by rw [Yo];lia))
 have K:(s.heap.update a (ZF (Z6 c i) (t.drop i))).get? a=some { o with data:=.set (Z6 c i) (N+1) (t.drop i) }:=by
  have:=Ye (ZF (Z6 c i) (t.drop i)) j (by rw [Jr _ _ g];rfl)
  rw [Jr _ _ g]at this;exact this
 have h:=Q8 s.heap a (ZF (Z6 c i) (t.drop i));obtain⟨O,F,B⟩:=RU (i:=i) T (by rw [Qo];exact p);refine Qa (wpAny_point (Qb (y _ (d.take i++d.drop (i+1)) h ⟨_,_,_,_,K,r,rfl,?_,⟨by rw [F];exact u.1,by rw [B];exact u.2⟩,?_,?_,fun e f=>?_⟩ (Ej q))))
 ·rw [sI,Q6,List.map_take,List.map_drop];exact O
 ·rw [sI]
  exact((X.take i).append (X.drop (i+1))).mono fun k b=>TK.keep j g h
 ·exact(Yp.mp ((Ej q).nodup_iff.mp m)).2
 ·rw [sI]at f;rcases QA.mp f with f | f
  ·exact v e (List.mem_of_mem_take f)
  ·exact v e (List.mem_of_mem_drop f)
abbrev tH(w:J6):Obj:={ cls:=.type "set",dict:=none,data:=.set #[] 0 (.fresh 0 0 (jC w)) }
theorem Hh(h:Q (.ref s.heap.objs.size) { s with heap:=s.heap.push (tH w) }):J3 (J4 prog w) A (newSet (.type "set")) Q E s:=by
 unfold newSet setsByText;refine Qa (Qa (UU (Qb ?_)));dsimp only;simp only [newObj];exact Qa (wpAny_alloc (Qb h))
structure yV(w:J6)(t:SetTable)(M:Nat):Prop where
 good:eP M
 mask:t.mask=M
 place:t.place=#[]
 dum:t.dummies=#[]
 plain:t.plain=true
 led:t.led=jC w
theorem XB(t:SetTable)(a:Nat):t.relaid #[] a=some ({ mask:=Zo a-1,place:=#[],dummies:=#[],finger:=t.finger,led:=t.led,moves:=t.movedTo (Zo a-1),plain:=t.plain },#[]):=by
 unfold relaid laid layClean
 have e:∀ M:Nat,((Za (M+1)).filterMap fun j=>((Ut (M+1) (none:Option Nat)).getD j none).map (j,·))=[]:=fun M=>by
  rw [List.filterMap_eq_nil_iff];intro j _
  have:(Ut (M+1) (none:Option Nat)).getD j none=none:=by
   unfold Vn;split
   ·simp
   ·rfl
  rw [this];rfl
 show some _=_
 simp only [e];rfl
theorem RL(a:n * 5 >= 21)(f:n<=75):∃ M,Zo (n * 2)-1=M/\eP M/\n * 5<M * 3/\¬ Zo (n * 2) > sizeLine:=by
 have h:∀ n:Fin 76,n.val * 5 >= 21->(Zo (n.val * 2)-1=15 ∨ Zo (n.val * 2)-1=31 ∨ Zo (n.val * 2)-1=63 ∨ Zo (n.val * 2)-1=127 ∨ Zo (n.val * 2)-1=255)/\n.val * 5<(Zo (n.val * 2)-1) * 3/\Zo (n.val * 2)<=256:=by decide +kernel
 obtain⟨d,c,b⟩:=h ⟨n,by lia⟩ a
 refine⟨_,rfl,?_,c,by rw [Yo];exact Nat.not_lt.mpr (QH b (by decide))⟩
 unfold eP
 rcases d with e | e | e | e | e <;> simp only at e <;> lia
theorem zSw(d:n<=63):∃ M,Zo (grown n)-1=M/\eP M/\n * 5<M * 3/\¬ Zo (grown n) > sizeLine:=by
 have h:∀ n:Fin 64,(Zo (grown n.val)-1=7 ∨ Zo (grown n.val)-1=15 ∨ Zo (grown n.val)-1=31 ∨ Zo (grown n.val)-1=63 ∨ Zo (grown n.val)-1=127 ∨ Zo (grown n.val)-1=255)/\n.val * 5<(Zo (grown n.val)-1) * 3/\Zo (grown n.val)<=256:=by decide +kernel
 obtain⟨c,b,a⟩:=h ⟨n,by lia⟩
 refine⟨_,rfl,?_,b,by rw [Yo];exact Nat.not_lt.mpr (QH a (by decide))⟩
 unfold eP
 rcases c with e | e | e | e | e | e <;> simp only at e <;> lia
theorem XF(e:s.heap.get? r=some o)(f:o.ExactSet)(d:o.data=.set #[] ep t)(B:yV w t 7)(p:n<=75)
  (h:∀ h' o' ep' t' M,Zp r s.heap h'->h'.get? r=some o'->o'.ExactSet->o'.data=.set #[] ep' t'->yV w t' M->n * 5<M * 3->Q () { s with heap:=h' }):J3 (J4 prog w) A (setRoomFor r n) Q E s:=by
 have b:t.fits (#[]:Array (Int × JZ)).size=true:=by unfold Uo Uq;rw [B.place,B.dum];simp
 unfold setRoomFor;refine Qa (QV e d b ?_);unfold SetTable.roomFor Uq;rw [B.place,B.dum,B.mask];by_cases c:(0+n) * 5 >= 7 * 3
 ·rw [if_pos (by simpa using c)];obtain⟨M,m,l,k,j⟩:=RL (n:=n) (by lia) p;unfold setRelay;refine Qa (QV e d b ?_);dsimp only
  have q:((#[]:Array Nat).size+n) * 2=n * 2:=by simp
  rw [q,if_neg j];have i:=XB t (n * 2);rw [m]at i
  have u:((#[]:Array (Int × JZ)).map (·.1))=#[]:=by simp
  rw [u,i];refine Qa (U2 (a:=((#[]:Array (Int × JZ)),({ mask:=M,place:=#[],dummies:=#[],finger:=t.finger,led:=t.led,moves:=t.movedTo M,plain:=t.plain }:SetTable))) (by rfl) ?_);dsimp only;refine Jo e d ?_ (by simp);have g:=Ye (ZF #[] { mask:=M,place:=#[],dummies:=#[],finger:=t.finger,led:=t.led,moves:=t.movedTo M,plain:=t.plain }) e (by rw [Jr _ _ d];rfl);rw [Jr _ _ d]at g;exact h _ _ _ _ M (Q8 ..) g f rfl ⟨l,rfl,rfl,rfl,B.plain,B.led⟩ k
 ·rw [if_neg (by simpa using c)];exact Qb (h s.heap o ep t 7 (JI ..) e f d B (by lia))
theorem Tj(G:r≠a)(U:s.heap.get? r=some o)(K:o.ExactSet)(Z:o.data=.set #[] ep t)(B:yV w t 7)
  (S:cK prog w V s.heap a ks) (hn:ks.length<=75) (h:∀ h' ks',Zp r s.heap h'->cK prog w V h' r ks'->Zk ks' ks->Q () { s with heap:=h' }):J3 (J4 prog w) A (setMerge r a (pure ())) Q E s:=by
 obtain⟨oa,f,a3,m,ha,a0,Y,T,N,X,H,hV⟩:=S
 have y:f.size=ks.length:=by rw [<- X.length,Qh]
 unfold setMerge;rw [if_neg (by simpa using G)];refine Qa (QV ha Y (T.fits (by simp)) ?_);dsimp only;by_cases em:f.isEmpty=true
 ·rw [if_pos em]
  have e0:f=#[]:=by simpa using em
  have k0:ks=[]:=by
   rw [e0]at y;exact Ju y.symm
  subst k0;refine Qb (h s.heap [] (JI ..) ⟨o,#[],ep,t,U,K,Z,?_,⟨B.plain,B.led⟩,.nil,Ji,fun e W=>by simp at W⟩ (.refl _))
  exact⟨by rw [B.mask];exact B.good,B.dum,by rw [B.place];rfl,by rw [B.place];exact ZU,fun x hx=>by rw [B.place]at hx;simp at hx,by rw [B.place,B.mask];decide,fun q hq=>by rw [B.place]at hq;simp at hq⟩
 ·rw [if_neg em];refine Qa (XF U K Z B (by rw [y];exact hn) fun z o1 a4 j M sb1 l u g B1 hM=>?_);have a2:z.get? a=some oa:=(sb1.2 a (Z4 G)).trans ha;have X1:bQ prog w z f.toList ks:=X.mono fun k b=>TK.keep U Z sb1;refine Qa (QV (s:={ s with heap:=z }) l g (by unfold Uo Uq;rw [B1.place,B1.dum];simp) ?_);dsimp only
  have hf:(j.fill != 0)=false:=by unfold Uq;rw [B1.place,B1.dum];rfl
  have F:f.size<=sizeLine:=by rw [Yo];lia
  unfold SetTable.road;rw [hf,if_neg QB];by_cases c:(j.mask == m.mask && m.dummies.isEmpty)=true
  ·rw [if_pos c];dsimp only;refine Jo (s:={ s with heap:=z }) l g ?_ F;have J:=Ye (ZF f { m with finger:=j.finger,led:=j.led && m.led,moves:=j.moves,plain:=j.plain && m.plain }) l (by rw [Jr _ _ g];rfl);rw [Jr _ _ g]at J;have sb2:=Q8 z r (ZF f { m with finger:=j.finger,led:=j.led && m.led,moves:=j.moves,plain:=j.plain && m.plain });refine h _ ks (sb1.trans sb2) ⟨_,_,_,_,J,u,rfl,⟨T.good,T.dum,T.len,T.up,T.le,T.room,T.reach⟩,⟨?_,?_⟩,X1.mono fun k b=>TK.keep l g sb2,H,hV⟩ (.refl _)
   ·show(j.plain && m.plain)=true
    rw [B1.plain,N.1];rfl
   ·show(j.led && m.led)=jC w
    rw [B1.led,N.2,UY]
  ·rw [if_neg c];dsimp only;obtain⟨O,d,r1,R,r3,r4,r5⟩:=HK (hs:=f.map (·.1)) (M:=M) j.finger j.moves (j.led && m.led) (j.plain && m.plain) B1.good (by rw [Jh];exact hM)
   have I:∀ i∈d.toList,i<f.toList.length:=fun i hi=>by
    have:=QU.mp (R.mem_iff.mp hi)
    simpa using this
   have v:(d.filterMap (f[·]?)).toList=d.toList.filterMap (f.toList[·]?):=by
    rw [JB];congr 1
    funext i
    rw [QI]
   have p:Zk (d.filterMap (f[·]?)).toList f.toList:=by
    rw [JB]
    refine(R.filterMap _).trans ?_
    rw [Jh,filterMap_getElem?_range]
   have n:(d.filterMap (f[·]?)).size=f.size:=by rw [<- Qh,p.length_eq,Qh]
   rw [B1.mask,r1];refine Qa ?_
   show J3 _ _ (if((d.filterMap (f[·]?)).size != f.size)=true then _ else pure (d.filterMap (f[·]?),O)) _ _ _
   rw [if_neg (by simp [n])];refine Qb ?_;dsimp only;refine Jo (s:={ s with heap:=z }) l g ?_ (by rw [n];exact F);have J:=Ye (ZF (d.filterMap (f[·]?)) O) l (by rw [Jr _ _ g];rfl);rw [Jr _ _ g]at J;have sb2:=Q8 z r (ZF (d.filterMap (f[·]?)) O)
   have kp:Zk (d.toList.filterMap (ks[·]?)) ks:=by
    refine(R.filterMap _).trans ?_
    rw [Jh,<- Qh,X.length,Y7]
   refine h _ (d.toList.filterMap (ks[·]?)) (sb1.trans sb2) ⟨_,_,_,_,J,u,rfl,?_,⟨by rw [r5,B1.plain,N.1];rfl,by rw [r4,B1.led,N.2,UY]⟩,?_,kp.nodup_iff.mpr H,fun e W=>hV e (p.mem_iff.mp W)⟩ kp
   ·rw [v,AG _ _ I]
    simpa using r3
   ·rw [v]
    exact(X1.pick _ I).mono fun k b=>TK.keep l g sb2
theorem x9(b:s.TypeIs (.ref a) "set")(h:Q true s):J3 (J4 prog w) A (Uc (.ref a)) Q E s:=by
 unfold Uc orM;refine Qa (Jc b sub_set_self ?_);exact Qb h
theorem base_of(b:s.TypeIs (.ref a) "set")(h:Q (.type "set") s):J3 (J4 prog w) A (Builtin.Frozenset.baseOf a) Q E s:=by
 unfold Builtin.Frozenset.baseOf;refine Qa (Jc b sub_set_self ?_);rw [if_pos rfl];exact Qb h
theorem xM(b:s.heap.get? a=some o)(d:o.data=.set es ep t)(c:t.fits es.size=true)(h:Q es.size s):J3 (J4 prog w) A (Ur a) Q E s:=by
 unfold Ur;exact Qa (JS b d c (Qb h))
theorem Sy(S:cK prog w V s.heap a ks)(m:ks.length<=75)
  (h:∀ h' ks',(∀ b o,s.heap.get? b=some o->h'.get? b=some o)->cK prog w V h' s.heap.objs.size ks'->Zk ks' ks->Q (.ref s.heap.objs.size) { s with heap:=h' }):J3 (J4 prog w) A (Builtin.Frozenset.copyOf a) Q E s:=by
 obtain⟨j,y,q,u,f,c,n,T,v,X,l,x⟩:=id S;have p:s.TypeIs (.ref a) "set":=⟨j,f,c.1⟩;have k:=Qu f;unfold Builtin.Frozenset.copyOf;refine Qa (base_of p (Qa (Hh ?_)));refine Qa (Qb ?_);have t:cK prog w V (s.heap.push (tH w)) a ks:=S.moved fun b o e _=>Qe _ e;refine Qa (Tj (s:={ s with heap:=s.heap.push (tH w) }) (r:=s.heap.objs.size) (Jv k) (Qz _ rfl) ⟨rfl,rfl,rfl⟩ rfl ⟨.inl rfl,rfl,rfl,rfl,rfl,rfl⟩ t m fun h' ks' g d i=>?_);exact Qb (h h' ks' (fun b o e=>(g.2 b (QG (Qu e))).trans (Qe _ e)) d i)
theorem Ku(S:iF w s.heap a o es ep t)(h:Q (gH w a ep es) s):
  J3 (J4 prog w) A (setWalkUnseen a others filled) Q E s:=by
 unfold setWalkUnseen;refine Qa (QV S.get S.data S.fits ?_);dsimp only;refine Qa (v9 ?_)
 have c:(w.params.followText "set-order" || (t.led && t.plain) || decide (es.size<=1))=true:=by
  rw [S.led,S.plain,jC]
  cases w.params.followText "set-order" <;> rfl
 rw [c,if_pos rfl];exact Kt S h
theorem wN{id:String}{a:YP}{o:Obj}{es:Array (Int × JZ)}{ep:Nat}{t:SetTable}{Q:Unit->J0->Prop}(b:s.heap.get? a=some o)(d:o.data=.set es ep t)(c:t.fits es.size=true)(h:Q () s):J3 (J4 prog w) A (Builtin.Frozenset.unchanged id a ep) Q E s:=by
 unfold Builtin.Frozenset.unchanged setEpoch;refine Qa (Qa (QV b d c (Qb ?_)));rw [if_neg (by simp)];exact Qb h
theorem cK.setAt(S:cK prog w V h a ks):∃ o es ep t,iF w h a o es ep t/\fV t (es.toList.map (·.1))/\bQ prog w h es.toList ks/\∀ e∈es.toList,V e.2:=by
 obtain⟨o,es,ep,t,j,i,g,b,c,f,k,d⟩:=S
 exact⟨o,es,ep,t,⟨j,i,g,b.fits (by simp),b.up,c.1,c.2⟩,b,f,d⟩
structure LA(prog:J5)(w:J6)(V:JZ->Prop)(s:J0)(ka kb:List (List Int))(rest:List (Int × JZ))(s':J0)(h':Heap)(kc kd krest:List (List Int)):Prop where
 eq:s'={ s with heap:=h' }
 kp:∀ b o,s.heap.get? b=some o->h'.get? b=some o
 SC:mO prog w V h' s.heap.objs.size kc
 Xr:bQ prog w s.heap rest krest
 pk:Zk (kd++krest) kb
 lc:kc.length<=63
 me:∀ k,k∈kc ↔ k∈ka/\k∉kd
structure LB(prog:J5)(w:J6)(V:JZ->Prop)(s:J0)(ka kb:List (List Int))(rest:List (Int × JZ))(s':J0)(h':Heap)(kr kd krest:List (List Int)):Prop where
 eq:s'={ s with heap:=h' }
 kp:∀ b o,s.heap.get? b=some o->h'.get? b=some o
 SR:cK prog w V h' s.heap.objs.size kr
 Xr:bQ prog w s.heap rest krest
 pk:Zk (kd++krest) ka
 me:∀ k,k∈kr ↔ k∈kd/\k∉kb
 vr:∀ e∈rest,V e.2
theorem RQ{id:String}{a b:YP}{ka kb:List (List Int)}{Q:JZ->J0->Prop}(b2:a≠b)(hu:A.units<Zf)(SA:cK prog w V s.heap a ka)(SB:cK prog w V s.heap b kb)(a5:ka.length<=63)
  (h:∀ h' r ks,s.heap.objs.size<=r->(∀ b o,s.heap.get? b=some o->h'.get? b=some o)->mO prog w V h' r ks->(∀ k,k∈ks ↔ k∈ka/\k∉kb)->Q (.ref r) { s with heap:=h' }):
  J3 (J4 prog w) A (Builtin.Frozenset.difference id a (.ref b)) Q E s:=by
 obtain⟨oa,ea,pa,ta,Sa,Ta,Xa,Va⟩:=SA.setAt;obtain⟨ob,eb,pb,tb,Sb,Tb,Xb,Vb⟩:=SB.setAt;have a8:s.TypeIs (.ref a) "set":=⟨oa,Sa.get,Sa.ex.1⟩;have a7:s.TypeIs (.ref b) "set":=⟨ob,Sb.get,Sb.ex.1⟩;have a2:=SA.nodup;unfold Builtin.Frozenset.difference;refine Qa (x9 a7 ?_);simp only [Ys,Qm,if_false,Vl];unfold ZZ;refine Qa (Qb ?_);simp only [if_true];refine Qa (xM Sb.get Sb.data Sb.fits ?_);refine Qa (xM Sa.get Sa.data Sa.fits ?_);by_cases c:ea.size / 4 > eb.size
 ·rw [if_pos c];refine Qa (Jg ?_);refine Qa (Sy SA (by lia) fun N G S SR pr=>?_);have lb:=Qu Sb.get;have Sb1:=Sb.at (S _ _ Sb.get);have Y:({ s with heap:=N }:J0).TypeIs (.ref b) "set":=⟨ob,Sb1.get,Sb.ex.1⟩;refine Qa (Qb ?_);refine Qa (Yb ?_);unfold Builtin.Frozenset.differenceUpdate;rw [if_neg (by simpa using QG lb)];refine Qa (x9 Y ?_);rw [if_pos rfl];unfold ZZ;refine Qa (Qb ?_);refine Qa (xM (s:={ s with heap:=N }) Sb1.get Sb1.data Sb1.fits ?_);obtain⟨oR,eR,pR,tR,SatR,TR,XR,VR⟩:=SR.setAt;refine Qa (xM (s:={ s with heap:=N }) SatR.get SatR.data SatR.fits ?_)
  have a9:eR.size=ea.size:=by rw [<- Qh,XR.length,pr.length_eq,<- Xa.length,Qh]
  rw [if_neg (by lia)];dsimp only;refine Qa (wpAny_setEpoch_of (s:={ s with heap:=N }) Sb1.get Sb1.data Sb1.fits ?_);refine Qa (Yb (Qa (Ku (s:={ s with heap:=N }) Sb1 ?_)));obtain⟨ko,Xo,po⟩:=Xb.perm (qQ w b pb eb).symm;rw [<- Ux];refine Qa (YY _ (fun g _ J=>∃ h' kc kd d,LA prog w V s ka kb g J h' kc kd d) _ ?_ ?_ _ _ ?_)
  ·rintro x g _ J ⟨h',kc,kd,d,rfl,m,O,u,B,lc,mk⟩
   cases u with
   | @cons k bx _ d W u=>
    have H:TK prog w h' k bx:=W.at fun o e=>m bx o e
    have y:Zk ((kd++[k])++d) kb:=by rw [QD];exact B
    dsimp only;refine Qa (Yb (RS (s:={ s with heap:=h' }) hu O H (fun hn=>?_) (fun j kc2 R S2 F=>?_) (by lia)))
    ·have Sb2:=Sb.at (m _ _ Sb.get);refine Qa (wN (s:={ s with heap:=h' }) Sb2.get Sb2.data Sb2.fits (Qb ?_))
     refine⟨h',kc,kd++[k],d,rfl,m,O,u,y,lc,fun v=>?_⟩
     rw [mk v,QA,Qp];constructor
     ·rintro⟨f,l⟩
      exact⟨f,fun z=>z.elim l fun z=>hn (z ▸ (mk v).mpr ⟨f,l⟩)⟩
     ·rintro⟨f,l⟩
      exact⟨f,fun z=>l (.inl z)⟩
    ·have p:∀ b o,s.heap.get? b=some o->j.get? b=some o:=fun b o e=>(R.2 b (QG (Qu e))).trans (m b o e);have Sb2:=Sb.at (p _ _ Sb.get);refine Qa (wN (s:={ s with heap:=j }) Sb2.get Sb2.data Sb2.fits (Qb ?_))
     have nd:(k::kc2).Nodup:=by
      obtain⟨_,_,_,_,_,_,_,_,_,_,z7,_⟩:=O;exact F.nodup_iff.mp z7
     have ll:=F.length_eq;rw [Qt]at ll
     refine⟨j,kc2,kd++[k],d,rfl,p,S2,u,y,by lia,fun v=>?_⟩
     rw [QA,Qp]
     have m1:v∈kc ↔ v=k ∨ v∈kc2:=by rw [F.mem_iff,Qq]
     constructor
     ·intro hx
      have:=(mk v).mp (m1.mpr (.inr hx))
      exact⟨this.1,fun z=>z.elim this.2 fun z=>(Yp.mp nd).1 (z ▸ hx)⟩
     ·rintro⟨f,l⟩
      rcases m1.mp ((mk v).mpr ⟨f,fun z=>l (.inl z)⟩)with z | z
      ·exact absurd (.inr z) l
      ·exact z
  ·rintro _ J ⟨h',kc,kd,d,rfl,m,O,u,B,lc,mk⟩;cases u;rw [QP]at B;refine Qb ?_
   have fin:∀ j kc2,(∀ b o,s.heap.get? b=some o->j.get? b=some o)->mO prog w V j s.heap.objs.size kc2->Zk kc2 kc->J3 (J4 prog w) A (pure (Zb s.heap.objs.size)) Q E { s with heap:=j }:=fun j kc2 p S2 F=>
    Qb (h j _ kc2 (Qk _) p S2 fun k=>by rw [F.mem_iff,mk k,B.mem_iff])
   obtain⟨o,es,ep,t,ho,a6,hd,T,hp,X,a4,hV⟩:=_root_.id O;have I:t.fits es.size=true:=T.fits (by simp)
   have b0:es.size=kc.length:=by rw [<- X.length,Qh]
   unfold setTidy;refine Qa (QV (s:={ s with heap:=h' }) ho hd I ?_);dsimp only;by_cases td:t.tooManyDummies=true
   ·rw [if_pos td];obtain⟨M,m1,m2,m3,m4⟩:=zSw (n:=es.size) (by lia);refine Ig (s:={ s with heap:=h' }) (V:=V) ho a6 hd I hp X a4 hV m1 m2 m3 m4 (by rw [Yo];lia) fun j kc2 R S2 F=>?_;exact fin j kc2 (fun b o e=>(R.2 b (QG (Qu e))).trans (m b o e)) S2.toD F
   ·rw [if_neg td];exact Qb (fin h' kc m O (.refl _))
  ·exact⟨N,G,[],ko,rfl,S,SR.toD,Xo,po,by rw [pr.length_eq];exact a5,fun k=>by rw [pr.mem_iff];simp⟩
 ·rw [if_neg c];refine Qa (base_of a8 (Qa (Hh ?_)));refine Qa (Qb ?_);have U:∀ b o,s.heap.get? b=some o->(s.heap.push (tH w)).get? b=some o:=fun b o e=>Qe _ e;have Sa0:=Sa.at (U _ _ Sa.get);refine Qa (wpAny_setEpoch_of Sa0.get Sa0.data Sa0.fits ?_);refine Qa (Yb (Qa (Ku (s:={ s with heap:=s.heap.push (tH w) }) Sa0 ?_)));obtain⟨ko,Xo,po⟩:=Xa.perm (qQ w a pa ea).symm;rw [<- Ux];refine Qa (YY _ (fun g _ J=>∃ h' G kd d,LB prog w V s ka kb g J h' G kd d) _ ?_ ?_ _ _ ?_)
  ·rintro x g _ J ⟨h',G,kd,d,rfl,m,SR,u,B,mk,Z⟩
   cases u with
   | @cons k bx _ d W u=>
    have H:TK prog w h' k bx:=W.at fun o e=>m bx o e;have Sb':=Sb.at (m _ _ Sb.get);have Sa':=Sa.at (m _ _ Sa.get)
    have a0:k∉kd:=by
     have:=B.nodup_iff.mpr a2
     have:=List.perm_middle.nodup_iff.mp this
     exact fun hh=>(Yp.mp this).1 (QL _ hh)
    have y:Zk ((kd++[k])++d) ka:=by rw [QD];exact B
    refine Qa (Yb (Qa (GK (s:={ s with heap:=h' }) hu Sb'.get Sb'.data Tb.toD (Xb.mono fun k b x=>x.at fun o e=>m b o e) H (fun i hi=>?_) fun hn=>?_)))
    ·refine Qa (Qb ?_);simp only [Option.isSome_some,Ys,Qm,if_false];refine Qb ?_;refine Qa (wN (s:={ s with heap:=h' }) Sa'.get Sa'.data Sa'.fits (Qb ?_))
     refine⟨h',G,kd++[k],d,rfl,m,SR,u,y,fun v=>?_,fun e K=>Z e (Qf _ K)⟩
     rw [mk v,QA,Qp];constructor
     ·rintro⟨f,l⟩;exact⟨.inl f,l⟩
     ·rintro⟨f | f,l⟩
      ·exact⟨f,l⟩
      ·exact absurd (f ▸ QO hi) l
    ·refine Qa (Qb ?_);simp only [Option.isSome_none,UF,if_true]
     have lk:G.length<=63:=by
      have N:G.length<=kd.length:=YC SR.nodup fun k W=>((mk k).mp W).1;have j:=B.length_eq;rw [Qj]at j;lia
     refine Qa (Er (s:={ s with heap:=h' }) hu SR H (Z _ Qg) (by lia) (fun hm=>absurd ((mk k).mp hm).1 a0) fun _ j a3 R S2 F=>?_);have p:∀ b o,s.heap.get? b=some o->j.get? b=some o:=fun b o e=>(R.2 b (QG (Qu e))).trans (m b o e);have Sa2:=Sa.at (p _ _ Sa.get);refine Qb (Qa (wN (s:={ s with heap:=j }) Sa2.get Sa2.data Sa2.fits (Qb ?_)))
     refine⟨j,a3,kd++[k],d,rfl,p,S2,u,y,fun v=>?_,fun e K=>Z e (Qf _ K)⟩
     rw [F.mem_iff,Qq,mk v,QA,Qp];constructor
     ·rintro(f | ⟨f,l⟩)
      ·exact⟨.inr f,f ▸ hn⟩
      ·exact⟨.inl f,l⟩
     ·rintro⟨f | f,l⟩
      ·exact .inr ⟨f,l⟩
      ·exact .inl f
  ·rintro _ J ⟨h',G,kd,d,rfl,m,SR,u,B,mk,Z⟩;cases u;rw [QP]at B;refine Qb (Qb (h h' _ G (Qk _) m SR.toD fun k=>?_));rw [mk k,B.mem_iff]
  ·refine⟨_,[],[],ko,rfl,U,⟨_,#[],0,_,Qz _ rfl,⟨rfl,rfl,rfl⟩,rfl,⟨.inl rfl,rfl,rfl,ZU,fun x hx=>by simp [SetTable.fresh]at hx,(by show 0 * 5<7 * 3;decide),fun q hq=>by simp at hq⟩,⟨rfl,rfl⟩,.nil,Ji,fun e K=>by simp at K⟩,Xo,po,fun k=>by simp,fun e K=>Va e ((qQ w a pa ea).mem_iff.mp K)⟩
theorem zSp(f:a≠b)(t:A.units+8<Zf)(SA:cK prog w V s.heap a ka)(SB:cK prog w V s.heap b kb)(e:ka.length<=63)
  (h:∀ h' r ks,s.heap.objs.size<=r->(∀ b o,s.heap.get? b=some o->h'.get? b=some o)->mO prog w V h' r ks->(∀ k,k∈ks ↔ k∈ka/\k∉kb)->Q (.ref r) { s with heap:=h' }):
  J3 (J4 prog w) A (ZD .Sub (.ref a) (.ref b)) Q E s:=by
 obtain⟨i,v,q,n,Sa,I,y,G⟩:=SA.setAt;obtain⟨g,u,p,m,Sb,H,x,B⟩:=SB.setAt;have c:s.TypeIs (.ref a) "set":=⟨i,Sa.get,Sa.ex.1⟩;have d:s.TypeIs (.ref b) "set":=⟨g,Sb.get,Sb.ex.1⟩;refine wpAny_binaryOp_same c d PySem.F.fills_set_sub PySem.F.slot_set_sub (Yq PySem.F.slot_set_sub c PySem.F.set_sub_entry ?_ (PySem.F.args_set_sub_2 _ _));unfold Builtin.«frozenset.__sub__»
 wp_delta
 refine Qa (U2 (a:=(Zb a,Zb b)) (by rfl) ?_);simp only [Qm,if_false];refine Qa ?_;unfold andM;refine Qa (x9 c ?_)
 show J3 _ _ (Uc (.ref b)) _ _ _
 refine x9 d ?_;simp only [Ys,Qm,if_false];unfold ZZ;refine Qa (Qb (Qa (RQ f (by show A.units+1<Zf;lia) SA SB e fun h' r ks l j S mk=>?_)));exact Qb ⟨_,rfl,(fun z=>nomatch z),h h' r ks l j S mk⟩
end
end ST
namespace SL
open PySem.Spec L2 CL DL SD ST
def AK(g1 b:aA->Option (List (List Int))):aA->Option (List (List Int)):=fun a=>(g1 a).bind fun x=>(b a).bind fun y=>if x.length<=63 then some (x.filter fun k => !y.contains k)else none
section
variable {X:Cx}{a b:Expr}{pos:Pos}{g1 g2:aA->Option (List (List Int))}
theorem bQ.carry(f:Inv X pins σ H1 s1)(d:Inv X pins' σ' H2 s2)(a:eI H1 H2):∀{es:List (Int × JZ)}{ks:List (List Int)},bQ X.prog X.w s1.heap es ks->(∀ e∈es,VT X.K H1 e.2)->bQ X.prog X.w s2.heap es ks
 | _,_,.nil,_=>.nil
 | _,_,.cons (k:=k) (b:=bx) h1 r,hv=>by
  obtain⟨i,xs,h,c⟩:=hv _ Qg;cases h
  have:k=xs:=h1.unique (iM f c)
  subst this;exact .cons (iM d (eI.sqT a c)) (bQ.carry f d a r fun e g=>hv e (Qf _ g))
theorem R0(hc:X.calm=true)(hu:X.A.units+66<Zf)(ha:yW X a g1)(hb:yW X b g2):CK X (.BinOp a .Sub b pos) (AK g1 g2):=by
 intro d s l H Q I ⟨F,i,ρ,kl,S,q,k⟩;obtain⟨x,e1,q⟩:=aF q;obtain⟨y,e2,q⟩:=aF q;by_cases c:x.length<=63
 ·rw [if_pos c]at q;cases q;refine wpAny_BinOp (aT (ha d s l H (fun f n=>f.Nodup/\(∀ k,k∈f ↔ k∈x)/\∃ j,aI F j H n) I ⟨F,i,ρ,x,S,e1,fun j n f E1 n1 O=>⟨n1,O,j,E1⟩⟩) fun u s1 R=>?_);obtain⟨a1,o1,ka,n,eu,I1,S1,_,_,O,j,E1⟩:=R;refine aT (hb ((a1,o1)::d) s1 l n (fun f g=>f.Nodup/\(∀ k,k∈f ↔ k∈y)/\∃ z,aI j z n g) I1 ⟨j,i,ρ,y,S.ext E1,e2,fun z g f E2 n2 W=>⟨n2,W,z,E2⟩⟩) fun v s2 R=>?_;obtain⟨a2,o2,kb,g,ev,I2,S2,ap,_,W,z,E2⟩:=R;subst eu;subst ev;have g1:s2.heap.get? a1=some o1:=(I2.pin (a1,o1) (Qw _ (Qf _ Qg))).1;have Z:a1≠a2:=ap (a1,o1) Qg
  have SA:cK X.prog X.w (VT X.K g) s2.heap a1 ka:=by
   obtain⟨o,es,ep,t,N,U,M,J,G,T,E,B⟩:=S1
   have:s1.heap.get? a1=some o1:=(I1.pin (a1,o1) (Qw _ Qg)).1
   rw [N]at this;cases this
   exact⟨_,es,ep,t,g1,U,M,J,G,bQ.carry I1 I2 E2.same T B,E,fun e he=>by
    obtain⟨b',xs,e1,e2⟩:=B e he
    exact⟨b',xs,e1,eI.sqT E2.same e2⟩⟩
  refine zSp Z (by lia) SA S2 ?_ fun h' r f Y kp SD mk=>?_
  ·have:ka.length<=x.length:=YC SA.nodup fun k h=>(O k).mp h
   lia
  ·obtain⟨o,es,ep,t,N,U,M,J,G,T,E,B⟩:=SD;have I3:Inv X d l g s2:=I2.pins_of fun p m=>I2.pin p (Qw _ (Qf _ (Qf _ m)));have I4:Inv X d l g { s2 with heap:=h' }:=I3.kept (t':=s2.toks) kp
   have I5:Inv X ((r,o)::d) l g { s2 with heap:=h' }:=by
    refine I4.pins_of fun p m=>?_;rcases Qq.mp m with rfl | m
    ·refine⟨N,I2.hok.fresh Y,Jv (QX I2.lt Y),I2.nofs Y,fun v hv=>?_⟩
     rw [M]at hv;exact nomatch hv
    ·exact I4.pin p (Qw _ m)
   refine⟨r,o,f,g,rfl,I5,⟨es,ep,t,⟨N,U,M,J.fits (by simp),J.up,G.1,G.2⟩,T,E,B⟩,k z g f (E1.trans E2) E fun k=>?_⟩
   rw [mk k,O k,W k,Q9];simp
 ·rw [if_neg c]at q;cases q
end
theorem vU{X:Cx}{d:Zv}:DS X d (fun _=>none):=fun a s e H W I q=>by
 obtain⟨c,b,F,f,o,E,S,q,k⟩:=q;cases q
end SL
namespace DC
theorem WJ:typeLookup (.type "list") "keys"=pure none:=by rw [typeLookup_type,UO];kernel_rfl
section
variable {prog:J5}{w:J6}{A:Around}{E:JZ->J0->Prop}{s:J0}
theorem Tv(l:s.heap.get? a=some o)(n:o.cls=.type "list")(f:o.data=.seq xs k)(m:o.dict=none)(u:A.handled=none)
  (h:∀ h' tk,(∀ b ob,s.heap.get? b=some ob->h'.get? b=some ob)->Q none { s with heap:=h',toks:=tk }):J3 (J4 prog w) A (getAttr? (.ref a) "keys") Q E s:=by
 obtain⟨c,v,dat,q⟩:=o
 simp only at n f m
 subst n f m;obtain⟨t,g,d,tk,r⟩:=s;have p:∀ i,(⟨t,g,d,i,r⟩:J0).TypeIs (.ref a) "list":=fun _=>⟨_,l,rfl⟩;have I:=sub_AttributeError;have H:=F.slot_list_getattribute.lookup;have G:=F.slot_list_getattribute.bind (.ref a);have B:=am_list_getattr_none;unfold getAttr? getAttrBy? getAttrBy
 repeat (any_goals (first | assumption | exact p _ | ((with_reducible show J3 _ _ (call (Value.builtin "list.__getattribute__") _ _) _ _ _);refine call_meets F.slot_list_getattribute (p _) am_entry_list_getattribute (F.args_list_getattribute_2 _ _) (meets_getattribute_miss_list a xs k q "keys" _ WJ (by decide +kernel)) ⟨l,u,fun h' i e j=>?_⟩) | wp_step))
 obtain⟨y,x,z⟩:=j.there
 show J3 _ _ (getattributeRaised _ _ _ _ _ _ _) _ _ _
 unfold getattributeRaised
 repeat (any_goals (first | assumption | wp_step))
 exact h _ _ j.keeps
end
theorem Gz:entryFor table "dict.update.loop"=some Builtin.«dict.update.loop»:=entryFor_of_tree (by kernel_rfl)
theorem xD:plainId "dict.update.loop"=true:=by decide +kernel
section
variable {κ:Type}[DecidableEq κ]
def iW(key:Nat->κ)(b:Nat->YP)(a:Nat->JZ):Nat->List (κ × YP × JZ)
 | 0=>[]
 | i+1=>storedH (iW key b a i) (key i) (b i) (a i)
variable {key:Nat->κ}{kad:Nat->YP}{val:Nat->JZ}
theorem Bk:∀ i,(iW key kad val i).length<=i
 | 0=>Qk _
 | i+1=>by
  have:=Bk i
  unfold iW storedH;split
  ·rw [Qo];lia
  ·rw [Qj,Yd];lia
theorem Bm:∀ i,∀ x∈iW key kad val i,∃ j,j<i/\x.1=key j/\x.2.1=kad j
 | 0,x,h=>nomatch h
 | i+1,x,h=>by
  unfold iW storedH at h
  split at h
  ·obtain⟨y,c,rfl⟩:=QT.mp h;obtain⟨j,d,b,a⟩:=Bm i y c
   refine⟨j,by lia,?_⟩
   unfold putAt;split
   ·exact⟨b,a⟩
   ·exact⟨b,a⟩
  ·rcases QA.mp h with h | h
   ·obtain⟨j,d,e⟩:=Bm i x h
    exact⟨j,by lia,e⟩
   ·rw [Qp]at h;subst h
    exact⟨i,by lia,rfl,rfl⟩
end
section
variable {prog:J5}{w:J6}{κ:Type}[DecidableEq κ]{knd:HeapKind prog w κ}{A:Around}{R:Result->J0->Prop}{I:YP}{fp wr:List YP}{G:Array Vv->Array Vv->Prop}{n:Nat}{Pv:Nat->JZ->Prop}{St:Nat->J0->Prop}
theorem RP(W:WalksS prog w A.in1 I fp wr G n Pv St)(S:YP)(N:S∉fp)(hu:knd.room A.in1)(key:Nat->κ)(a:Nat->YP)(f:Nat->JZ)(r:Heap)(res:JZ)
  (l:∀(h h':Heap) k b,knd.is h k b->(∀ b o,h.get? b=some o->h'.get? b=some o)->knd.is h' k b)
  (g:∀ b o,r.get? b=some o->b≠S/\b∉wr) (F:∀ i v,i<n->Pv i v->∃ b,v=.ref b/\r.IsTuple b #[.ref (a i),f i]) (y:∀ i,i<n->knd.is r (key i) (a i)) (E:n<=1000):
  ∀(k i:Nat) (s:J0) (c:Int) (t:Tok),n-i=k->i<=n->St i s->(∀ b o,r.get? b=some o->s.heap.get? b=some o)->
   s.heap.DictOfH knd S (iW key a f i)->
   (∀ s',Moved (S::wr) G s s'->(∀ b o,r.get? b=some o->s'.heap.get? b=some o)->s'.heap.DictOfH knd S (iW key a f n)->R (.ok (.ret res)) s')->
   Ud (J4 prog w) A (.builtin "dict.update.loop" ⟨[.ref S,.ref I,.int c t,res],[]⟩) R s:=by
 have a7:S∉wr:=fun h=>N (W.sub _ h);have u:∀ b∈wr,b∈S::wr:=fun b E=>Qf _ E
 have K:∀(s s':J0) i,i<=n->Moved wr G s s'->(∀ b o,r.get? b=some o->s'.heap.get? b=some o)->s.heap.DictOfH knd S (iW key a f i)->s'.heap.DictOfH knd S (iW key a f i):=fun s s' i hi p X Q=>by
  obtain⟨o,es,ep,ho,a3,hd,he,a9,Z⟩:=Q
  refine⟨o,es,ep,p.heap S _ a7 ho,a3,hd,he,fun x hx=>?_,Z⟩
  obtain⟨j,hj,e1,e2⟩:=Bm i x hx;rw [e1,e2];exact l _ _ _ _ (y j (by lia)) X
 intro k
 induction k with
 | zero=>
  intro i s c t hk hi z X Q hR
  have a2:i=n:=by lia
  subst a2;refine YM Gz ?_;rw [YB xD _]
  show J3 _ A.in1 (Uh (.ref I) >>= _) _ _ s
  refine Qa (W.done s _ _ z fun s' p=>?_)
  show J3 _ A.in1 (Builtin.Dict.addKeywords S [] >>= fun _=>ret res) _ _ s'
  have d:∀ b o,r.get? b=some o->s'.heap.get? b=some o:=fun b o e=>p.heap b o (g b o e).2 (X b o e);exact Qa (Qb (Qb (hR s' (p.mono u) d (K s s' i (Qk _) p d Q))))
 | succ k ih=>
  intro i s c t hk hi z X Q hR
  have q:i<n:=by lia
  refine YM Gz ?_;rw [YB xD _]
  show J3 _ A.in1 (Uh (.ref I) >>= _) _ _ s
  refine Qa (W.item i s _ _ q z fun v s' hP H p=>?_);obtain⟨b,rfl,ot,J,a6,nt,a4⟩:=F i v q hP;have d:∀ b o,r.get? b=some o->s'.heap.get? b=some o:=fun b o e=>p.heap b o (g b o e).2 (X b o e);have a8:=K s s' i (by lia) p d Q;have a0:knd.is s'.heap (key i) (a i):=l _ _ _ _ (y i q) d;refine Qa (Yb (Qa (UL ?_)));unfold Builtin.Dict.pairItems;refine Qa (Y1 (T:="tuple") ⟨ot,d _ _ J,a6⟩ ?_);rw [if_pos (by decide)];refine Qa (JL (d _ _ J) a4 (Qb ?_))
  show J3 _ A.in1 (UB [Zb (a i),f i] (dictSet S (.ref (a i)) (f i))) _ _ s'
  refine Yb (wpAny_dictSet_heap hu a0 a8 (fun h' a5 B=>?_) (QH (Bk i) (by rw [sizeLine];lia)))
  have m:Moved (S::wr) G s { s' with heap:=h',toks:=s'.toks+knd.draws (key i) }:=
   (p.mono u).then_heap (Yg _ _) fun b o E e=>by rw [B.2 b (fun h:b=S=>E (by rw [h];exact Qg))];exact e
  refine Qb ⟨Ja xD _,ih (i+1) _ (c+1) 0 (by lia) q (W.frame _ s' _ _ H (Yg _ _) fun b E o e=>?_) (fun b o e=>?_) a5 fun Y M U O=>?_⟩
  ·rw [B.2 b (fun h:b=S=>N (by rw [<- h];exact E))];exact e
  ·show h'.get? b=some o
   rw [B.2 b (g b o e).1];exact d b o e
  ·exact hR Y (Moved.trans W.gtrans m M) U O
end
section
variable {prog:J5}{w:J6}{κ:Type}[DecidableEq κ]{knd:HeapKind prog w κ}{A:Around}{E:JZ->J0->Prop}{s:J0}
theorem P1(key:Nat->κ)(f:Nat->YP)(m:Nat->JZ)
  (p:∀(h h':Heap) k b,knd.is h k b->(∀ b o,h.get? b=some o->h'.get? b=some o)->knd.is h' k b)
  (N:A.handled=none) (Y:∀ B:Around,B.units<=A.units+8->knd.room B) (S:s.heap.get? l=some { cls:=.type "list",dict:=none,data:=.seq items nl,slots:=sl })
  (hi:∀ i v,items[i]?=some v->∃ b,v=.ref b/\s.heap.IsTuple b #[.ref (f i),m i]) (Z:∀ i,i<items.size->knd.is s.heap (key i) (f i)) (hb:items.size<=1000)
  (h:∀(h':Heap) (tk:Nat),h'.DictOfH knd s.heap.objs.size (iW key f m items.size)->(∀ b o,s.heap.get? b=some o->h'.get? b=some o)->Q (.ref s.heap.objs.size) { s with heap:=h',toks:=tk }):
  J3 (J4 prog w) A (call (.type "dict") [.ref l]) Q E s:=by
 refine callType_codes (Q₁:=fun u g=>u=.ref s.heap.objs.size/\g={ s with heap:=s.heap.push { cls:=.type "dict",data:=.dict #[] } }) F.kt_called_dict (F.kt_typeCall_dict_1 _) F.entry_dict_init (kt_code_dict_new _ ⟨rfl,rfl⟩) ?_;rintro u g ⟨rfl,rfl⟩;have j:(s.heap.push { cls:=.type "dict",data:=.dict #[] }).DictOfH knd s.heap.objs.size []:=Heap.DictOfH.new s.heap;have r:(s.heap.push { cls:=.type "dict",data:=.dict #[] }).get? l=some { cls:=.type "list",dict:=none,data:=.seq items nl,slots:=sl }:=Qe _ S
 refine⟨j.typeIs,F.args_dict_init_2 _ _,?_⟩
 unfold Builtin.«dict.__init__»;refine Qa ?_;unfold Builtin.Dict.selfAndRest;refine Qa (UQ j.typeIs ?_)
 show J3 _ _ (pure (s.heap.objs.size,[Zb l])) _ _ _
 refine Qb ?_
 show J3 _ _ (Z2 "dict.__init__" s.heap.objs.size (.ref l) [] .none) _ _ _
 unfold Z2;refine Qa (Y1 (T:="list") ⟨_,r,rfl⟩ ?_);rw [if_pos (by decide)];refine Qa (Tv r rfl rfl rfl (by first | exact N | simp [N]) fun a n c=>?_);rw [if_pos (by decide)];have G:a.IsList l items:=⟨_,c _ _ r,rfl,nl,rfl⟩;refine Qa (Jg (Qa (Jn (s:={ s with heap:=a,toks:=n }) G ?_)));refine Qb ⟨Ja xD _,?_⟩;have H:a.get? s.heap.objs.size=some { cls:=.type "dict",data:=.dict #[] }:=c _ _ (Qz _ rfl);have d:s.heap.objs.size<a.objs.size:=Qu H;have z:l<s.heap.objs.size:=Qu S;have x:l≠a.objs.size:=QG (Vi z d)
 have M:A.in1.in1.handled=none:=by simp [N]
 have t:∀ b o,s.heap.get? b=some o->(a.push { cls:=Z3 "list_iterator",data:=Data.fields #[Zb l,Vk 0 0] }).get? b=some o:=fun b o e=>
  Qe _ (c b o (Qe _ e))
 refine RP (knd:=knd) ((Walks.list M a.objs.size l x items).toS) s.heap.objs.size ?hSf (Y _ (by show A.units+1+1<=_;lia)) key f m s.heap .none p ?hold (fun i v _ X=>hi i v X) (fun i K=>Z i K) hb (items.size-0) 0 _ 0 0 (by lia) (Q2 _)
  ⟨⟨_,Qz _ rfl,rfl,rfl⟩,G.push _⟩ t ?hS0 ?hR
 case hSf=>
  simp only [Qq,Qp,JP,or_false,not_or]
  exact⟨QG d,Jv z⟩
 case hold=>
  intro b o e;have q:b<s.heap.objs.size:=Qu e
  refine⟨QG q,fun y=>?_⟩
  have O:b=a.objs.size:=Qp.mp y;rw [O]at q;exact absurd (Vi q d) (Y0 _)
 case hS0=>exact⟨_,#[],0,Qe _ H,⟨rfl,rfl,rfl⟩,rfl,rfl,fun _ W=>by simp [iW]at W,Ji⟩
 case hR=>
  intro U y h0 R;obtain⟨h',g',d',I,J⟩:=U;have eg:g'=s.gens:=y.gens;have ed:d'=s.drawn:=y.drawn;have eo:J=s.os:=y.os;subst eg;subst ed;subst eo
  exact⟨rfl,h h' I R h0⟩
end
end DC
namespace DC
open PySem.Spec L2 DL ST SL
def cL:D->Option (List Int)
 | .tuple a=>dR a
 | _=>none
theorem Ht:∀ ks:List Int,dR (ks.map J9)=some ks
 | []=>rfl
 | k::ks=>by show(dR (ks.map J9)).bind _=_;rw [Ht ks];rfl
theorem Bu(ks:List Int):cL (gF ks)=some ks:=Ht ks
theorem vR{K:PySem.W.Frag}{H:Hp}{k:eH}{b:YP}{ks:List Int}(h:oD K H k b):cL (jA k)=some ks ↔ k=.inl ks:=by
 cases k with
 | inl c=>
  show cL (gF c)=some ks ↔ _
  rw [Bu];constructor
  ·intro e;cases e;rfl
  ·intro e;cases e;rfl
 | inr a=>
  obtain⟨n,_⟩:=h
  cases a with
  | nil=>exact absurd rfl n
  | cons x d=>
   constructor
   ·intro e;cases e
   ·intro e;cases e
theorem nY{K:PySem.W.Frag}{F:YP->Prop}{H:Hp}{d:D}{v:V}{c:List Int}(r:aO K F H d v)(h:cL d=some c):∃ b,v=.ref b/\bJ K H b (c.map V.int):=by
 cases r with
 | @tup a vs ds h1 r1=>
  rw [Hv r1 (show dR ds=some c from h)]at h1
  exact⟨a,rfl,h1⟩
 | _=>cases h
def eZ(a:List (D × D))(k:List Int):Bool:=a.any fun p=>cL p.1 == some k
def getD(a:List (D × D))(k:List Int):Option D:=(a.find? fun p=>cL p.1 == some k).map (·.2)
def gI(a:List (D × D))(k:List Int)(v:D):List (D × D):=if eZ a k=true then a.map fun p=>if(cL p.1 == some k)=true then(p.1,v)else p else a++[(gF k,v)]
abbrev cT:=eH × YP × V
def mZ(es:List cT)(k:List Int):Bool:=es.any fun e=>decide (e.1=.inl k)
def jD(es:List cT)(k:List Int)(b:YP)(v:V):List cT:=if mZ es k=true then es.map fun e=>if e.1=.inl k then(e.1,e.2.1,v)else e else es++[(.inl k,b,v)]
theorem xK{K:PySem.W.Frag}{H:Hp}{k:eH}{b:YP}{a:List Int}(h:oD K H k b):(cL (jA k) == some a)=decide (k=.inl a):=by
 by_cases c:k=.inl a
 ·rw [decide_eq_true c,(vR h).mpr c,beq_self_eq_true]
 ·rw [decide_eq_false c];exact beq_eq_false_iff_ne.mpr fun e=>c ((vR h).mp e)
section
variable {K:PySem.W.Frag}{F:YP->Prop}{H:Hp}
theorem DReps.has:∀{kvs:List (D × D)}{es:List cT} (k:List Int),DReps K F H kvs es->eZ kvs k=mZ es k
 | _,_,_,.nil=>rfl
 | _,_,k,.cons h r t=>by
  have:=DReps.has k t
  unfold eZ mZ at this ⊢;rw [JD,JD,this,xK h]
theorem DReps.append:∀{kvs kvs':List (D × D)}{es es':List cT},DReps K F H kvs es->DReps K F H kvs' es'->DReps K F H (kvs++kvs') (es++es')
 | _,_,_,_,.nil,s=>s
 | _,_,_,_,.cons h r t,s=>.cons h r (DReps.append t s)
theorem DReps.repl{k:List Int}{d:D}{v:V}(a:aO K F H d v):∀{kvs:List (D × D)}{es:List cT},DReps K F H kvs es->
  DReps K F H (kvs.map fun p=>if(cL p.1 == some k)=true then(p.1,d)else p) (es.map fun e=>if e.1=.inl k then(e.1,e.2.1,v)else e)
 | _,_,.nil=>.nil
 | _,_,@DReps.cons _ _ _ k' b d' v' _ _ h r t=>by
  rw [Qs,Qs];by_cases c:k'=.inl k
  ·rw [if_pos (by rw [xK h,decide_eq_true c]),if_pos c];exact .cons h a (DReps.repl a t)
  ·rw [if_neg (by rw [xK h,decide_eq_false c];decide),if_neg c];exact .cons h r (DReps.repl a t)
theorem DReps.put(t:DReps K F H kvs es)(e:bJ K H b (k.map V.int))(a:aO K F H d v):DReps K F H (gI kvs k d) (jD es k b v):=by
 unfold gI jD;rw [DReps.has k t];by_cases c:mZ es k=true
 ·rw [if_pos c,if_pos c];exact DReps.repl a t
 ·rw [if_neg c,if_neg c];exact DReps.append t (.cons (k:=.inl k) e a .nil)
theorem DReps.get:∀{kvs:List (D × D)}{es:List cT} (k:List Int) {d:D},DReps K F H kvs es->getD kvs k=some d->∃ b v,(es.find? fun e=>decide (e.1=.inl k))=some (.inl k,b,v)/\aO K F H d v
 | _,_,_,_,.nil,h=>by cases h
 | _,_,k,d,@DReps.cons _ _ _ k' b d' v' _ _ h r t,e=>by
  unfold getD at e;rw [Y6]at e;rw [Y6,xK h]at *;by_cases c:k'=.inl k
  ·rw [decide_eq_true c]at e ⊢;cases e;subst c
   exact⟨b,v',rfl,r⟩
  ·rw [decide_eq_false c]at e ⊢;exact DReps.get k t e
theorem DReps.length:∀{kvs:List (D × D)}{es:List cT},DReps K F H kvs es->kvs.length=es.length
 | _,_,.nil=>rfl
 | _,_,.cons h r t=>by simp [DReps.length t]
def dX(a:List (D × D)):Bool:=a.all fun p=>(cL p.1).isSome
theorem DReps.flat:∀{kvs:List (D × D)}{es:List cT},DReps K F H kvs es->dX kvs=true->∀ e∈es,∃ ks,e.1=.inl ks/\bJ K H e.2.1 (ks.map V.int)
 | _,_,.nil,_,e,a=>nomatch a
 | _,_,.cons h r t,f,e,a=>by
  unfold dX at f;rw [List.all_cons,QW]at f;rcases Qq.mp a with rfl | a
  ·obtain⟨ks,q⟩:=Option.isSome_iff_exists.mp f.1
   have:=(vR h).mp q
   refine⟨ks,this,?_⟩
   dsimp only at this ⊢;subst this;exact h
  ·exact DReps.flat t f.2 e a
end
abbrev k9:=List Int × YP × JZ
abbrev ER:cT->k9->Prop:=fun e x=>e.1=.inl x.1/\e.2.1=x.2.1/\RelV e.2.2 x.2.2
theorem xX(k:List Int):∀{es:List cT}{xs:List k9},Paired ER es xs->mZ es k=(VB xs k).isSome
 | _,_,.nil=>rfl
 | _,_,@Paired.cons _ _ _ e x es xs h t=>by
  have b:=xX k t;unfold mZ at b ⊢;rw [JD,b];by_cases c:x.1=k
  ·have a:VB (x::xs) k=some x.2:=by simp [VB,Y6,c]
   rw [a,decide_eq_true (by rw [h.1,c])];rfl
  ·have a:VB (x::xs) k=VB xs k:=by simp [VB,Y6,c]
   rw [a,decide_eq_false (by rw [h.1];intro z;cases z;exact c rfl)];rfl
theorem GD(a:RelV v u):∀{es:List cT}{xs:List k9},Paired ER es xs->Paired ER (es.map fun e=>if e.1=.inl k then(e.1,e.2.1,v)else e) (xs.map (putAt k u))
 | _,_,.nil=>.nil
 | _,_,@Paired.cons _ _ _ e x es xs h t=>by
  rw [Qs,Qs];refine .cons ?_ (GD a t);unfold putAt;by_cases c:x.1=k
  ·rw [if_pos c,if_pos (by rw [h.1,c])];exact⟨h.1,h.2.1,a⟩
  ·rw [if_neg c,if_neg (by rw [h.1];intro z;cases z;exact c rfl)];exact h
theorem AT(a:RelV v u)(t:Paired ER es xs):Paired ER (jD es k b v) (storedH xs k b u):=by
 unfold jD storedH;rw [xX k t];by_cases c:(VB xs k).isSome=true
 ·rw [if_pos c,if_pos c];exact GD a t
 ·rw [if_neg c,if_neg c];exact Paired.snoc t ⟨rfl,rfl,a⟩
theorem AS:∀{es:List cT}{xs:List k9},Paired ER es xs->es.map (·.1)=(xs.map (·.1)).map Sum.inl
 | _,_,.nil=>rfl
 | _,_,.cons h t=>by rw [Qs,Qs,Qs,AS t,h.1]
theorem AR:∀{es:List cT}{xs:List k9},Paired ER es xs->(es.find? fun e=>decide (e.1=.inl k))=some (.inl k,b,v)->∃ p,VB xs k=some p/\RelV v p.2
 | _,_,.nil,q=>by cases q
 | _,_,@Paired.cons _ _ _ e x es xs h t,q=>by
  rw [Y6]at q;by_cases c:x.1=k
  ·have a:VB (x::xs) k=some x.2:=by simp [VB,Y6,c]
   rw [decide_eq_true (by rw [h.1,c])]at q;cases q
   exact⟨_,a,h.2.2⟩
  ·have a:VB (x::xs) k=VB xs k:=by simp [VB,Y6,c]
   rw [decide_eq_false (by rw [h.1];intro z;cases z;exact c rfl)]at q;rw [a];exact AR t q
theorem Hn{l:List (List Int)}(h:l.Nodup):(l.map (Sum.inl:List Int->eH)).Nodup:=by
 rw [UT,Ym];exact List.Pairwise.imp (fun n e=>n (Sum.inl.inj e)) h
theorem Wf{l:List (List Int)}(h:(l.map (Sum.inl:List Int->eH)).Nodup):l.Nodup:=by
 rw [UT,Ym]at h;exact List.Pairwise.imp (fun n e=>n (by rw [e])) h
abbrev dZ(P:J5)(w:J6):HeapKind P w (List Int):=tupleKind (intKind P w)
theorem p4{X:Cx}{b:List (YP × Obj)}{u:L2.St}{H:Hp}{s:J0}{a:YP}{es:List cT}{ep:Nat}(I:Inv X b u H s)(h:H a=some (bI a es ep))(f:∀ e∈es,∃ ks,e.1=.inl ks/\bJ X.K H e.2.1 (ks.map V.int))(n:(es.map (·.1)).Nodup):
  (a == Zm)=false/\∃ xs:List k9,s.heap.DictOfH (dZ X.prog X.w) a xs/\Paired ER es xs:=by
 obtain⟨⟨v,o,g,E,B,A,z⟩,_⟩:=(show eG X.prog X.w H s.heap a (bI a es ep)from I.hok a _ h)
 have mk:∀{l:List cT}{r:List ZI},Paired (fun(e:eH × YP × V) (r:ZI)=>r.hash=AF e.1/\r.key=.ref e.2.1/\RelV e.2.2 r.val) l r->(∀ e∈l,∃ ks,e.1=.inl ks/\bJ X.K H e.2.1 (ks.map V.int))->
   ∃ xs:List k9,r=xs.map (entryOfKey (dZ X.prog X.w))/\Paired ER l xs/\∀ x∈xs,(dZ X.prog X.w).is s.heap x.1 x.2.1:=by
  intro l r q
  induction q with
  | nil=>exact fun _=>⟨[],rfl,.nil,fun x c=>nomatch c⟩
  | @cons e r l rs h t ih=>
   intro f;obtain⟨xs,j,d,i⟩:=ih fun e y=>f e (Qf _ y);obtain⟨ks,p,F⟩:=f e Qg
   refine⟨(ks,e.2.1,r.val)::xs,?_,.cons ⟨p,rfl,h.2.2⟩ d,fun x c=>?_⟩
   ·rw [Qs,<- j];congr 1;obtain⟨N,M,J⟩:=r;obtain⟨m,k,G⟩:=h;dsimp only at m k ⊢;subst m k;rw [p];rfl
   ·rcases Qq.mp c with rfl | c
    ·exact iM I F
    ·exact i x c
 obtain⟨xs,j,d,i⟩:=mk z f
 refine⟨v,xs,⟨o,g,ep,E,B,A,j,i,?_⟩,d⟩
 rw [AS d]at n;exact Wf n
theorem wJ{P:J5}{w:J6}{H:Hp}{h:Heap}{a:YP}{es:List cT}{xs:List k9}(c:(a == Zm)=false)(d:h.DictOfH (dZ P w) a xs)(r:Paired ER es xs):∃ ep,eG P w H h a (bI a es ep):=by
 obtain⟨o,b,ep,f,j,i,g,m,l⟩:=d;clear m l
 refine⟨ep,⟨c,o,b,f,j,i,?_⟩,⟨o,f⟩,fun p n ⟨c,o,b,s,q⟩ k=>⟨c,o,b,k _ s,q⟩⟩
 rw [g];clear f j i g
 induction r with
 | nil=>exact .nil
 | @cons e x es xs h t ih=>
  rw [Qs];refine .cons ⟨?_,?_,h.2.2⟩ ih
  ·rw [h.1];rfl
  ·rw [h.2.1];rfl
end DC
namespace DC
open PySem.Spec L2 DL ST SL
section
variable {X:Cx}
def eJ(b:Bool)(d e:D):Option D:=match e with
 | .dict a=>(cL d).bind fun k=>if dX a=true then some (.bool (if b then !eZ a k else eZ a k))else none
 | e=>dF b d e
theorem wG(h:eJ neg d (.dict kvs)=some r):∃ k,cL d=some k/\dX kvs=true/\r=.bool (if neg then !eZ kvs k else eZ kvs k):=by
 obtain⟨k,a,q⟩:=aF (show((cL d).bind fun k=>if dX kvs=true then some (J8 (if neg then !eZ kvs k else eZ kvs k))else none)=some r from h);by_cases c:dX kvs=true
 ·rw [if_pos c]at q;cases q;exact⟨k,a,c,rfl⟩
 ·rw [if_neg c]at q;cases q
theorem tV(E:X.A.units+65<Zf):bF X (Ze .In) (cD X.K (eJ false)):=fun c s B H x y v u Q I m j J=>by
 obtain⟨F,d,e,q,z,p,R2,g,k⟩:=J
 cases R2 with
 | @dct a es kvs ep f h n l t=>
  obtain⟨i,G,o,rfl⟩:=wG g;obtain⟨b,rfl,N⟩:=nY p G;cases m;cases j;obtain⟨M,R,dd,O⟩:=p4 I h (DReps.flat t o) n;refine wpAny_in_heap (knd:=dZ X.prog X.w) (k:=i) (show X.A.in1.units<Zf from by show X.A.units+1<Zf;lia) (iM I N) M dd ?_;rw [<- xX i O,<- DReps.has i t]
  exact⟨.bl _,H,I.tok _,rfl,k F H _ (aI.refl F H) (.bl _)⟩
 | exn f h n=>
  obtain⟨i,G,o,_⟩:=wG g;cases o
 | tup h r=>exact yQ E c s B H _ _ v u Q I m j ⟨F,d,_,q,z,p,.tup h r,g,k⟩
 | lst h r=>exact yQ E c s B H _ _ v u Q I m j ⟨F,d,_,q,z,p,.lst h r,g,k⟩
 | non=>cases g
 | bl _=>cases g
 | int _=>cases g
 | str _=>cases g
theorem Cv(E:X.A.units+65<Zf):bF X (Ze .NotIn) (cD X.K (eJ true)):=fun c s B H x y v u Q I m j J=>by
 obtain⟨F,d,e,q,z,p,R2,g,k⟩:=J
 cases R2 with
 | @dct a es kvs ep f h n l t=>
  obtain⟨i,G,o,rfl⟩:=wG g;obtain⟨b,rfl,N⟩:=nY p G;cases m;cases j;obtain⟨M,R,dd,O⟩:=p4 I h (DReps.flat t o) n;refine wpAny_notIn_heap (knd:=dZ X.prog X.w) (k:=i) (show X.A.in1.units<Zf from by show X.A.units+1<Zf;lia) (iM I N) M dd ?_;rw [<- xX i O,<- DReps.has i t]
  exact⟨.bl _,H,I.tok _,rfl,k F H _ (aI.refl F H) (.bl _)⟩
 | exn f h n=>
  obtain⟨i,G,o,_⟩:=wG g;cases o
 | tup h r=>exact l5 E c s B H _ _ v u Q I m j ⟨F,d,_,q,z,p,.tup h r,g,k⟩
 | lst h r=>exact l5 E c s B H _ _ v u Q I m j ⟨F,d,_,q,z,p,.lst h r,g,k⟩
 | non=>cases g
 | bl _=>cases g
 | int _=>cases g
 | str _=>cases g
def q8(d e:D):Option D:=match d with
 | .dict a=>(cL e).bind fun k=>if dX a=true then getD a k else none
 | d=>aR d e
theorem DD(hu:X.A.units+65<Zf):gC X (cD X.K q8):=fun c g j s o H x y v u Q I E B R J=>by
 obtain⟨F,d,e,q,z,R1,R2,i,k⟩:=R
 cases R1 with
 | @dct a es kvs ep f h n l t=>
  obtain⟨G,O,i⟩:=aF (show((cL e).bind fun k=>if dX kvs=true then getD kvs k else none)=some q from i);by_cases M:dX kvs=true
  ·rw [if_pos M]at i;obtain⟨b,rfl,T⟩:=nY R2 O;cases E;cases B;obtain⟨lo,xs,dd,er⟩:=p4 I h (DReps.flat t M) n;obtain⟨b',S,Z,Y⟩:=DReps.get G t i;obtain⟨p,W,U⟩:=AR er Z;have N:=dd.typeIs;unfold UV;refine Qa ?_;rw [UR N.not_modules];refine Qa (JC N PySem.F.slot_dict_getitem.lookup ?_)
   have fin:J3 (J4 X.prog X.w) X.A (Vs g false (.ref a) (.ref b)) (fun r m=>J3 (J4 X.prog X.w) X.A (letTemporaryGo c (.ref a) r >>= fun _=>pure r) (EP X j o Q) X.xe m) X.xe s:=by
    rw [J];refine wpAny_operating ?_;refine wpAny_getItem_heap (knd:=dZ X.prog X.w) (k:=G) (show X.A.in1.units<Zf from by show X.A.units+1<Zf;lia) (iM I T) dd W ?_;exact Qa (U3 (Qb ⟨S,H,I.tok _,U,k F H _ (aI.refl F H) Y⟩))
   first
    | exact Qb (Qa fin)
    | exact Qa (Qb (Qa fin))
    | exact Qa fin
  ·rw [if_neg M]at i;cases i
 | exn f h n=>
  obtain⟨G,O,i⟩:=aF i;cases i
 | tup h r=>exact bK c g j s o H _ _ v u Q I E B ⟨F,_,e,q,z,.tup h r,R2,i,k⟩ J
 | lst h r=>exact bK c g j s o H _ _ v u Q I E B ⟨F,_,e,q,z,.lst h r,R2,i,k⟩ J
 | non=>cases i
 | bl _=>cases i
 | int _=>cases i
 | str _=>cases i
end
end DC
namespace DC
open PySem.Spec L2 DL ST SL
def tX:D->Option (List Int × D)
 | .tuple [k,v]=>(cL k).bind fun a=>some (a,v)
 | _=>none
def l6:List D->Option (List (List Int × D))
 | []=>some []
 | d::r=>(tX d).bind fun p=>(l6 r).bind fun a=>some (p::a)
def p5(b:List (List Int × D)):List (D × D):=b.foldl (fun a p=>gI a p.1 p.2) []
def Bp:List D->Option D
 | [.list ds]=>if ds.length<=1000 then(l6 ds).bind fun a=>some (.dict (p5 a))else none
 | _=>none
structure Tr where
 k:List Int
 b:YP
 v:V
 d:D
def Dq(K:PySem.W.Frag)(F:YP->Prop)(H:Hp)(x:V)(t:Tr):Prop:=∃ b,x=.ref b/\bJ K H b [.ref t.b,t.v]/\bJ K H t.b (t.k.map V.int)/\aO K F H t.d t.v
theorem V5{K:PySem.W.Frag}{F:YP->Prop}{H:Hp}{d:D}{x:V}{p:List Int × D}(r:aO K F H d x)(h:tX d=some p):∃ t,p=(t.k,t.d)/\Dq K F H x t:=by
 cases r with
 | @tup a vs ds h1 r1=>
  unfold tX at h
  split at h
  ·rename_i k v e;cases e;obtain⟨j,m,h⟩:=aF h;cases h
   cases r1 with
   | cons f i=>
    cases i with
    | cons c g=>
     cases g;obtain⟨b,rfl,l⟩:=nY f m
     exact⟨⟨j,b,_,v⟩,rfl,a,rfl,h1,l,c⟩
  ·cases h
 | _=>cases h
theorem IK{K:PySem.W.Frag}{F:YP->Prop}{H:Hp}:∀{ds:List D}{vs:List V}{ps:List (List Int × D)},Reps K F H ds vs->l6 ds=some ps->∃ ts:List Tr,ps=ts.map (fun t=>(t.k,t.d))/\Paired (Dq K F H) vs ts
 | _,_,_,.nil,h=>by cases h;exact⟨[],rfl,.nil⟩
 | _,_,_,.cons r rs,h=>by
  obtain⟨p,c,h⟩:=aF h;obtain⟨ps,b,h⟩:=aF h;cases h;obtain⟨t,rfl,q⟩:=V5 r c;obtain⟨ts,rfl,a⟩:=IK rs b
  exact⟨t::ts,rfl,.cons q a⟩
theorem Paired.at{c d:Type}{R:c->d->Prop}:∀{l:List c}{m:List d}{i:Nat}{a:c},Paired R l m->l[i]?=some a->∃ b,m[i]?=some b/\R a b
 | _,_,_,_,.nil,e=>by simp at e
 | _,_,0,_,.cons h _,e=>by simp at e;subst e;exact⟨_,rfl,h⟩
 | _,_,i+1,_,.cons _ t,e=>by
  obtain⟨b,g,f⟩:=Paired.at t (by simpa using e)
  exact⟨b,by simpa using g,f⟩
theorem Paired.atR{d c:Type}{R:d->c->Prop}:∀{l:List d}{m:List c}{i:Nat}{b:c},Paired R l m->m[i]?=some b->∃ a,l[i]?=some a/\R a b
 | _,_,_,_,.nil,e=>by simp at e
 | _,_,0,_,.cons h _,e=>by simp at e;subst e;exact⟨_,rfl,h⟩
 | _,_,i+1,_,.cons _ t,e=>by
  obtain⟨b,g,f⟩:=Paired.atR t (by simpa using e)
  exact⟨b,by simpa using g,f⟩
theorem pick{P:Nat->JZ->Prop}(n:Nat)(h:∀ i,i<n->∃ u,P i u):∃ f:Nat->JZ,∀ i,i<n->P i (f i):=by
 classical
 refine⟨fun i=>if c:i<n then Classical.choose (h i c)else .none,fun i a=>?_⟩
 show P i (if c:i<n then Classical.choose (h i c)else .none)
 rw [dif_pos a];exact Classical.choose_spec (h i a)
def i7:Tr:=⟨[],0,.non,.none⟩
theorem FN{K:PySem.W.Frag}{F:YP->Prop}{H:Hp}(a:List Tr)(c:Nat->JZ)(j:∀ t∈a,bJ K H t.b (t.k.map V.int)/\aO K F H t.d t.v)(g:∀(i:Nat) t,a[i]?=some t->RelV t.v (c i)):
  ∀ i,i<=a.length->∃ es,DReps K F H (p5 ((a.map fun t=>(t.k,t.d)).take i)) es/\Paired ER es (iW (fun i=>(a.getD i i7).k) (fun i=>(a.getD i i7).b) c i)
 | 0,_=>⟨[],.nil,.nil⟩
 | i+1,hi=>by
  obtain⟨es,o,n⟩:=FN a c j g i (by lia);have f:i<a.length:=hi
  have l:a[i]?=some a[i]:=by simp [f]
  have m:a.getD i i7=a[i]:=by simp [List.getD,f]
  have h:=j a[i] (Yy f)
  refine⟨jD es a[i].k a[i].b a[i].v,?_,?_⟩
  ·have e:(a.map fun t=>(t.k,t.d)).take (i+1)=(a.map fun t=>(t.k,t.d)).take i++[(a[i].k,a[i].d)]:=by
    rw [List.take_succ,QN,l];rfl
   rw [e];unfold p5;rw [List.foldl_append];exact DReps.put o h.1 h.2
  ·show Paired ER _ (storedH _ (a.getD i i7).k (a.getD i i7).b (c i))
   rw [m];exact AT (g i _ l) n
section
variable {X:Cx}
theorem boot_dict:Zw "dict"=some (.type "dict"):=by decide +kernel
theorem zSx{P:J5}{w:J6}(h h':Heap)(k:List Int)(b:YP)(x:(dZ P w).is h k b)(e:∀ b o,h.get? b=some o->h'.get? b=some o):(dZ P w).is h' k b:=TK.at x fun o a=>e b o a
theorem EA{a:List (YP × Obj)}{b:L2.St}{H:Hp}{s:J0}(I:Inv X a b H s):Zm<s.heap.objs.size:=by
 have h:Zj<s.heap.objs.size:=(I.mod.glob.keeps I.bk).lt;exact Vi (by decide) h
def N9(K:PySem.W.Frag):List V->Hp->VK->Prop:=fun b H Q=>∃(F:YP->Prop) (ds:List D) (ps:List (List Int × D)),(∀ a,F a->H a≠none)/\Reps K F H [.list ds] b/\ds.length<=1000/\l6 ds=some ps /\
 ∀ p es ep,H p=none->DReps K F H (p5 ps) es->(es.map (·.1)).Nodup->es.length<=1000->Q (.ref p) (aJ H p (bI p es ep))
theorem Eh(hc:X.calm=true)(hu:X.A.units+66<Zf):dW X (.type "dict") (N9 X.K):=fun a0 s σ H xs us Q I rv zz=>by
 obtain⟨F,ds,ps,z,R,hl,e1,k⟩:=zz
 cases R with
 | cons R1 R2=>
  cases R2
  cases R1 with
  | @lst a vs _ h1 r1=>
   obtain⟨u,rfl,ru⟩:=iN rv;cases ru;obtain⟨f,n,⟨o,nl,g1,g2,g3,g4⟩,_⟩:=I.list h1.sq;obtain⟨c,rfl,p⟩:=IK r1 e1
   have d:f.length=c.length:=by rw [<- n.length];exact Paired.length p
   have r:c.length<=1000:=by rw [<- Paired.length p,<- r1.length];exact hl
   obtain⟨m,h⟩:=pick (P:=fun i u=>∀ t,c[i]?=some t->RelV t.v u/\∀ v,f[i]?=some v->∃ b,v=.ref b/\s.heap.IsTuple b #[.ref t.b,u]) c.length fun i g=>by
    have l:c[i]?=some c[i]:=by simp [g]
    obtain⟨x,S,b,rfl,J,E,G⟩:=Paired.atR p l;obtain⟨a3,rj,O,_⟩:=I.tuple J
    cases rj with
    | @cons _ u1 _ us1 ra rb=>
     cases rb with
     | @cons _ u2 _ us2 rc rd=>
      cases rd;cases ra
      refine⟨u2,fun t j=>?_⟩
      rw [l]at j;cases j
      refine⟨rc,fun v T=>?_⟩
      obtain⟨w',ew,M⟩:=n.get S;rw [T]at ew;cases ew;cases M
      exact⟨b,rfl,O⟩
   obtain⟨oc,od,a2,N⟩:=o
   have W:s.heap.get? a=some { cls:=.type "list",dict:=none,data:=.seq f.toArray nl,slots:=N }:=by
    rw [g1];simp only at g2 g3 g4;rw [g2,g3,g4]
   refine P1 (knd:=dZ X.prog X.w) (fun i=>(c.getD i i7).k) (fun i=>(c.getD i i7).b) m zSx (I.ok.hd hc) (fun B hB=>show B.units<Zf by lia) W (fun i v T=>?_) (fun i g=>?_) (by rw [QJ,d];exact r) fun h' tk dd keep=>?_
   ·have q:f[i]?=some v:=by simpa using T
    have g:i<c.length:=by rw [<- d];exact(Qc.mp q).1
    have l:c[i]?=some c[i]:=by simp [g]
    have Y:c.getD i i7=c[i]:=by simp [List.getD,g]
    obtain⟨b,e,it⟩:=(h i g _ l).2 v q
    exact⟨b,e,by rw [Y];exact it⟩
   ·have y:i<c.length:=by rw [<- d];simpa using g
    have l:c[i]?=some c[i]:=by simp [y]
    have Y:c.getD i i7=c[i]:=by simp [List.getD,y]
    obtain⟨x,S,b,_,J,E,G⟩:=Paired.atR p l
    show TK X.prog X.w s.heap (c.getD i i7).k (c.getD i i7).b
    rw [Y];exact iM I E
   ·obtain⟨es,f1,Z⟩:=FN (K:=X.K) (F:=F) (H:=H) c m (fun t j=>by
     obtain⟨i,g⟩:=List.mem_iff_getElem?.mp j;obtain⟨x,S,b,_,J,E,G⟩:=Paired.atR p g
     exact⟨E,G⟩) (fun i t j=>(h i (Qc.mp j).1 t j).1) c.length (Qk _)
    rw [Jz (by simp)]at f1
    have U:f.toArray.size=c.length:=by rw [QJ,d]
    rw [U]at dd;have lo:(s.heap.objs.size == Zm)=false:=beq_eq_false_iff_ne.mpr (Z4 (QG (EA I)));have hp:H s.heap.objs.size=none:=I.hok.fresh (Qk _);obtain⟨ep,oo⟩:=wJ (H:=H) lo dd Z
    refine⟨.ref s.heap.objs.size,aJ H s.heap.objs.size (bI s.heap.objs.size es ep),I.laid keep (Qk _) oo,rfl,k _ es ep hp f1 ?_ ?_⟩
    ·obtain⟨_,_,_,_,_,_,_,_,hn⟩:=dd;rw [AS Z];exact Hn hn
    ·rw [Paired.length Z];exact QH (Bk _) r
theorem Pw(h:X.calm=true)(g:X.A.units+66<Zf):dW X (.type "dict") (jE X.K Bp):=pZ (Eh h g) fun j H Q e=>by
 obtain⟨F,s,q,z,R,a,k⟩:=e;unfold Bp at a
 split at a
 ·rename_i b;by_cases c:b.length<=1000
  ·rw [if_pos c]at a;obtain⟨f,i,a⟩:=aF a;cases a
   exact⟨F,b,f,z,R,c,i,fun p m o d r n l=>k _ _ _ (aI.frozen d) (.dct (.inr rfl) cP n l (r.stay (aI.frozen d).stay))⟩
  ·rw [if_neg c]at a;cases a
 ·cases a
end
end DC
namespace DC
open PySem.Spec L2 DL ST SL EL
def cV(b:aA->Option D):aA->Option (List D):=fun a=>(b a).bind jF
def jK(gr:aA->Option (List D)):aA->Option (List D):=fun a=>(gr a).bind oV
def rD(gr:aA->Option (List D)):aA->Option (List D):=fun a=>(gr a).bind CJ
section
variable {X:Cx}{tg e a b:Expr}{es:List Expr}{ga:aA->Option D}{gr:aA->Option (List D)}{p pos:Pos}
theorem gN(a:DE X e ga):DI X tg e (cV ga):=Gp a
theorem sE(c:Gl X "range")(b:X.mg "range"=none)(d:DA X [a] gr)(hs:J2 [a] X.env=[(false,Zr a X.env)]:=by rfl):DI X tg (.Call (.Name "range" p) [a] [] pos) (jK gr):=S4 c b d hs
theorem SZ{x1}(e:Gl X "zip")(d:X.mg "zip"=none)(f:DA X [a,b] gr)(hs:J2 [a,b] X.env=[(false,Zr a X.env),(false,Zr b X.env)]:=by rfl)(c:J2 [b] X.env=[(false,Zr b X.env)]:=by rfl):
  DI X (.Tuple elts x1 tpos) (.Call (.Name "zip" p) [a,b] [] pos) (rD gr):=S9 e d f hs c
end
end DC
namespace DL
open PySem.Spec L2
def Dz:Sl->Bool
 | .ownD _ | .ownM _=>true
 | _=>false
def rN(i:Nat)(ρ:aA):Bool:=(ρ.set i .no).all fun s => !Dz s
theorem GT(h:rN i ρ=true)(a:ρ[j]?=some s)(hs:Dz s=true:=by rfl):i=j:=by
 by_cases c:i=j
 ·exact c
 ·have:(ρ.set i .no)[j]?=some s:=by rw [Qr c];exact a
  have:=Yi.mp h _ (QO this)
  rw [hs]at this;cases this
theorem aZ.turnD{K:PySem.W.Frag}{F:YP->Prop}{H H₀:Hp}{B:L2.St}{ρ:List Sl}(S:aZ K F H H₀ B ρ){i:Nat}{I c:List (D × D)}{es b:List (eH × YP × V)}{ep ep':Nat}{p:YP}(hi:ρ[i]?=some (.ownD I))(hs:B[i]?=some (some (.ref p)))
  (J:H p=some (bI p es ep)) (A:¬ F p) (h0:H₀ p=none) (one:rN i ρ=true) (n:(b.map (·.1)).Nodup) (l:b.length<=1000) (r:DReps K F H c b):
  aZ K F (aJ H p (bI p b ep')) H₀ B (ρ.set i (.ownD c))/\bA K F F H (aJ H p (bI p b ep')):=by
 have T:bA K F F H (aJ H p (bI p b ep')):=⟨fun _ h=>h,fun a Y h=>by
   rcases h with(h | ⟨o,h⟩) | h
   ·exact .inl (.inl (by rw [aU (by intro z;subst z;rw [J]at h;cases h)];exact h))
   ·exact .inl (.inr ⟨o,by rw [aU (by intro z;subst z;rw [J]at h;cases h)];exact h⟩)
   ·exact .inr h,fun a Y f h=>by
   have x:a≠p:=fun z=>A (by rw [<- z];exact f);rcases h with h | ⟨o,h⟩
   ·exact .inl (by rw [aU x];exact h)
   ·exact .inr ⟨o,by rw [aU x];exact h⟩,fun a φ f h=>by rw [aU (fun z=>A (by rw [<- z];exact f))];exact h⟩
 have X:i<ρ.length:=(Qc.mp hi).1
 refine⟨⟨by simp [S.len],fun j s h=>?_,fun j k a t u M Q O h3=>?_,fun a f z=>S.fz a f (by
  have x:a≠p:=fun y=>A (by rw [<- y];exact f)
  rwa [aU x]at z)⟩,T⟩
 ·by_cases e:i=j
  ·subst e;rw [Qy X]at h;cases h
   exact⟨_,hs,p,b,ep',rfl,cP,A,h0,n,l,r.stay T⟩
  ·rw [Qr e]at h;obtain⟨o,q,w⟩:=S.sl j s h
   refine⟨o,q,?_⟩
   cases s with
   | no=>trivial
   | ownD k2=>exact absurd (GT one h) e
   | ownM k2=>exact absurd (GT one h) e
   | dat d=>obtain⟨v,G,E⟩:=w;exact⟨v,G,E.stay T⟩
   | own t=>
    obtain⟨a,ws,G,N,nf,R,E⟩:=w
    exact⟨a,ws,G,by rw [aU (by intro z;subst z;rw [J]at N;cases N)];exact N,nf,R,E.stay T⟩
 ·have U:∀(m:Nat) (es:List D),(ρ.set i (.ownD c))[m]?=some (.own es)->i≠m:=fun m es g z=>by
   subst z;rw [Qy X]at g;cases g
  have nj:=U j t Q;have Z:=U k u O;rw [Qr nj]at Q;rw [Qr Z]at O;exact S.sep j k a t u M Q O h3
end DL
namespace DC
open PySem.Spec L2 DL ST SL EL
def nG(i:Nat)(d:aA->Option D):aA->Option D:=fun a=>match a[i]? with
 | some (.ownD kvs)=>(d a).bind fun c=>(cL c).bind fun b=>if dX kvs=true then getD kvs b else none
 | _=>none
def rR(i:Nat)(f e:aA->Option D):aA->Option aV:=fun a=>match a[i]? with
 | some (.ownD kvs)=>(e a).bind fun d=>(f a).bind fun c=>(cL c).bind fun b=>if(dX kvs && decide (kvs.length<1000) && rN i a)=true then some (.nx (a.set i (.ownD (gI kvs b d))))else none
 | _=>none
section
variable {X:Cx}{e k v:Expr}{es:List Expr}{gr:aA->Option (List D)}{gk gv:aA->Option D}{p pos:Pos}
def Od(K:PySem.W.Frag):R2:=fun x y H Q=>∃(F:YP->Prop) (a b:YP) (es:List cT) (ep:Nat) (kvs:List (D × D)) (ks:List Int) (r:D),x=.ref a/\y=.ref b/\bJ K H b (ks.map V.int)/\H a=some (bI a es ep)/\(es.map (·.1)).Nodup/\dX kvs=true/\DReps K F H kvs es/\getD kvs ks=some r/\∀ w,aO K F H r w->Q w H
theorem V0(hu:X.A.units+65<Zf):gC X (Od X.K):=fun c d f s j H x y v u Q I z o l E=>by
 obtain⟨F,a,b,es,ep,B,g,q,U,T,J,h,n,S,t,G,k⟩:=l;subst U T;cases z;cases o;obtain⟨Z,Y,dd,W⟩:=p4 I h (DReps.flat t S) n;obtain⟨b',m,R,O⟩:=DReps.get g t G;obtain⟨p,N,M⟩:=AR W R;have i:=dd.typeIs;unfold UV;refine Qa ?_;rw [UR i.not_modules];refine Qa (JC i PySem.F.slot_dict_getitem.lookup ?_)
 have fin:J3 (J4 X.prog X.w) X.A (Vs d false (.ref a) (.ref b)) (fun r e=>J3 (J4 X.prog X.w) X.A (letTemporaryGo c (.ref a) r >>= fun _=>pure r) (EP X f j Q) X.xe e) X.xe s:=by
  rw [E];refine wpAny_operating ?_;refine wpAny_getItem_heap (knd:=dZ X.prog X.w) (k:=g) (show X.A.in1.units<Zf from by show X.A.units+1<Zf;lia) (iM I J) dd N ?_;exact Qa (U3 (Qb ⟨m,H,I.tok _,M,k _ O⟩))
 first
  | exact Qb (Qa fin)
  | exact Qa (Qb (Qa fin))
  | exact Qa fin
theorem SV(y:X.A.units+65<Zf)(z:DE X k gk)(G:X.N[i]?=some x:=by rfl)(v:gD X.env.scope x:=by first | exact Zi rfl | exact Zd (Zi rfl) | exact Zd (Zd rfl))(B:(x == ("__debug__":Str))=false:=by decide)
  (f:(x == ("__classdict__":Str))=false:=by decide) (hs:sA k:=by exact fun _ _=>rfl):DE X (.Subscript (.Name x p) k pos) (nG i gk):=
 cJ (w5 (V0 y) (gQ G v B f) z hs) fun W H Q l=>by
  obtain⟨F,e,j,d,S,q,t⟩:=l;unfold nG at q
  split at q
  ·rename_i c O;obtain⟨u,M,q⟩:=aF q;obtain⟨s,K,q⟩:=aF q;by_cases g:dX c=true
   ·rw [if_pos g]at q;obtain⟨a,I,J,r,o,q3,Z,n,Y,m⟩:=S.ownD O
    refine⟨.ref a,r,F,e,j,u,S,M,fun h U kv E1 T=>?_⟩
    obtain⟨b,rfl,E⟩:=nY T K
    exact⟨h,a,b,I,J,c,s,d,rfl,rfl,E,E1.same _ _ o,n,g,m.stay E1.stay,q,fun w R=>t h U w E1 R⟩
   ·rw [if_neg g]at q;cases q
  ·cases q
theorem zRw{es:List cT}{k:List Int}{b:YP}{v:V}(h:(es.map (·.1)).Nodup):((jD es k b v).map (·.1)).Nodup:=by
 unfold jD;by_cases c:mZ es k=true
 ·rw [if_pos c,Yj]
  have:(es.map ((fun x=>x.1) ∘ fun(e:cT)=>if e.1=.inl k then(e.1,e.2.1,v)else e))=es.map (·.1):=by
   refine List.map_congr_left fun e _=>?_
   show(if e.1=.inl k then(e.1,e.2.1,v)else e).1=e.1
   split <;> rfl
  rw [this];exact h
 ·rw [if_neg c,Q6,YI]
  refine⟨h,by simp,fun x d y a z=>?_⟩
  subst z;simp only [Qs,List.map_nil,Qp]at a;subst a;obtain⟨e,f,g⟩:=QT.mp d;exact c (List.any_eq_true.mpr ⟨e,f,decide_eq_true g⟩)
theorem zRx{es:List cT}{k:List Int}{b:YP}{v:V}:(jD es k b v).length<=es.length+1:=by
 unfold jD;split
 ·rw [Qo];lia
 ·rw [Qj,Yd];lia
theorem RX{i:Nat}{x:Str}{p' h:Pos}(hu:X.A.units+65<Zf)(hk:DE X k gk)(hv:DE X v gv)(hN:X.N[i]?=some x:=by rfl)(Y:gD X.env.scope x:=by first | exact Zi rfl | exact Zd (Zi rfl) | exact Zd (Zd rfl))(hd:(x == ("__debug__":Str))=false:=by decide)
  (a2:(x == ("__classdict__":Str))=false:=by decide) (hs:ZC v (some (.Subscript (.Name x p') k h)) pos.line X.env=pure false:=by rfl):DS X (.Assign [.Subscript (.Name x p') k h] v pos) (rR i gk gv):=by
 intro g s n H W I ⟨a3,j,F,M,o,E,S,q,kk⟩;unfold rR at q
 split at q
 ·rename_i t e0;obtain⟨d,e1,q⟩:=aF q;obtain⟨kd,e2,q⟩:=aF q;obtain⟨B,e3,q⟩:=aF q;by_cases c:(dX t && decide (t.length<1000) && rN i M)=true
  ·rw [if_pos c]at q;cases q;simp only [QW,decide_eq_true_eq]at c;obtain⟨⟨fl,ln⟩,one⟩:=c;refine wpAny_Assign_Subscript (aT (hv g s n H (fun w r=>∃ m,aI F m H r/\aO X.K m r d w) I ⟨F,j,M,d,S,e1,fun m r w E1 R1=>⟨m,E1,R1⟩⟩) fun u s1 ⟨w,r,I1,R,m,E1,R1⟩=>?_) hs;have S1:=S.ext E1;obtain⟨a,es,ep,q1,q2,q3,q4,q5,q6,q7⟩:=S1.ownD e0;refine aT ((gQ hN Y hd a2) g s1 n r (fun z J=>z=.ref a/\J=r) I1 ⟨.ref a,q1,rfl,rfl⟩) fun u2 s2 O=>?_;obtain⟨z,J,I2,rz,ez,eh⟩:=O;subst ez eh;cases rz;refine aT (hk g s2 n J (fun y p=>∃ l,aI m l J p/\aO X.K l p kd y) I2 ⟨m,j,M,kd,S1,e2,fun l p y E3 R3=>⟨l,E3,R3⟩⟩) fun u3 Q O=>?_;obtain⟨y,p,I3,ry,l,E3,R3⟩:=O;obtain⟨b,rfl,hb⟩:=nY R3 e3;cases ry;have S3:=S1.ext E3;have hH:=E3.same _ _ q2;have t3:=q7.stay (K:=X.K) E3.stay;obtain⟨lo,xs,dd,er⟩:=p4 I3 hH (DReps.flat t3 fl) q5
   have U:xs.length<=sizeLine:=by rw [<- Paired.length er];exact QH q6 (by rw [Yo];lia)
   refine wpAny_setItem_heap (knd:=dZ X.prog X.w) (k:=B) (show X.A.in1.units<Zf from by show X.A.units+1<Zf;lia) (iM I3 hb) dd (fun h' G Z=>?_) U
   have a0:¬ l a:=fun f=>by
    rcases E3.new a f with f | ⟨f,_⟩
    ·exact q3 f
    ·rw [q2]at f;cases f
   have T:es.length<1000:=by rw [<- DReps.length q7];exact ln
   obtain⟨ep',oo⟩:=wJ (H:=p) lo G (AT R er);obtain⟨T1,T2⟩:=S3.turnD (ep':=ep') e0 q1 hH a0 q4 one (zRw (k:=B) (b:=b) (v:=w) q5) (QH zRx T) (DReps.put t3 hb (R1.stay E3.stay));have I4:Inv X g n (aJ p a (bI a (jD es B b w) ep')) { Q with heap:=h',toks:=Q.toks+(dZ X.prog X.w).draws B }:=I3.write (x:=a) (e:=a) (t':=Q.toks+(dZ X.prog X.w).draws B) (by rw [hH];exact Ub) (.inl rfl) (fun c ob hc z=>(Z.2 c hc).trans z) (let⟨o2,_,_,hq,_⟩:=G;⟨o2,hq⟩) oo
   exact⟨n,_,I4,kk l _ n (((E.trans E1).trans E3).turn q4) ((E1.stay.trans E3.stay).trans T2) T1⟩
  ·rw [if_neg c]at q;cases q
 ·cases q
end
end DC
namespace DC
open PySem.Spec L2 DL ST SL EL
def kD(h:Heap)(a:YP)(b:Array ZI)(ep:Nat):Prop:=(a == Zm)=false/\∃ o,h.get? a=some o/\o.ExactDict/\o.data=.dict b ep
section
variable {P:J5}{w:J6}{A:Around}{E:JZ->J0->Prop}{s:J0}{d it:YP}{raw:Array ZI}{ep i:Nat}
theorem kD.ty(h:kD s.heap d raw ep):s.TypeIs (.ref d) "dict":=let⟨_,o,h1,h2,_⟩:=h;⟨o,h1,h2.1⟩
theorem Ce(h:kD s.heap d raw ep)(f:Q (.ref s.heap.objs.size) { s with heap:=s.heap.push { cls:=.type "dict_keyiterator",data:=.fields #[.ref d,.int 0 0,.int raw.size 0,.int ep 0] } }):J3 (J4 P w) A (pyIter (.ref d)) Q E s:=by
 have a:=h.ty;obtain⟨e,o,c,g,b⟩:=h;refine wpAny_pyIter_slot a PySem.F.slot_dict_iter (Yq PySem.F.slot_dict_iter a PySem.F.entry_dict_iter ?_ (PySem.F.args_dict_iter_1 _));unfold Builtin.«dict.__iter__»;refine Qa ?_;unfold Builtin.Dict.dictSlotNone
 refine Qa (UQ a ?_);show J3 _ _ (pure (Zb d)) _ _ s;refine Qb ?_
 show J3 _ _ (US d >>= _) _ _ s;unfold US
 rw [if_neg (by rw [e];exact QB)];refine Qa (Qb (Qa (Y4 c b ?_)));refine Qa (JX c b (Qa (Yv (Qb ⟨_,rfl,"dict_keyiterator",_,⟨_,Qz _ rfl,rfl⟩,PySem.F.slot_dict_keyiterator_next.lookup,?_⟩))))
 simpa [Vy]using f
theorem Cs(a:s.heap.IsKeyIter it d i raw.size ep)(h:kD s.heap d raw ep)(j:i<raw.size)
  (l:∀ h',h'.IsKeyIter it d (i+1) raw.size ep->Zp it s.heap h'->Q (some raw[i].key) { s with heap:=h' }):J3 (J4 P w) A (Uh (.ref it)) Q E s:=by
 obtain⟨o,e,k,c⟩:=id a;obtain⟨n,m,g,p,f⟩:=h;unfold Uh;refine Qa (UX (YQ (name:=ZM "__next__") a.typeIs PySem.F.slot_dict_keyiterator_next (Yq PySem.F.slot_dict_keyiterator_next a.typeIs PySem.F.entry_dict_keyiterator_next ?_ (PySem.F.args_dict_keyiterator_next_1 _))));refine Qa (Qb (Qa (Qa ?_)));refine Qa (Y2 a.typeIs (Qb (Qa (Vo e c ?_))));simp only [show Builtin.Dict_items.ownsTuple "dict_keyiterator"=false from by decide,Qm,if_false]
 show J3 _ _ (if(Zb d == ZH)=true then _ else _) _ _ s;rw [if_neg (show ¬ ((Zb d == ZH)=true)from QB)]
 refine Qa (Qb (Qa (Y4 g f ?_)));rw [if_neg (by simp)];refine Qa (Qb (Qa (JX g f ?_)));rw [if_neg (by simp)];refine Qb ?_;simp only [show ¬ ((i:Int)<0)from by lia,if_false,JE,QC j];refine Qa ?_;refine Qa (Y2 a.typeIs (Qb (Qa (wpAny_isOneOf_keyiter a.typeIs ?_))))
 show J3 _ _ (setField (.ref it) 1 (Vy ((i:Int)+1)) >>= _) _ _ s;refine Qa (UK e c (by simp) ?_)
 have b:(s.heap.update it (Obj.mapFields (·.setIfInBounds 1 (Vy ((i:Int)+1))))).IsKeyIter it d (i+1) raw.size ep:=⟨_,Ye _ e (UP (Jj c _)),(Obj.cls_mapFields ..).trans k,by rw [Jj c];simp [Vy]⟩;refine Qa (Yb (Qa (wpAny_isOneOf_keyiter (s:={ s with heap:=s.heap.update it (Obj.mapFields (·.setIfInBounds 1 (Vy ((i:Int)+1)))) }) b.typeIs ?_)))
 show J3 _ _ (pure raw[i].key) _ _ _;exact Qb (Qb ⟨_,rfl,Qb (l _ b (Q8 ..))⟩)
theorem AO(l:A.handled=none)(c:s.heap.IsKeyIter it d i raw.size ep)(h:kD s.heap d raw ep)(k:raw.size<=i)
  (n:∀ h',Heap.ExtBut it s.heap h'->Q none { s with heap:=h' }):J3 (J4 P w) A (Uh (.ref it)) Q E s:=by
 obtain⟨o,e,r,f⟩:=id c;obtain⟨q,p,j,t,g⟩:=h;unfold Uh;refine Qa (UX (YQ (name:=ZM "__next__") c.typeIs PySem.F.slot_dict_keyiterator_next (Yq PySem.F.slot_dict_keyiterator_next c.typeIs PySem.F.entry_dict_keyiterator_next ?_ (PySem.F.args_dict_keyiterator_next_1 _))));refine Qa (Qb (Qa (Qa ?_)));refine Qa (Y2 c.typeIs (Qb (Qa (Vo e f ?_))));simp only [show Builtin.Dict_items.ownsTuple "dict_keyiterator"=false from by decide,Qm,if_false]
 show J3 _ _ (if(Zb d == ZH)=true then _ else _) _ _ s;rw [if_neg (show ¬ ((Zb d == ZH)=true)from QB)]
 refine Qa (Qb (Qa (Y4 j g ?_)));rw [if_neg (by simp)];refine Qa (Qb (Qa (JX j g ?_)));rw [if_neg (by simp)];refine Qb ?_;simp only [show ¬ ((i:Int)<0)from by lia,if_false,JE,YD k];refine Qa ?_
 refine Qa (Y2 c.typeIs (Qb ?_));show J3 _ _ (setField (.ref it) 0 .none >>= _) _ _ s
 refine Qa (UK e f (by simp) ?_);show J3 _ _ (newExc (.type "StopIteration") [] >>= _) _ _ _;refine Qa ?_
 simp only [newExc,newTuple];refine Qa (Yv ?_ (by size_fits));refine Qa (m:=Vp _ _) (U2 (a:=ZH) (by first | rfl | (simp only [Vp];rfl)) (Yv ?_ (by size_fits)));simp only [raiseNew];refine Qa (wpAny_handled ?_);rw [show A.in1.handled=none from l];refine Qa (Qb (wpAny_throw ?_));refine Qa (Jc (T:="StopIteration") (b:=true) ⟨_,Qz _ rfl,rfl⟩ isSubtype_stop ?_);exact Qb (n _ (((Q8 ..).extBut.push _).push _))
end
def CN(a:YP)(es:List cT)(ep:Nat):It:=⟨fun i H=>H a=some (bI a es ep)/\i<es.length,fun i H x b=>b=H/\∃ e,es[i]?=some e/\x=.ref e.2.1,fun i H=>H a=some (bI a es ep)/\es.length<=i⟩
theorem xH(I:Inv X pins σ H s)(h:H a=some (bI a es ep)):
  ∃ raw:Array ZI,kD s.heap a raw ep/\raw.size=es.length/\∀(i:Nat) (hi:i<raw.size) (e:cT),es[i]?=some e->raw[i].key=.ref e.2.1:=by
 obtain⟨⟨d,o,raw,k,j,g,c⟩,_⟩:=(show eG X.prog X.w H s.heap a (bI a es ep)from I.hok a _ h)
 refine⟨raw,⟨d,o,k,j,g⟩,?_,fun i hi e f=>?_⟩
 ·have:=Paired.length c
  simpa using this.symm
 ·obtain⟨r,b,_,q,_⟩:=Paired.at c f
  have:raw.toList[i]?=some raw[i]:=by simp [hi]
  rw [this]at b;cases b;exact q
theorem zSC{P:J5}{w:J6}{K:PySem.W.Frag}{R:Expr}(a it:YP)(es:List cT)(ep:Nat):jP P w K R (CN a es ep) [it] it (fun i h=>h.IsKeyIter it a i es.length ep) where
 mem:=by simp
 obj:=fun i h f b j=>by
  have e:b=it:=by simpa using j
  subst e;obtain⟨o,e,c,d⟩:=f
  exact⟨o,e,fun v z=>by rw [d]at z;cases z⟩
 keep:=fun i h n f k=>let⟨o,e,c⟩:=f;⟨o,k it (by simp) o e,c⟩
 item:=by
  intro X u q x Q i g s J H E I m f t;subst u q x;obtain⟨r,N⟩:=t;obtain⟨p,rd,sz,M⟩:=xH I r;obtain⟨G,F,T,B,A,y⟩:=m it (by simp);rw [<- sz]at f;refine Cs f rd (by lia) fun n l S=>?_;have Y:Inv X g J H { s with heap:=n }:=I.turned (t':=s.toks) (fun b o j e=>(S.2 b j).trans e) G F B A y;obtain⟨o,e,c,d⟩:=id l
  have O:es[i]?=some es[i]:=by simp [N]
  refine⟨_,rfl,qB (s:={ s with heap:=n }) e c d (by decide) ⟨.ref (es[i]).2.1,H,Y,?_,⟨rfl,_,O,rfl⟩,by rw [<- sz];exact l,fun b j=>(m b j).1⟩⟩
  rw [M i (by lia) _ O];rfl
 done:=by
  intro X u q x Q i g s J H E I m f t;subst u q x;obtain⟨r,N⟩:=t;obtain⟨p,rd,sz,M⟩:=xH I r;obtain⟨G,F,T,B,A,y⟩:=m it (by simp);rw [<- sz]at f;exact AO (I.ok.hd Q) f rd (by lia) fun n U=>⟨rfl,I.turned (t':=s.toks) (fun b o j e=>U b o j e) G F B A y⟩
 self:=fun _ _ _ _ _ f h=>U4 f h
def zO:D->Bool
 | .tuple _=>true
 | _=>false
def rV:D->Option (List D)
 | .dict a=>if(a.all fun e=>zO e.1)=true then some (a.map (·.1))else none
 | d=>jF d
theorem Ij{K:PySem.W.Frag}{F:YP->Prop}{H:Hp}:∀{kss:List (List Int)}{bs:List YP},Paired (fun(ks:List Int) (b:YP)=>bJ K H b (ks.map V.int)) kss bs->Reps K F H (kss.map fun ks=>.tuple (ks.map J9)) (bs.map V.ref)
 | _,_,.nil=>.nil
 | _,_,.cons h t=>.cons (.tup h (qC _)) (Ij t)
theorem Ii{K:PySem.W.Frag}{F:YP->Prop}{H:Hp}{k:eH}{b:YP}(h:oD K H k b):aO K F H (jA k) (.ref b):=by
 cases k with
 | inl c=>exact .tup h (qC c)
 | inr a=>obtain⟨_,bs,e,d⟩:=h;exact .tup e (Ij d)
theorem DReps.key{K:PySem.W.Frag}{F:YP->Prop}{H:Hp}{a:List (D × D)}{es:List cT}(t:DReps K F H a es):∀{i:Nat}{d:D},(a.map (·.1))[i]?=some d->∃ e,es[i]?=some e/\aO K F H d (.ref e.2.1):=by
 induction es generalizing a with
 | nil=>cases t;intro i d h;simp at h
 | cons e es b=>
  cases t with
  | cons c f t=>
   intro i d h
   cases i with
   | zero=>simp at h;subst h;exact⟨_,rfl,Ii c⟩
   | succ i=>exact b t (by simpa using h)
theorem VP{K:PySem.W.Frag}{F:YP->Prop}{H:Hp}{a:YP}{es:List cT}{ep:Nat}{b:List (D × D)}(f:F a)(h:H a=some (bI a es ep))(t:DReps K F H b es):kC K F H (b.map (·.1)) (CN a es ep):=fun p u T z i=>by
 have j:=T.xt _ _ f h;have g:=t.stay T
 refine⟨fun d o=>?_,fun n=>⟨j,by rw [<- DReps.length g];simpa using n⟩⟩
 obtain⟨e,k,r⟩:=DReps.key g o
 refine⟨⟨j,(Qc.mp k).1⟩,fun x s y=>?_⟩
 obtain⟨m,q,c,l⟩:=y;subst m l;rw [k]at c;cases c
 exact⟨p,aI.refl _ _,r⟩
def uW(b:aA->Option D):aA->Option (List D):=fun a=>(b a).bind rV
theorem SY{X:Cx}{J e:Expr}{y:aA->Option D}(B:DE X e y):DI X J e (uW y):=by
 intro g s A H R I h;obtain⟨F,i,w,Q,S,q,k⟩:=h;obtain⟨d,E,q⟩:=aF q
 cases d with
 | dict j=>
  by_cases c:(j.all fun e=>zO e.1)=true
  ·rw [rV,if_pos c]at q;cases q;refine aT (B g s A H (fun x m=>∃ p,aI F p H m/\aO X.K p m (.dict j) x) I ⟨F,i,w,_,S,E,fun p m v z u=>⟨p,z,u⟩⟩) fun v r G=>?_;obtain⟨x,m,I1,N,p,z,u⟩:=G;generalize hd:PyData.dict j=dd at u
   cases u with
   | @dct a es kvs' ep f h n l t=>
    cases hd;cases N;obtain⟨M,rd,sz,T⟩:=xH I1 h;refine Ce rd ⟨r.heap.objs.size,[r.heap.objs.size],_,_,m,rfl,I1.kept (t':=r.toks) fun b o e=>Qe _ e,zSC a _ es ep,⟨_,Qz _ rfl,rfl,by rw [sz];rfl⟩,fun b O=>?_,k p m _ z (VP f h t)⟩
    have e:b=r.heap.objs.size:=by simpa using O
    subst e;exact I1.fpOk (Qk _) (I1.hok.fresh (Qk _))
   | exn f h n=>
    exfalso
    cases hd;cases c
   | _=>cases hd
  ·rw [rV,if_neg c]at q;cases q
 | _=>exact Gp B g s A H R I ⟨F,i,w,Q,S,by show(y w).bind jF=_;rw [E];exact q,k⟩
end DC
namespace DC
open PySem.Spec L2 DL ST SL EL
end DC
namespace DL
open PySem.Spec L2
section
variable {X:Cx}{a b:Expr}{ga:aA->Option (List D)}{pos:Pos}
end
end DL
namespace TX
open PySem.Spec L2 DL
open Builtin Builtin.Str
section
variable {X:Cx}
end
end TX
namespace TX
open PySem.Spec L2 DL
open Builtin Builtin.Str
section
variable {X:Cx}{o e:Expr}{go ge:aA->Option D}{apos cpos:Pos}
def wH:List D->Option D
 | [.str z]=>if decide (z.length<=1000000)then some (.int z.length)else none
 | _=>none
theorem Px:dW X (.builtin "len") (jE X.K wH):=pZ P4 fun e H Q b=>by
 obtain⟨F,f,q,z,R,a,k⟩:=b;unfold wH at a
 split at a
 ·split at a
  next c=>
   cases a
   cases R with
   | cons r d=>
    cases d;cases r
    exact⟨_,rfl,by rw [Yo];have:=of_decide_eq_true c;lia,k F H _ (aI.refl F H) (.int _)⟩
  next=>cases a
 ·cases a
def j2:D->D->Option D
 | .str x,.str y=>if decide (x.length+y.length<=1000000)then some (.str (x++y))else none
 | _,_=>none
theorem GU:bF X (ZD .Add) (cD X.K j2):=tW Ws fun x y H Q b=>by
 obtain⟨F,d,e,q,z,f,R2,a,k⟩:=b;unfold j2 at a
 split at a
 ·split at a
  next c=>
   cases a;cases f;cases R2
   exact⟨_,_,rfl,rfl,by rw [Yo];have:=of_decide_eq_true c;lia,k F H _ (aI.refl F H) (.str _)⟩
  next=>cases a
 ·cases a
end
end TX
namespace TX
open PySem.Spec L2 DL ZL EL
open Builtin Builtin.Str
def Ap(x:Str):List Str:=x.cps.toList.map fun c=>⟨#[c]⟩
end TX
namespace TB
open PySem.Spec L2 DL TX
inductive gS(K:PySem.W.Frag)(w:J6):List (Str × D)->List ZI->Prop
 | nil:gS K w [] []
 | cons {x:Str}{d:D}{h:Int}{t:Tok}{v:V}{u:JZ}{tb:List (Str × D)}{es:List ZI}:h=PySem.hashStr w x->RelV v u->(∀ F H,aO K F H d v)->gS K w tb es->gS K w ((x,d)::tb) (⟨h,.str x t,u⟩::es)
def kE(K:PySem.W.Frag)(w:J6)(a:YP)(b:List (Str × D)):Prop:=∃ es ep,K.lookup a=some ⟨.type "dict",none,.dict es ep,#[]⟩/\gS K w b es.toList
def oO(b:List (Str × D))(c:aA->Option D):aA->Option D:=fun a=>(c a).bind fun k=>match k with
 | .str x=>b.lookup x
 | _=>none
theorem Lj{prog:J5}{K:PySem.W.Frag}{w:J6}:∀{tb:List (Str × D)}{es:List ZI},gS K w tb es->∀ e∈es,∃ k,(PySem.strKind prog w).is k e.key=true/\e.hash=(PySem.strKind prog w).hash k:=by
 intro tb es h
 induction h with
 | nil=>intro e a;cases a
 | cons c r d _ b=>
  intro e a;rcases Qq.mp a with rfl | a
  ·exact⟨_,by simp [PySem.strKind,Ui],c⟩
  ·exact b e a
theorem Li{prog:J5}{K:PySem.W.Frag}{w:J6}{x:Str}{d:D}:∀{tb:List (Str × D)}{es:List ZI},gS K w tb es->tb.lookup x=some d->∃ e v,es.find? (fun e=>(PySem.strKind prog w).is x e.key)=some e/\RelV v e.val/\∀ F H,aO K F H d v:=by
 intro tb es h
 induction h with
 | nil=>intro e;cases e
 | @cons y d' hh t v u tb es h1 h2 h3 _ ih=>
  intro e;rw [QS]at e;by_cases z:x=y
  ·subst z;rw [beq_self_eq_true]at e;cases e
   exact⟨_,v,by rw [List.find?_cons_of_pos (by simp [PySem.strKind,Ui])],h2,h3⟩
  ·rw [show(x == y)=false from by simpa using z]at e;obtain⟨g,a,f,c,b⟩:=ih e
   refine⟨g,a,?_,c,b⟩
   rw [List.find?_cons_of_neg (by simp [PySem.strKind,Ui];first | exact z | exact fun q=>z q.symm)];exact f
section
variable {X:Cx}{e:Expr}{ga gb:aA->Option D}{p pos:Pos}
def Og(K:PySem.W.Frag)(w:J6):R2:=fun x y H Q=>∃ a k tb d,x=.ref a/\y=.str k/\kE K w a tb/\tb.lookup k=some d/\∀ v,(∀ F,aO K F H d v)->Q v H
theorem V1:gC X (Og X.K X.w):=fun b c g s m H x y v u Q I o n ⟨a,k,Y,d,S,R,⟨h,U,p,T⟩,J,q⟩ z=>by
 subst S R;cases o;obtain⟨t,rfl⟩:=n;obtain⟨W,i,O,N,M⟩:=Li (prog:=X.prog) T J;have B:=I.kIn a _ p;have j:s.heap.MapOf (PySem.strKind X.prog X.w) a (findBy (PySem.strKind X.prog X.w).is h):=⟨_,h,U,B,⟨rfl,rfl,rfl⟩,rfl,fun e G=>Lj T e (by simpa using G),fun _=>rfl⟩
 have E:findBy (PySem.strKind X.prog X.w).is h k=some W.val:=by
  unfold findBy;rw [<- Array.find?_toList,O];rfl
 have l:=j.typeIs;unfold UV;refine Qa ?_;rw [UR l.not_modules];refine Qa (JC l PySem.F.slot_dict_getitem.lookup ?_)
 have fin:J3 (J4 X.prog X.w) X.A (Vs c false (.ref a) (.str k t)) (fun r f=>J3 (J4 X.prog X.w) X.A (letTemporaryGo b (.ref a) r >>= fun _=>pure r) (EP X g m Q) X.xe f) X.xe s:=by
  rw [z];refine wpAny_operating ?_;refine wpAny_getItem_of (knd:=PySem.strKind X.prog X.w) (k:=k) (by simp [PySem.strKind,Ui]) j E ?_;exact Qa (U3 (Qb ⟨i,H,I.tok _,N,q i fun F=>M F H⟩))
 first
  | exact Qb (Qa fin)
  | exact Qa (Qb (Qa fin))
  | exact Qa fin
theorem Gk(j:Gl X x)(i:X.mg x=some (.ref a))(T:kE X.K X.w a tb)(m:DE X e ga)(l:(x == ("__debug__":Str))=false:=by decide)(hs:sA e:=by exact fun _ _=>rfl):DE X (.Subscript (.Name x p) e pos) (oO tb ga):=
 cJ (w5 V1 (CB (v:=.ref a) j i rfl l) m hs) fun t H Q g=>by
  obtain⟨F,b,f,d,S,q,k⟩:=g;obtain⟨h,n,q⟩:=aF q
  refine⟨F,b,f,h,S,n,fun c r v s o=>?_⟩
  split at q
  ·cases o
   exact⟨a,_,tb,d,rfl,rfl,T,q,fun v R=>k c r v s (R c)⟩
  ·cases q
end
mutual
def uY:D->Bool
 | .none=>true
 | .bool _=>true
 | .int _=>true
 | .str _=>true
 | .tuple a=>noLs a
 | _=>false
def noLs:List D->Bool
 | []=>true
 | d::ds=>uY d && noLs ds
end
mutual
theorem Hl{K:PySem.W.Frag}{F a:YP->Prop}{H:Hp}{d:D}{v:V}(h:aO K F H d v)(q:uY d=true):aO K a H d v:=by
 cases h with
 | non=>exact .non
 | bl b=>exact .bl b
 | int i=>exact .int i
 | str x=>exact .str x
 | tup h r=>exact .tup h (noLs_rep r q)
 | lst h r=>cases q
 | dct f h n l r=>cases q
 | exn f h n=>cases q
theorem noLs_rep{K:PySem.W.Frag}{F a:YP->Prop}{H:Hp}{ds:List D}{vs:List V}(h:Reps K F H ds vs)(q:noLs ds=true):Reps K a H ds vs:=by
 cases h with
 | nil=>exact .nil
 | cons h r=>
  have q:=QM.mp q;exact .cons (Hl h q.1) (noLs_rep r q.2)
end
section
variable {X:Cx}{e:Expr}{ga:aA->Option D}{p pos:Pos}
end
end TB
namespace TX
open PySem.Spec L2 DL
open Builtin Builtin.Str
section
variable {X:Cx}
def Dy:D->Bool
 | .none=>true
 | _=>false
def yY(x:Str):It:=⟨fun i _=>i<x.cps.size,fun i H v a=>a=H/\∃ c,x.cps[i]?=some c/\v=.str ⟨#[c]⟩,fun i _=>x.cps.size<=i⟩
theorem zSF{P:J5}{w:J6}{K:PySem.W.Frag}{tg:Expr}(f:YP)(x:Str)(t:Tok):jP P w K tg (yY x) [f] f (fun i h=>h.IsStrIter f (ZA x) x t i) where
 mem:=by simp
 obj:=fun i h l b g=>by
  obtain⟨o,ho,_,hd⟩:=l;rw [Qp.mp g]
  exact⟨o,ho,fun v z=>by rw [hd]at z;cases z⟩
 keep:=fun i h j l k=>by
  obtain⟨o,ho,r⟩:=l
  exact⟨o,k f (by simp) o ho,r⟩
 item:=by
  intro X hP Y hK hc i m s U H E I M l hg;subst hP Y hK;obtain⟨T,S,f2,R,O,N⟩:=M f (by simp);have a3:i<x.cps.size:=hg
  have go:∀(n:String),ZA x=n->n="str_ascii_iterator" ∨ n="str_iterator"->∀(c:Nat) (j:Heap) (J:Tok),x.cps[i]?=some c->j.IsStrIter f n x t (i+1)->(∀ b o,b≠f->s.heap.get? b=some o->j.get? b=some o)->∃ u,some (Value.str ⟨#[c]⟩ s.toks)=some u /\
    J3 (J4 X.prog X.w) X.A (U6 tg (.ref f) u) (fun _ s2=>∃ y H',Inv X m U H' s2/\RelV y u/\(yY x).yld i H y H'/\s2.heap.IsStrIter f (ZA x) x t (i+1)/\∀ b∈[f],H' b=none) E { s with heap:=j,toks:=J }:=fun n hn a2 c j J a6 F kk=>by
   have I1:Inv X m U H { s with heap:=j,toks:=J }:=I.turned (fun b o g e=>kk b o g e) T S R O N;obtain⟨o',a0,a5,a4⟩:=id F
   refine⟨_,rfl,qB (s:={ s with heap:=j,toks:=J }) (n:=n) a0 a5 a4 (by rcases a2 with rfl | rfl <;> decide) ⟨.str ⟨#[c]⟩,H,I1,⟨_,rfl⟩,⟨rfl,c,a6,rfl⟩,by rw [hn];exact F,fun b g=>(M b g).1⟩⟩
  have p:x.cps[i]?=some x.cps[i]:=by simp [a3]
  by_cases a:(x.cps.all (·<128))=true
  ·have e:ZA x="str_ascii_iterator":=by unfold ZA;rw [if_pos a]
   have d:s.heap.IsStrIter f "str_ascii_iterator" x t i:=by rw [<- e];exact l
   exact wpAny_pyNext_ascii_item d p fun j B Z=>go _ e (.inl rfl) _ j _ p B fun b o g q=>Z.extBut b o g q
  ·have e:ZA x="str_iterator":=by unfold ZA;rw [if_neg a]
   have d:s.heap.IsStrIter f "str_iterator" x t i:=by rw [<- e];exact l
   exact wpAny_pyNext_wide_item d p fun j B Z=>go _ e (.inr rfl) _ j _ p B fun b o g q=>Z.extBut b o g q
 done:=by
  intro X hP Y hK hc i m s U H E I M l hg;subst hP Y hK;obtain⟨T,S,f2,R,O,N⟩:=M f (by simp);have G:x.cps[i]?=none:=YD hg;by_cases a:(x.cps.all (·<128))=true
  ·have e:ZA x="str_ascii_iterator":=by unfold ZA;rw [if_pos a]
   have d:s.heap.IsStrIter f "str_ascii_iterator" x t i:=by rw [<- e];exact l
   exact wpAny_pyNext_ascii_end (I.ok.hd hc) d G fun j eb=>⟨rfl,I.turned (t':=s.toks) (fun b o g e=>eb b o g e) T S R O N⟩
  ·have e:ZA x="str_iterator":=by unfold ZA;rw [if_neg a]
   have d:s.heap.IsStrIter f "str_iterator" x t i:=by rw [<- e];exact l
   exact wpAny_pyNext_wide_end (I.ok.hd hc) d G fun j eb=>⟨rfl,I.turned (t':=s.toks) (fun b o g e=>eb b o g e) T S R O N⟩
 self:=fun A i s Q E l h=>by
  by_cases a:(x.cps.all (·<128))=true
  ·have e:ZA x="str_ascii_iterator":=by unfold ZA;rw [if_pos a]
   have d:s.heap.IsStrIter f "str_ascii_iterator" x t i:=by rw [<- e];exact l
   exact wpAny_pyIter_striter_ascii d h
  ·have e:ZA x="str_iterator":=by unfold ZA;rw [if_neg a]
   have d:s.heap.IsStrIter f "str_iterator" x t i:=by rw [<- e];exact l
   exact wpAny_pyIter_striter_wide d h
def Aq:D->Option (List D)
 | .str x=>some ((Ap x).map .str)
 | _=>none
def oQ(b:aA->Option D):aA->Option (List D):=fun a=>(b a).bind Aq
theorem Gn{N e:Expr}{B:aA->Option D}(U:DE X e B):DI X N e (oQ B):=by
 intro j s G H R I h;obtain⟨F,l,J,Z,S,q,k⟩:=h;obtain⟨d,W,q⟩:=aF q;refine aT (U j s G H (fun x f=>∃ g,aI F g H f/\aO X.K g f d x) I ⟨F,l,J,d,S,W,fun g f v u r=>⟨g,u,r⟩⟩) fun v m w=>?_;obtain⟨x,f,I1,O,g,u,r⟩:=w
 cases r with
 | str z=>
  cases q;obtain⟨t,rfl⟩:=O;refine wpAny_pyIter_strU ?_
  refine⟨m.heap.objs.size,[m.heap.objs.size],_,yY z,f,rfl,I1.kept (t':=m.toks) fun b o e=>Qe _ e,zSF _ z t,⟨_,Qz _ rfl,rfl,rfl⟩,fun b Q=>?_,k g f _ u ?_⟩
  ·have e:b=m.heap.objs.size:=by simpa using Q
   subst e;exact I1.fpOk (Qk _) (I1.hok.fresh (Qk _))
  ·intro E H2 T w i
   refine⟨fun d a=>?_,fun p=>?_⟩
   ·unfold Ap at a;rw [Yj,QN,QI]at a
    cases n:z.cps[i]? with
    | none=>rw [n]at a;cases a
    | some c=>
     rw [n]at a;cases a
     refine⟨(Array.getElem?_eq_some_iff.mp n).1,fun y Y M=>?_⟩
     obtain⟨rfl,c',A,rfl⟩:=M;rw [n]at A;cases A
     exact⟨E,aI.refl E Y,.str _⟩
   ·unfold Ap at p;rw [Qo,Qo,Qh]at p;exact p
 | _=>cases q
end
end TX
namespace CL
open PySem.Spec L2
section
variable {X:Cx}{N':List Str}{scope:Uf}{inner:List (Option Nat)}{x0:Str}{cl:List (Str × YP)}{C:YP}{fp:List YP}{s s4:J0}{H:Hp}{σ:L2.St}{pins:List (YP × Obj)}
end
section
variable {X:Cx}{elt tg iter:Expr}{ifs:List Expr}{scope:Uf}{pos:Pos}{N':List Str}{inner:List (Option Nat)}{x0:Str}{wi:TI}{g:TG}{ti:TT}{te:TE}
end
end CL
namespace DL
open PySem.Spec PySem.SeqAt L2 CL
section
variable {X:Cx}{elt tg iter:Expr}{ifs:List Expr}{scope:Uf}{pos:Pos}{N':List Str}{inner:List (Option Nat)}{x0:Str}{gi:aA->Option (List D)}{s:D->aA->Option aA}{t:aA->Option Bool}{ge:aA->Option D}
end
end DL
namespace CL
open PySem.Spec L2
section
variable {X:Cx}{elt tg iter:Expr}{ifs:List Expr}{scope:Uf}{pos:Pos}{N':List Str}{inner:List (Option Nat)}{x0:Str}{wi:TI}{g:TG}{ti:TT}{te:TE}
end
end CL
namespace DL
open PySem.Spec PySem.SeqAt L2 CL
section
variable {X:Cx}{elt tg iter:Expr}{ifs:List Expr}{scope:Uf}{pos:Pos}{N':List Str}{inner:List (Option Nat)}{x0:Str}{gi:aA->Option (List D)}{s:D->aA->Option aA}{t:aA->Option Bool}{ge:aA->Option D}
end
end DL
namespace DC
open PySem.Spec L2 DL ST SL EL
section
variable {P:J5}{w:J6}{A:Around}{E:JZ->J0->Prop}{s:J0}
end
section
variable {X:Cx}{e k v:Expr}{es:List Expr}{gr:aA->Option (List D)}{ge gk gv gd:aA->Option D}{p pos:Pos}
end
end DC
namespace DC
open PySem.Spec L2 DL ST SL EL
section
variable {X:Cx}{e k v o d:Expr}{es:List Expr}{gr:aA->Option (List D)}{ga ge gk gv gd:aA->Option D}{p pos:Pos}
def ON(r:V->List V->Hp->VK->Prop)(to:TE)(t:TA):TE:=fun b H Q=>to b H fun x c=>(∃ a es ep,x=.ref a/\c a=some (bI a es ep))/\t b c fun d e=>r x d e Q
theorem V8{to:TE}{t:TA}{name:Str}{m c:Pos}{id:String}{r:V->List V->Hp->VK->Prop}(u:Slot "dict" name id)(ty:typeOf (.builtin id)=pure (.type "method_descriptor"))(N:y3 X id r)(M:PE X o to)(T:PA X (e::es) t)
  (S:ZE o name X.env (Zr o X.env)=Zr o X.env)
  (R:((Zt c (J2 (e::es) X.env)).all (fun x => !x.1) && (UC c (ZT [] X.env)).all (fun x=>x.1.isSome) && decide ((e::es).length+([]:List Us).length+(if([]:List Us).isEmpty then 0 else 1)<30))=true)
  (O:(m.endLine == c.line)=true) (hs:J2 (e::es) X.env=(false,Zr e X.env)::J2 es X.env) (K:(Zt c (J2 es X.env)).any (·.1)=false):PE X (.Call (.Attribute o name m) (e::es) [] c) (ON r to t):=fun b s d H Q I h=>by
 refine wpAny_Call_method_late S R O rfl (aT (M b s d H _ I h) fun v g ⟨x,n,I1,B,⟨a,f,W,U,J⟩,G⟩=>?_);subst U;cases B;obtain⟨⟨lo,i,z,l,k,g3,g4⟩,_⟩:=(show eG X.prog X.w n g.heap a (bI a f W)from I1.hok a _ J)
 refine⟨"dict",id,PySem.F.plainAttrs_dict,u,ty,⟨i,l,k.1⟩,fun a' Y=>by cases Y;exact⟨i,l,k.2.1⟩,?_⟩
 have j:=T c b g d n _ I1 G;rw [hs]at j ⊢;exact Calls.callWith_builtin (by show(false || (Zt c (J2 es X.env)).any (·.1))=false;rw [K];rfl) (Calls.evalArgs_plain (aT j fun q y ⟨p,H2,Z,A,E⟩=>N b y d H2 (.ref a) p (.ref a) q Q Z rfl A E))
end
end DC
namespace DC
open PySem.Spec L2 DL ST SL EL TB TX
def wI:D->D->Option D
 | d,.none=>some (.bool (!Dy d))
 | _,_=>none
section
variable {X:Cx}{e k v a b:Expr}{es:List Expr}{gr:aA->Option (List D)}{ga gb ge gk gv:aA->Option D}{p pos:Pos}
theorem WB:bF X (Ze .IsNot) (cD X.K wI):=tW Wx fun x y H Q b=>by
 obtain⟨F,d,e,q,z,c,R2,a,k⟩:=b;unfold wI at a
 split at a
 ·cases a;cases R2
  refine⟨rfl,?_⟩
  have e:decide (x=.non)=Dy d:=by cases c <;> rfl
  rw [e];exact k F H _ (aI.refl F H) (.bl _)
 ·cases a
def Iu(i:Nat)(f e:aA->Option D):aA->Option aV:=fun a=>(f a).bind fun c=>(e a).bind fun d=>(cL c).bind fun b=>some (.nx (a.set i (.ownD [(gF b,d)])))
theorem Wb(hu:X.A.units+65<Zf)(Z:DE X k gk)(Y:DE X v gv):PE X (.Dict [some k] [v] pos) (fun σ H Q=>∃ F H₀ ρ kd ks d,aZ X.K F H H₀ σ ρ/\gk ρ=some kd/\cL kd=some ks/\gv ρ=some d/\∀ F' H' p b w ep ep0,H p=none->aI F F' (aJ H p (bI p [] ep0)) H'->bJ X.K H' b (ks.map V.int)->aO X.K F' H' d w->Q (.ref p) (aJ H' p (bI p [(.inl ks,b,w)] ep))):=fun a s σ H Q I l=>by
 obtain⟨F,H₀,ρ,kd,ks,d,S,e1,e2,e3,U⟩:=l;refine wpAny_Dict_any rfl rfl (by simp) (by simp) ?_;have J:H s.heap.objs.size=none:=I.hok.fresh (Qk _);have T:(s.heap.objs.size == Zm)=false:=beq_eq_false_iff_ne.mpr (Z4 (QG (EA I)));have dd:(s.heap.push { cls:=.type "dict",data:=.dict #[] }).DictOfH (dZ X.prog X.w) s.heap.objs.size []:=⟨_,_,_,Qz _ rfl,⟨rfl,rfl,rfl⟩,rfl,rfl,fun x W=>(nomatch W),.nil⟩;obtain⟨ep,oo⟩:=wJ (H:=H) T dd .nil;have I0:Inv X a σ (aJ H s.heap.objs.size (bI s.heap.objs.size [] ep)) { s with heap:=s.heap.push { cls:=.type "dict",data:=.dict #[] } }:=I.laid (t':=s.toks) (fun b o q=>Qe _ q) (Qk _) oo;have E0:aI F F H (aJ H s.heap.objs.size (bI s.heap.objs.size [] ep)):=aI.fresh J;generalize s.heap.objs.size=f at *;have S0:=S.ext E0;refine pairTrees_cons_walk (aT (Z a _ σ _ (fun x i=>∃ h,aI F h (aJ H f (bI f [] ep)) i/\aO X.K h i kd x) I0 ⟨F,H₀,ρ,kd,S0,e1,fun h i v E1 E=>⟨h,E1,E⟩⟩) fun u1 N l=>?_);obtain⟨x1,i,I1,R,h,E1,E⟩:=l;have S1:=S0.ext E1;obtain⟨b,rfl,hb⟩:=nY E e2;cases R;refine aT (Y a N σ i (fun x g=>∃ j,aI h j i g/\aO X.K j g d x) I1 ⟨h,H₀,ρ,d,S1,e3,fun j g v E2 R2=>⟨j,E2,R2⟩⟩) fun u2 t l=>?_;obtain⟨G,g,I2,O,j,E2,R2⟩:=l;refine pairTrees_nil_walk ?_;have M:g f=some (bI f [] ep):=E2.same _ _ (E1.same _ _ cP);obtain⟨y,xs,d2,er⟩:=p4 I2 M (fun e he=>(nomatch he)) .nil;cases er;have m:=eI.sqT E2.same hb;unfold storeAll;rw [List.forIn_cons];refine Qa (Qa (wpAny_dictSet_heap (knd:=dZ X.prog X.w) (k:=ks) (show X.A.units<Zf from by lia) (iM I2 m) d2 (fun h' r B=>Qb ?_) (Q2 _)));obtain⟨n,u⟩:=wJ (H:=g) y r (AT O .nil);have I4:Inv X a σ (aJ g f (bI f (jD [] ks b G) n)) { t with heap:=h',toks:=t.toks+(dZ X.prog X.w).draws ks }:=I2.write (x:=f) (e:=f) (t':=t.toks+(dZ X.prog X.w).draws ks) (by rw [M];exact Ub) (.inl rfl) (fun c ob hc z=>(B.2 c hc).trans z) (let⟨o2,_,_,hq,_⟩:=r;⟨o2,hq⟩) u
 show J3 _ _ (forIn [] PUnit.unit _) _ _ _
 rw [List.forIn_nil];exact Qb ⟨.ref f,_,I4,rfl,U j g f b G n ep J (E1.trans E2) m R2⟩
theorem RY(hN:X.N.Nodup)(hu:X.A.units+65<Zf)(hk:DE X k gk)(hv:DE X v gv)(hi:X.N[i]?=some x:=by rfl)(hx:Loc X.env.scope x:=by first | exact Zi rfl | exact Zd rfl)
  (hs:ZC (.Dict [some k] [v] pos'') (some (.Name x pos')) pos.line X.env=pure false:=by rfl) (hf:X.fn x=true ∨ X.env.scope.names.lookup x=some .local:=by first | exact .inl rfl | exact .inr rfl | assumption):
  DS X (.Assign [.Name x pos'] (.Dict [some k] [v] pos'') pos) (Iu i gk gv):=ps_mono (nX hN hi hx (Wb hu hk hv) hs hf) fun W σ H zz=>by
 obtain⟨a4,B,F,ρ,o,E,S,q,kk⟩:=zz;obtain⟨kd,e1,q⟩:=aF q;obtain⟨d,e3,q⟩:=aF q;obtain⟨J,e2,q⟩:=aF q;cases q
 refine⟨F,B,ρ,kd,J,d,S,e1,e2,e3,fun Y Z p b w I a0 hp E' hb R=>?_⟩
 have E0:aI F F H (aJ H p (bI p [] a0)):=aI.fresh hp;have S':=(S.ext E0).ext E';have h0:B p=none:=E.same.free hp;have hH:Z p=some (bI p [] a0):=E'.same _ _ cP
 have nf:¬ Y p:=fun f=>by
  rcases E'.new p f with f | ⟨f,_⟩
  ·exact S.fz p f hp
  ·rw [cP]at f;cases f
 have T:bA X.K Y Y Z (aJ Z p (bI p [(.inl J,b,w)] I)):=⟨fun _ h=>h,fun a xs h=>by
   rcases h with(h | ⟨o,h⟩) | h
   ·exact .inl (.inl (by rw [aU (by intro z;subst z;rw [hH]at h;cases h)];exact h))
   ·exact .inl (.inr ⟨o,by rw [aU (by intro z;subst z;rw [hH]at h;cases h)];exact h⟩)
   ·exact .inr h,fun a xs f h=>by
   have na:a≠p:=fun z=>nf (by rw [<- z];exact f);rcases h with h | ⟨o,h⟩
   ·exact .inl (by rw [aU na];exact h)
   ·exact .inr ⟨o,by rw [aU na];exact h⟩,fun a φ f h=>by rw [aU (fun z=>nf (by rw [<- z];exact f))];exact h⟩
 have old:∀(j:Nat) (s:Sl),ρ[j]?=some s->∃ o,σ[j]?=some o/\qV X.K Y (aJ Z p (bI p [(.inl J,b,w)] I)) B o s:=fun j s h=>by
  obtain⟨o,q,z⟩:=S.sl j s h
  have ne:∀(a:YP) (u:HO),H a=some u->a≠p:=fun a u t e=>by rw [e,hp]at t;cases t
  have up:∀(a:YP) (u:HO),H a=some u->aJ Z p (bI p [(.inl J,b,w)] I) a=some u:=fun a u t=>by rw [aU (ne a u t)];exact E'.same _ _ (E0.same _ _ t)
  have O:∀(a:YP) (u:HO),H a=some u->¬ F a->¬ Y a:=fun a u t nf f=>by
   rcases E'.new a f with f | ⟨f,_⟩
   ·exact nf f
   ·rw [E0.same _ _ t]at f;cases f
  have T2:bA X.K F Y H (aJ Z p (bI p [(.inl J,b,w)] I)):=(E0.trans E').stay.trans T
  refine⟨o,q,?_⟩
  cases s with
  | no=>trivial
  | dat d=>obtain⟨v,M,r⟩:=z;exact⟨v,M,r.stay T2⟩
  | own ds=>obtain⟨a,vs,M,t,y,U,r⟩:=z;exact⟨a,vs,M,up a _ t,O a _ t y,U,r.stay T2⟩
  | ownD a2=>obtain⟨a,G,I,M,t,y,U,n,l,r⟩:=z;exact⟨a,G,I,M,up a _ t,O a _ t y,U,n,l,r.stay T2⟩
  | ownM a2=>obtain⟨a,G,I,M,m⟩:=z;exact⟨a,G,I,M,m.to T2 fun c φ hc y=>⟨up c _ hc,O c _ hc y⟩⟩
 refine kk Y _ _ ((E.trans (E0.trans E')).turn h0) ((E0.trans E').stay.trans T) ⟨by simp [S.len],fun j s h=>?_,fun j m a ds G a3 h1 h2 h3 h4=>?_,fun a f=>?_⟩
 ·by_cases Q:i=j
  ·subst Q
   have hl:i<ρ.length:=by simpa using(Qc.mp h).1
   rw [Qy hl]at h;cases h
   exact⟨some (.ref p),by rw [Qy (by rw [S.len];exact hl)],p,[(.inl J,b,w)],I,rfl,cP,nf,h0,by simp,by simp,.cons (k:=.inl J) (T.tp _ _ hb) (R.stay T) .nil⟩
  ·rw [Qr Q]at h;obtain⟨o,q,z⟩:=old j s h
   exact⟨o,by rw [Qr Q];exact q,z⟩
 ·have nm:∀(m:Nat) (G:List D),(ρ.set i (.ownD [(gF J,d)]))[m]?=some (.own G)->i≠m:=fun m G g z=>by
   subst z
   have hl:i<ρ.length:=by simpa using(Qc.mp g).1
   rw [Qy hl]at g;cases g
  have nj:=nm j ds h1;have nk:=nm m G h2;rw [Qr nj]at h1 h3;rw [Qr nk]at h2 h4;exact S.sep j m a ds G a3 h1 h2 h3 h4
 ·by_cases t:a=p
  ·subst t;rw [cP];simp
  ·rw [aU t];exact S'.fz a f
end
end DC
namespace DC
open PySem.Spec L2 DL ST SL EL TB TX
section
variable {X:Cx}{e:Expr}{ga:aA->Option D}{p pos:Pos}
def CO(a:List (Str × D)):It:=⟨fun i _=>i<a.length,fun i H x b=>b=H/\∃ k d,a[i]?=some (k,d)/\x=.str k,fun i _=>a.length<=i⟩
theorem Lk{K:PySem.W.Frag}{w:J6}{a:List (Str × D)}{es:List ZI}(T:gS K w a es):a.length=es.length:=by
 induction T with
 | nil=>rfl
 | cons _ _ _ _ b=>simp [b]
theorem zSv{K:PySem.W.Frag}{w:J6}{a:List (Str × D)}{es:List ZI}(T:gS K w a es):∀{i:Nat}{k:Str}{d:D},a[i]?=some (k,d)->∃ e t,es[i]?=some e/\e.key=.str k t:=by
 induction T with
 | nil=>intro i k d h;simp at h
 | cons _ _ _ _ b=>
  intro i k d h
  cases i with
  | zero=>simp at h;obtain⟨rfl,rfl⟩:=h;exact⟨_,_,rfl,rfl⟩
  | succ i=>simpa using b (by simpa using h)
theorem B7(I:Inv X pins σ H s)(c:X.K.lookup a=some ⟨.type "dict",none,.dict es ep,#[]⟩)(b:(a == Zm)=false):kD s.heap a es ep:=⟨b,_,I.kIn a _ c,⟨rfl,rfl,rfl⟩,rfl⟩
theorem zSG{P:J5}{w:J6}{K:PySem.W.Frag}{Y:Expr}{a it:YP}{f:List (Str × D)}{es:Array ZI}{ep:Nat}(O:K.lookup a=some ⟨.type "dict",none,.dict es ep,#[]⟩)(N:(a == Zm)=false)(T:gS K w f es.toList):jP P w K Y (CO f) [it] it (fun i h=>h.IsKeyIter it a i es.size ep) where
 mem:=by simp
 obj:=fun i h g b l=>by
  have e:b=it:=by simpa using l
  subst e;obtain⟨o,e,c,d⟩:=g
  exact⟨o,e,fun v z=>by rw [d]at z;cases z⟩
 keep:=fun i h p g k=>let⟨o,e,c⟩:=g;⟨o,k it (by simp) o e,c⟩
 item:=by
  intro X x q y S i j s M H E I n g r;subst x q y;have Q:i<f.length:=r
  have sz:f.length=es.size:=by rw [Lk T];simp
  have rd:=B7 I O N;obtain⟨J,G,f2,F,B,A⟩:=n it (by simp);refine Cs g rd (by lia) fun p m Z=>?_;have I1:Inv X j M H { s with heap:=p }:=I.turned (t':=s.toks) (fun b o l e=>(Z.2 b l).trans e) J G F B A;obtain⟨o,e,c,d⟩:=id m
  have R:f[i]?=some (f[i].1,f[i].2):=by simp [Q]
  obtain⟨en,t,U,g2⟩:=zSv T R
  have u:es[i]=en:=by
   have:es.toList[i]?=some es[i]:=by simp [show i<es.size by lia]
   rw [this]at U;exact QF U
  refine⟨_,rfl,qB (s:={ s with heap:=p }) e c d (by decide) ⟨.str f[i].1,H,I1,?_,⟨rfl,_,_,R,rfl⟩,m,fun b l=>(n b l).1⟩⟩
  rw [u,g2]
  exact⟨t,rfl⟩
 done:=by
  intro X x q y S i j s M H E I n g r;subst x q y;have Q:f.length<=i:=r
  have sz:f.length=es.size:=by rw [Lk T];simp
  have rd:=B7 I O N;obtain⟨J,G,f2,F,B,A⟩:=n it (by simp);exact AO (I.ok.hd S) g rd (by lia) fun p eb=>⟨rfl,I.turned (t':=s.toks) (fun b o l e=>eb b o l e) J G F B A⟩
 self:=fun _ _ _ _ _ g h=>U4 g h
def zN(a:List (Str × D)):aA->Option (List D):=fun _=>some (a.map fun e=>.str e.1)
theorem VU{K:PySem.W.Frag}{F:YP->Prop}{H:Hp}{b:List (Str × D)}:kC K F H (b.map fun e=>.str e.1) (CO b):=fun j n T z i=>by
 refine⟨fun d a=>?_,fun h=>show b.length<=i by simpa using h⟩
 rw [QN]at a
 cases e:b[i]? with
 | none=>rw [e]at a;cases a
 | some l=>
  rw [e]at a;cases a
  refine⟨(Qc.mp e).1,fun x m y=>?_⟩
  obtain⟨g,k,d,c,f⟩:=y;subst g f;rw [e]at c;cases c
  exact⟨j,aI.refl _ _,.str _⟩
theorem Go{r:Expr}{x:Str}{a:YP}{g:List (Str × D)}(y:Gl X x)(u:X.mg x=some (.ref a))(T:kE X.K X.w a g)(i:(a == Zm)=false)(z:(x == ("__debug__":Str))=false:=by decide):DI X r (.Name x p) (zN g):=by
 intro c s m H R I h;obtain⟨F,l,G,N,S,q,k⟩:=h;cases q;obtain⟨J,M,j,T⟩:=T;refine aT (CB (v:=.ref a) y u rfl z c s m H (fun x d=>x=.ref a/\d=H) I ⟨rfl,rfl⟩) fun v f n=>?_;obtain⟨x,d,I1,t,B,E⟩:=n;subst B E;cases t;have rd:=B7 I1 j i;refine Ce rd ⟨f.heap.objs.size,[f.heap.objs.size],_,_,d,rfl,I1.kept (t':=f.toks) fun b o e=>Qe _ e,zSG j i T,⟨_,Qz _ rfl,rfl,rfl⟩,fun b A=>?_,k F d _ (aI.refl F d) VU⟩
 have e:b=f.heap.objs.size:=by simpa using A
 subst e;exact I1.fpOk (Qk _) (I1.hok.fresh (Qk _))
end
end DC
namespace EX
open PySem.Spec L2 DL
section
variable {X:Cx}{pins:List (YP × Obj)}{σ:L2.St}{H H':Hp}{s s':J0}
end
end EX
namespace EX
open PySem.Spec L2 DL
section
variable {X:Cx}{k n:Nat}{f C:YP}{fd:Zh}{ps:List Str}{sp:Sp}{x:Str}{p pos pos' np cpos:Pos}{e:Expr}{es:List Expr}{t:TA}{G:List D->Option R}{gr:aA->Option (List D)}{ga:aA->Option D}
end
end EX
namespace EX
open PySem.Spec L2 DL
section
variable {X:Cx}{e:Expr}{pos:Pos}{ga:aA->Option D}
end
end EX
namespace EX
open PySem.Spec L2 DL
section
variable {M:Model}{A:Around}{E:JZ->J0->Prop}{s:J0}
end
section
variable {X:Cx}{pins:List (YP × Obj)}{σ:L2.St}{H:Hp}{s:J0}{h':Heap}{a C:YP}{no:YP->Prop}
end
end EX
namespace EX
open PySem.Spec L2 DL PySem.W
section
variable {prog:J5}{w:J6}{A:Around}{E:JZ->J0->Prop}{h:Heap}{g:Array Vv}{d:Drawn}{t:Nat}{os:OsState}{a C:YP}{o:Obj}{K:PySem.W.Frag}
end
end EX
namespace EX
open PySem.Spec L2 DL PySem.W
section
variable {X:Cx}{pins:List (YP × Obj)}{σ:L2.St}{H:Hp}{s:J0}
end
section
variable {X:Cx}{body suite:List Zv}{b₀:Zv}{gb gh:aA->Option aV}{cs:List Str}{i:Nat}{n Ln:Str}{np hp pos:Pos}{L:YP}
end
end EX
namespace EX
open PySem.Spec L2 DL PySem.W
section
variable {X:Cx}{k n:Nat}{f:YP}{fd:Zh}{ps:List Str}{x:Str}{p pos pos':Pos}{e e' c:Expr}{es:List Expr}{G:List D->Option R}{gr:aA->Option (List D)}{ga:aA->Option D}{gx gy:aA->Option R}
end
section
variable {X:Cx}{e:Expr}{ga:aA->Option D}{p pos p':Pos}{tb:List (Str × Bool)}
end
end EX
namespace EX
open PySem.Spec L2 DL PySem.W
section
variable {X:Cx}{e e' c:Expr}{gx gy:aA->Option R}{t:aA->Option Bool}{pos:Pos}
end
end EX
namespace EX
open PySem.Spec L2 DL PySem.W
end EX
namespace EX
open PySem.Spec L2 DL PySem.W
end EX
namespace EX
open PySem.Spec L2 DL PySem.W
section
variable {X:Cx}{body suite:List Zv}{b₀:Zv}{gb gh:aA->Option aV}{cs:List Str}{Ln:Str}{np hp pos:Pos}{L:YP}
end
end EX
namespace TB
open PySem.Spec L2 DL TX
def AL(b:List (Str × D))(c:aA->Option D):aA->Option D:=fun a=>(c a).bind fun k=>match k with
 | .str x=>(b.lookup x).bind fun _=>some (.bool false)
 | _=>none
section
variable {X:Cx}{e:Expr}{ga:aA->Option D}{p pos:Pos}
def Id(K:PySem.W.Frag)(w:J6):R2:=fun x y H Q=>∃ a k tb d,x=.str k/\y=.ref a/\kE K w a tb/\(a == Zm)=false/\tb.lookup k=some d/\Q (.bl false) H
theorem Wy:bF X (Ze .NotIn) (Id X.K X.w):=fun c s E H x y v u Q I g f ⟨a,k,G,d,z,r,⟨b,A,i,T⟩,h,o,q⟩=>by
 subst z r;cases f;obtain⟨t,rfl⟩:=g;obtain⟨B,F,p,M,J⟩:=Li (prog:=X.prog) T o;have j:=I.kIn a _ i;have l:s.heap.MapOf (PySem.strKind X.prog X.w) a (findBy (PySem.strKind X.prog X.w).is b):=⟨_,b,A,j,⟨rfl,rfl,rfl⟩,rfl,fun e n=>Lj T e (by simpa using n),fun _=>rfl⟩
 have m:findBy (PySem.strKind X.prog X.w).is b k=some B.val:=by
  unfold findBy;rw [<- Array.find?_toList,p];rfl
 refine wpAny_notIn_of (knd:=PySem.strKind X.prog X.w) (k:=k) (by simp [PySem.strKind,Ui]) h l ?_;rw [m]
 exact⟨.bl false,H,I.tok _,rfl,q⟩
theorem TY(o:X.mg x=some (.ref a))(T:kE X.K X.w a tb)(e:(a == Zm)=false)(q:tD X.K (AL tb ga) σ H Q):lL (Id X.K X.w) (tD X.K ga) (fun σ H Q=>Q (.ref a) H) σ H Q:=by
 obtain⟨F,b,c,d,S,q,k⟩:=q;obtain⟨f,h,q⟩:=aF q
 refine⟨F,b,c,f,S,h,fun m l v n j=>?_⟩
 split at q
 ·obtain⟨i,g,q⟩:=aF q;cases q;cases j
  exact⟨a,_,tb,i,rfl,rfl,T,e,g,k m l _ n (.bl false)⟩
 ·cases q
theorem R4(d:Gl X x)(b:X.mg x=some (.ref a))(T:kE X.K X.w a tb)(c:(a == Zm)=false)(h:DE X e ga)(g:ZN .NotIn (.Name x p)=false)(f:(x == ("__debug__":Str))=false:=by decide):DT X (.Compare e [.NotIn] [.Name x p] pos) (eB (AL tb ga)):=
 l8 (xG Wy h (CB (v:=.ref a) d b rfl f) g) fun _ _ _ q=>Ck (fun _ _ _=>TY b T c) q
end
end TB
namespace OB
open PySem.Spec L2 DL
structure cU(K:PySem.W.Frag)(φ F F':YP->Prop)(H H':Hp):Prop where
 st:bA K F F' H H'
 out:∀ a o,H a=some o->¬ φ a->H' a=some o
 new:∀ a,F' a->F a ∨ H a=none
 fz:∀ a,F' a->H' a≠none
 lv:∀ a,H' a=none->H a=none
theorem cU.refl{K:PySem.W.Frag}{φ F:YP->Prop}{H:Hp}(z:∀ a,F a->H a≠none):cU K φ F F H H:=⟨bA.refl K F H,fun _ _ h _=>h,fun _ h=>.inl h,z,fun _ h=>h⟩
theorem cU.ext{K:PySem.W.Frag}{φ F b:YP->Prop}{H H':Hp}(z:∀ a,F a->H a≠none)(e:aI F b H H'):cU K φ F b H H':=
 ⟨e.stay,fun a o h _=>e.same a o h,fun a f=>(e.new a f).imp_right fun h=>h.1,e.fz z,fun _ h=>e.same.free h⟩
theorem cU.trans{K:PySem.W.Frag}{φ c F g e:YP->Prop}{H d H2:Hp}(a:cU K φ F g H d)(b:cU K c g e d H2)(s:∀ x,c x->φ x ∨ H x=none):cU K φ F e H H2:=
 ⟨a.st.trans b.st,fun x o h n=>b.out x o (a.out x o h n) (fun f=>(s x f).elim n fun z=>by rw [h]at z;cases z),
  fun x f=>(b.new x f).elim (a.new x) fun f=>.inr (a.lv x f),b.fz,fun x h=>a.lv x (b.lv x h)⟩
structure cF(K:PySem.W.Frag)(B:Type) where
 cl:B->YP
 fn:B->List Str
 At:(YP->Prop)->Hp->YP->B->(YP->Prop)->Prop
 own:∀{F:YP->Prop}{H:Hp}{p:YP}{b:B}{φ:YP->Prop},At F H p b φ->φ p/\∀ a,φ a->H a≠none/\¬ F a
 ins:∀{F:YP->Prop}{H:Hp}{p:YP}{b:B}{φ:YP->Prop},At F H p b φ->∃ dx fs,H p=some (.ins (cl b) dx fs)/\fs.map (·.1)=fn b
 keep:∀{F F':YP->Prop}{H H':Hp}{p:YP}{b:B}{φ:YP->Prop},At F H p b φ->bA K F F' H H'->(∀ a o,φ a->H a=some o->H' a=some o)->(∀ a,φ a->¬ F' a)->At F' H' p b φ
abbrev Oa:=YP × (YP->Prop)
def fC(b:List Oa)(a:YP):Prop:=∃ o,o∈b/\o.2 a
structure bH(K:PySem.W.Frag)(os os':List Oa)(F F':YP->Prop)(H H':Hp):Prop where
 k:cU K (fC os) F F' H H'
 ft:∀ a,fC os' a->fC os a ∨ H a=none
 ad:∀(j:Nat) (o:Oa),os[j]?=some o->∃ φ,os'[j]?=some (o.1,φ)
theorem bH.refl{K:PySem.W.Frag}{b:List Oa}{F:YP->Prop}{H:Hp}(z:∀ a,F a->H a≠none):bH K b b F F H H:=⟨cU.refl z,fun _ h=>.inl h,fun _ o h=>⟨o.2,h⟩⟩
theorem bH.trans{K:PySem.W.Frag}{e d c:List Oa}{F l i:YP->Prop}{H g H2:Hp}(a:bH K e d F l H g)(b:bH K d c l i g H2):bH K e c F i H H2:=
 ⟨a.k.trans b.k a.ft,fun x f=>(b.ft x f).elim (a.ft x) fun f=>.inr (a.k.lv x f),fun j o h=>
  let⟨_,h1⟩:=a.ad j o h
  let⟨φ2,h2⟩:=b.ad j _ h1
  ⟨φ2,h2⟩⟩
theorem bH.ext{K:PySem.W.Frag}{b:List Oa}{F c:YP->Prop}{H H':Hp}(z:∀ a,F a->H a≠none)(e:aI F c H H'):bH K b b F c H H':=⟨cU.ext z e,fun _ h=>.inl h,fun _ o h=>⟨o.2,h⟩⟩
section
variable {K:PySem.W.Frag}{B:Type}(k:cF K B)
structure Os(F:YP->Prop)(H:Hp)(Ω:List B)(os:List Oa):Prop where
 at_:Paired (fun b (o:Oa)=>k.At F H o.1 b o.2) Ω os
 dj:∀(i j:Nat) (o u:Oa),i≠j->os[i]?=some o->os[j]?=some u->∀ a,o.2 a->¬ u.2 a
structure SO(τ:List (Nat × Nat))(F:YP->Prop)(H H₀:Hp)(σ:L2.St)(ρ:aA)(Ω:List B)(os:List Oa):Prop where
 S:aZ K F H H₀ σ ρ
 o:Os k F H Ω os
 sep:∀ a,dY σ ρ a->¬ fC os a
 nm:∀(i:Nat) (kvs:List (List Int × List D)),ρ[i]?≠some (.ownM kvs)
 hd:∀ i j,(i,j)∈τ->∀ o,os[j]?=some o->σ[i]?=some (some (.ref o.1))
 lo:∀ a,H a=none->H₀ a=none
variable {k}
theorem nR{d c:Type}{R:d->c->Prop}:∀{l:List d}{m:List c}{i:Nat}{b:c},Paired R l m->m[i]?=some b->∃ a,l[i]?=some a/\R a b
 | _,_,_,_,.nil,e=>by simp at e
 | _,_,0,_,.cons r _,e=>by simp at e;subst e;exact⟨_,rfl,r⟩
 | _,_,i+1,b,.cons _ t,e=>by
  obtain⟨a,g,f⟩:=nR (i:=i) (b:=b) t (by simpa using e)
  exact⟨a,by simpa using g,f⟩
theorem i3{c d:Type}{R:c->d->Prop}:∀{l:List c}{m:List d}{i:Nat}{a:c},Paired R l m->l[i]?=some a->∃ b,m[i]?=some b/\R a b
 | _,_,_,_,.nil,e=>by simp at e
 | _,_,0,_,.cons r _,e=>by simp at e;subst e;exact⟨_,rfl,r⟩
 | _,_,i+1,b,.cons _ t,e=>by
  obtain⟨a,g,f⟩:=i3 (i:=i) (a:=b) t (by simpa using e)
  exact⟨a,by simpa using g,f⟩
theorem Cy{d c:Type}{R e:d->c->Prop}:∀{l:List d}{m:List c},Paired R l m->(∀(i:Nat) a b,m[i]?=some b->R a b->e a b)->Paired e l m
 | _,_,.nil,_=>.nil
 | _,_,.cons r t,f=>.cons (f 0 _ _ rfl r) (Cy t fun i a b h q=>f (i+1) a b (by simpa using h) q)
theorem IH{d c:Type}{R e:d->c->Prop}{k:d}{g:c}:∀{l:List d}{m:List c} (j:Nat),Paired R l m->(∀(i:Nat) a b,i≠j->m[i]?=some b->R a b->e a b)->e k g->Paired e (l.set j k) (m.set j g)
 | _,_,_,.nil,_,_=>.nil
 | _,_,0,.cons r t,f,q=>.cons q (Cy t fun i a b h z=>f (i+1) a b (by lia) (by simpa using h) z)
 | _,_,j+1,.cons r t,f,q=>.cons (f 0 _ _ (by lia) rfl r) (IH j t (fun i a b n h z=>f (i+1) a b (by lia) (by simpa using h) z) q)
theorem iY{b:List Oa}{j:Nat}{o:Oa}{a:YP}(h:b[j]?=some o)(c:o.2 a):fC b a:=⟨o,QO h,c⟩
theorem FP{b:List Oa}{a:YP}(h:fC b a):∃(j:Nat) (o:Oa),b[j]?=some o/\o.2 a:=by
 obtain⟨o,m,d⟩:=h;obtain⟨j,c⟩:=Q3 m
 exact⟨j,o,c,d⟩
theorem Os.live{F:YP->Prop}{H:Hp}{Ω:List B}{c:List Oa}(h:Os k F H Ω c){a:YP}(f:fC c a):H a≠none/\¬ F a:=by
 obtain⟨j,o,d,e⟩:=FP f;obtain⟨b,_,q⟩:=nR h.at_ d
 exact(k.own q).2 a e
theorem Os.keep{F d:YP->Prop}{H c:Hp}{Ω:List B}{os:List Oa}(h:Os k F H Ω os)(T:bA K F d H c)(s:∀ a o,fC os a->H a=some o->c a=some o)(n:∀ a,fC os a->¬ d a):Os k d c Ω os:=
 ⟨Cy h.at_ fun j b o g q=>k.keep q T (fun a u f e=>s a u (iY g f) e) fun a f=>n a (iY g f),h.dj⟩
theorem SO.ext{τ:List (Nat × Nat)}{F d:YP->Prop}{H c H₀:Hp}{b:L2.St}{ρ:aA}{Ω:List B}{os:List Oa}(S:SO k τ F H H₀ b ρ Ω os)(e:aI F d H c):SO k τ d c H₀ b ρ Ω os:=
 ⟨S.S.ext e,S.o.keep e.stay (fun a o _ h=>e.same a o h) (fun a f z=>by
  rcases e.new a z with z | ⟨z,_⟩
  ·exact(S.o.live f).2 z
  ·exact(S.o.live f).1 z),S.sep,S.nm,S.hd,fun a h=>S.lo a (e.same.free h)⟩
theorem aZ.keep(S:aZ K F H H₀ σ ρ)(n:∀ a,dY σ ρ a->¬ φ a)(p:∀(i:Nat) (kvs:List (List Int × List D)),ρ[i]?≠some (.ownM kvs))(q:cU K φ F F' H H'):aZ K F' H' H₀ σ ρ:=by
 refine⟨S.len,fun i s c=>?_,S.sep,q.fz⟩
 obtain⟨o,g,w⟩:=S.sl i s c
 refine⟨o,g,?_⟩
 have k:∀ a u,H a=some u->¬ F a->¬ F' a:=fun a u h f x=>by
  rcases q.new a x with z | z
  ·exact f z
  ·rw [h]at z;cases z
 cases s with
 | no=>trivial
 | dat d=>obtain⟨v,e,r⟩:=w;exact⟨v,e,r.stay q.st⟩
 | own B=>
  obtain⟨a,m,e,b,f,j,r⟩:=w
  exact⟨a,m,e,q.out a _ b (n a (.inl ⟨i,B,c,by rw [g,e]⟩)),k a _ b f,j,r.stay q.st⟩
 | ownD kvs=>
  obtain⟨a,y,A,e,b,f,j,t,l,r⟩:=w
  exact⟨a,y,A,e,q.out a _ b (n a (.inr ⟨i,kvs,c,by rw [g,e]⟩)),k a _ b f,j,t,l,r.stay q.st⟩
 | ownM kvs=>exact absurd c (p i kvs)
theorem Cw(S:aZ K F H H₀ σ ρ)(h:dY σ ρ a):H a≠none/\H₀ a=none/\¬ F a:=by
 rcases h with⟨i,n,d,c⟩ | ⟨i,l,d,c⟩
 ·obtain⟨b,k,j,g,f,e,_⟩:=S.own d;rw [j]at c;cases c
  exact⟨by rw [g];simp,e,f⟩
 ·obtain⟨b,k,m,j,g,f,e,_⟩:=S.ownD d;rw [j]at c;cases c
  exact⟨by rw [g];simp,e,f⟩
theorem SO.turn{τ:List (Nat × Nat)}{F G:YP->Prop}{H H' H₀:Hp}{I:L2.St}{ρ:aA}{Ω:List B}{l:List Oa}(S:SO k τ F H H₀ I ρ Ω l){j:Nat}{o:Oa}{N:B}{g:YP->Prop}(p:l[j]?=some o)(q:cU K o.2 F G H H')(s:∀ a,g a->o.2 a ∨ H a=none)
  (O:k.At G H' o.1 N g):SO k τ G H' H₀ I ρ (Ω.set j N) (l.set j (o.1,g))/\bH K l (l.set j (o.1,g)) F G H H':=by
 have y:j<l.length:=(Qc.mp p).1;have Q:∀(i:Nat) (u:Oa),i≠j->l[i]?=some u->∀ a,u.2 a->¬ o.2 a:=fun i u n c a r z=>S.o.dj i j u o n c p a r z
 have M:∀ a,fC (l.set j (o.1,g)) a->fC l a ∨ H a=none:=fun a f=>by
  obtain⟨i,u,c,r⟩:=FP f;by_cases z:j=i
  ·subst z;rw [Qy y]at c;cases c
   exact(s a r).imp_left fun h=>iY p h
  ·rw [Qr z]at c;exact .inl (iY c r)
 refine⟨⟨aZ.keep S.S (fun a h f=>S.sep a h (iY p f)) S.nm q,⟨?_,?_⟩,fun a h f=>?_,S.nm,fun i t m u E=>?_,fun a h=>S.lo a (q.lv a h)⟩,⟨q.st,fun a u h n=>q.out a u h fun f=>n (iY p f),q.new,q.fz,q.lv⟩,M,fun i u c=>?_⟩
 ·refine IH j S.o.at_ (fun i b u n c w=>k.keep w q.st (fun a x f e=>q.out a x e (Q i u n c a f)) fun a f R=>?_) O;have lv:=(k.own w).2 a f;rcases q.new a R with z | z
  ·exact lv.2 z
  ·exact lv.1 z
 ·intro i t u v n c d a r A;by_cases z:j=i
  ·subst z;rw [Qy y]at c;cases c;rw [Qr n]at d;rcases s a r with f | f
   ·exact S.o.dj j t o v n p d a f A
   ·exact(S.o.live (iY d A)).1 f
  ·rw [Qr z]at c;by_cases J:j=t
   ·subst J;rw [Qy y]at d;cases d;rcases s a A with f | f
    ·exact S.o.dj i j u o n c p a r f
    ·exact(S.o.live (iY c r)).1 f
   ·rw [Qr J]at d;exact S.o.dj i t u v n c d a r A
 ·rcases M a f with f | f
  ·exact S.sep a h f
  ·exact(Cw S.S h).1 f
 ·by_cases z:j=t
  ·subst z;rw [Qy y]at E;cases E;exact S.hd i j m o p
  ·rw [Qr z]at E;exact S.hd i t m u E
 ·by_cases z:j=i
  ·subst z;rw [p]at c;cases c
   exact⟨g,Qy y⟩
  ·exact⟨u.2,by rw [Qr z];exact c⟩
end
end OB
namespace OB
open PySem.Spec L2 DL
abbrev GX(B α:Type):=aA->List B->Option (α × List B)
section
variable {K:PySem.W.Frag}{B:Type}(k:cF K B)(τ:List (Nat × Nat))
inductive mR(g:GX B D)(σ:L2.St)(H:Hp)(Q:VK):Prop
 | mk (F:YP->Prop) (H₀:Hp) (ρ:aA) (Ω:List B) (os:List Oa) (d:D) (Ω':List B) (S:SO k τ F H H₀ σ ρ Ω os) (q:g ρ Ω=some (d,Ω')) (c:∀ F' H' v os',bH K os os' F F' H H'->SO k τ F' H' H₀ σ ρ Ω' os'->aO K F' H' d v->Q v H'):mR g σ H Q
inductive mS(g:GX B Bool)(σ:L2.St)(H:Hp)(Q:Bool->Hp->Prop):Prop
 | mk (F:YP->Prop) (H₀:Hp) (ρ:aA) (Ω:List B) (os:List Oa) (d:Bool) (Ω':List B) (S:SO k τ F H H₀ σ ρ Ω os) (q:g ρ Ω=some (d,Ω')) (c:∀ F' H' os',bH K os os' F F' H H'->SO k τ F' H' H₀ σ ρ Ω' os'->Q d H'):mS g σ H Q
inductive Dl(g:GX B (List D))(σ:L2.St)(H:Hp)(Q:List V->Hp->Prop):Prop
 | mk (F:YP->Prop) (H₀:Hp) (ρ:aA) (Ω:List B) (os:List Oa) (ds:List D) (Ω':List B) (S:SO k τ F H H₀ σ ρ Ω os) (q:g ρ Ω=some (ds,Ω')) (c:∀ F' H' vs os',bH K os os' F F' H H'->SO k τ F' H' H₀ σ ρ Ω' os'->Reps K F' H' ds vs->Q vs H'):Dl g σ H Q
def oG(F:YP->Prop)(H:Hp)(p:YP):Option D->V->Prop
 | some d,v=>aO K F H d v
 | none,v=>v=.ref p
inductive Dp(j:Nat)(g:aA->Option (List (Option D)))(σ:L2.St)(H:Hp)(Q:List V->Hp->Prop):Prop
 | mk (F:YP->Prop) (H₀:Hp) (ρ:aA) (Ω:List B) (os:List Oa) (ds:List (Option D)) (o:Oa) (hj:os[j]?=some o) (S:SO k τ F H H₀ σ ρ Ω os) (q:g ρ=some ds) (c:∀ F' H' vs,aI F F' H H'->Paired (oG (K:=K) F' H' o.1) ds vs->Q vs H'):Dp j g σ H Q
end
section
variable {X:Cx}{B:Type}(k:cF X.K B)(τ:List (Nat × Nat))
def XE(e:Expr)(g:GX B D):Prop:=PE X e (mR k τ g)
def XT(e:Expr)(g:GX B Bool):Prop:=PT X e (mS k τ g)
def XA(es:List Expr)(g:GX B (List D)):Prop:=PA X es (Dl k τ g)
def XO(j:Nat)(es:List Expr)(g:aA->Option (List (Option D))):Prop:=PA X es (Dp k τ j g)
end
section
variable {B α:Type}
def xP(g:aA->Option α):GX B α:=fun a b=>(g a).bind fun d=>some (d,b)
def o3(h:D->D->Option D)(c gb:GX B D):GX B D:=fun a b=>(c a b).bind fun x=>(gb a x.2).bind fun y=>(h x.1 y.1).bind fun r=>some (r,y.2)
def xB(d:GX B D):GX B Bool:=fun a c=>(d a c).bind fun x=>(eY x.1).bind fun b=>some (b,x.2)
def jV:GX B (List D):=fun _ a=>some ([],a)
def fL(c:GX B D)(gr:GX B (List D)):GX B (List D):=fun a b=>(c a b).bind fun x=>(gr a x.2).bind fun y=>some (x.1::y.1,y.2)
def vN(gr:GX B (List D)):GX B D:=fun a b=>(gr a b).bind fun x=>if x.1.length<=1000 then some (.tuple x.1,x.2)else none
abbrev GM(B:Type):=List (Option D)->B->Option (D × B)
def eX(j:Nat)(G:GM B)(gr:aA->Option (List D)):GX B D:=fun c a=>(gr c).bind fun d=>(a[j]?).bind fun b=>(G (none::d.map some) b).bind fun r=>some (r.1,a.set j r.2)
def oZ(j:Nat)(G:GM B)(gr:aA->Option (List (Option D))):GX B D:=fun c a=>(gr c).bind fun d=>(a[j]?).bind fun b=>(G d b).bind fun r=>some (r.1,a.set j r.2)
def rK:aA->Option (List (Option D)):=fun _=>some []
def rJ(c:aA->Option D)(gr:aA->Option (List (Option D))):aA->Option (List (Option D)):=fun a=>(c a).bind fun x=>(gr a).bind fun b=>some (some x::b)
def rL(gr:aA->Option (List (Option D))):aA->Option (List (Option D)):=fun a=>(gr a).bind fun b=>some (none::b)
end
def eE{K:PySem.W.Frag}{B:Type}(k:cF K B)(n:Nat)(G:GM B):Sp:=fun c H Q _=>∃(F:YP->Prop) (p:YP) (b:B) (φ:YP->Prop) (ds:List (Option D)) (r:D) (b':B),ds.length=n/\(∀ a,F a->H a≠none)/\k.At F H p b φ/\Paired (oG (K:=K) F H p) ds c/\G ds b=some (r,b') /\
 ∀ F' H' v φ',cU K φ F F' H H'->(∀ a,φ' a->φ a ∨ H a=none)->k.At F' H' p b' φ'->aO K F' H' r v->Q v H'
theorem Cl{a:Type}:∀{fs:List (Str × a)},(fs.map (·.1)).contains m=false->fs.lookup m=none
 | [],_=>rfl
 | (x,v)::fs,h=>by
  rw [Qs,Uy,Bool.or_eq_false_iff]at h;rw [QS,h.1];exact Cl h.2
theorem Ew{K:PySem.W.Frag}{F:YP->Prop}{H:Hp}{p:YP}:∀{ds:List D}{vs:List V},Reps K F H ds vs->Paired (oG (K:=K) F H p) (ds.map some) vs
 | _,_,.nil=>.nil
 | _,_,.cons h r=>.cons h (Ew r)
section
variable {X:Cx}{B:Type}{k:cF X.K B}{τ:List (Nat × Nat)}{a b c e:Expr}{es rest:List Expr}{pos p:Pos}
theorem dM(h:DE X e g):XE k τ e (xP g):=cJ h fun o H Q i=>by
 obtain⟨F,a,b,p,j,d,f,S,q,c⟩:=i;obtain⟨r,l,q⟩:=aF q;cases q
 exact⟨F,a,b,d,S.S,l,fun n m v E R=>c n m v j (bH.ext S.S.fz E) (S.ext E) R⟩
theorem mI(h:DT X e g):XT k τ e (xP g):=l8 h fun o H Q i=>by
 obtain⟨F,a,b,p,j,d,f,S,q,c⟩:=i;obtain⟨r,l,q⟩:=aF q;cases q
 exact⟨F,a,b,d,S.S,l,fun n m E=>c n m j (bH.ext S.S.fz E) (S.ext E)⟩
variable {ga gb:GX B D}{t u:GX B Bool}{gr:GX B (List D)}
theorem Ng(q:mR k τ (o3 h ga gb) σ H Q):lL (cD X.K h) (mR k τ ga) (mR k τ gb) σ H Q:=by
 obtain⟨F,a,f,j,l,d,i,S,q,c⟩:=q;obtain⟨x,o,q⟩:=aF q;obtain⟨y,n,q⟩:=aF q;obtain⟨r,m,q⟩:=aF q;cases q
 exact⟨F,a,f,j,l,x.1,x.2,S,o,fun B G v e K1 p R1=>⟨B,a,f,x.2,e,y.1,y.2,p,n,fun A E w b K2 S2 R2=>⟨A,x.1,y.1,d,S2.S.fz,R1.stay K2.k.st,R2,m,fun u t z g s=>c u t z b ((K1.trans K2).trans (bH.ext S2.S.fz g)) (S2.ext g) s⟩⟩⟩
theorem TW(m:∀ σ H Q,mR k τ g σ H Q->te σ H Q)(q:mS k τ (xB g) σ H Q):xU te σ H Q:=by
 obtain⟨F,a,e,h,i,d,f,S,q,c⟩:=q;obtain⟨x,l,q⟩:=aF q;obtain⟨y,j,q⟩:=aF q;cases q;exact m σ H _ ⟨F,a,e,h,i,x.1,x.2,S,l,fun s r v b p n o=>⟨d,mD o j,c s r b p n⟩⟩
theorem Kk(c:bF X (Ze op) (cD X.K h))(f:XE k τ a ga)(e:XE k τ b gb)(d:ZN op b=false):XT k τ (.Compare a [op] [b] pos) (xB (o3 h ga gb)):=l8 (xG c f e d) fun _ _ _ q=>TW (fun _ _ _=>Ng) q
theorem pW:XA k τ [] (jV (B:=B)):=nQ hE fun g H Q e=>by
 obtain⟨F,a,h,i,f,d,b,S,q,c⟩:=e;cases q;exact c F H [] f (bH.refl S.S.fz) S .nil
theorem iU(n:XE k τ e ga)(m:XA k τ es gr)(hs:J2 (e::es) X.env=(false,Zr e X.env)::J2 es X.env:=by rfl):XA k τ (e::es) (fL ga gr):=nQ (fS n m hs) fun z H Q j=>by
 obtain⟨F,a,g,i,l,d,h,S,q,c⟩:=j;obtain⟨x,p,q⟩:=aF q;obtain⟨y,o,q⟩:=aF q;cases q
 exact⟨F,a,g,i,l,x.1,x.2,S,p,fun w B v f K1 s R1=>⟨w,a,g,x.2,f,y.1,y.2,s,o,fun u t A b K2 r R2=>c u t _ b (K1.trans K2) r (.cons (R1.stay K2.k.st) R2)⟩⟩
theorem zS8{x1}(h:XA k τ es gr):XE k τ (.Tuple es x1 pos) (vN gr):=cJ (IN h) fun r H Q l=>by
 obtain⟨F,a,g,j,m,d,i,S,q,c⟩:=l;obtain⟨x,n,q⟩:=aF q
 refine⟨F,a,g,j,m,x.1,x.2,S,n,fun o t s b K1 S1 R1=>?_⟩
 by_cases f:x.1.length<=1000
 ·rw [if_pos f]at q;cases q
  exact⟨fJ (by rw [<- R1.length];exact f),fun p e=>c o _ _ b (K1.trans (bH.ext S1.S.fz (aI.fresh e))) (S1.ext (aI.fresh e)) (aO.newTup e R1)⟩
 ·rw [if_neg f]at q;cases q
theorem KR:XO k τ j [] rK:=nQ hE fun d H Q b=>by
 obtain⟨F,a,e,f,g,i,o,h,S,q,c⟩:=b;cases q;exact c F H [] (aI.refl F H) .nil
theorem PJ{K:PySem.W.Frag}{F b:YP->Prop}{H a:Hp}{p:YP}(T:bA K F b H a){od:Option D}{v:V}(h:oG (K:=K) F H p od v):oG (K:=K) b a p od v:=by
 cases od with
 | none=>exact h
 | some d=>exact aO.stay T h
theorem KQ(n:DE X e g)(l:XO k τ j es gs)(hs:J2 (e::es) X.env=(false,Zr e X.env)::J2 es X.env:=by rfl):XO k τ j (e::es) (rJ g gs):=nQ (fS n l hs) fun y H Q f=>by
 obtain⟨F,a,b,d,i,A,o,m,S,q,c⟩:=f;obtain⟨x,r,q⟩:=aF q;obtain⟨h,p,q⟩:=aF q;cases q
 exact⟨F,a,b,x,S.S,r,fun w B v E1 s=>⟨w,a,b,d,i,h,o,m,S.ext E1,p,fun u t z E2 R2=>c u t _ (E1.trans E2) (.cons (PJ (od:=some x) E2.stay s) R2)⟩⟩
theorem KS(m:(i,j)∈τ)(r:XO k τ j es gs)(t:X.N[i]?=some x:=by rfl)(n:gD X.env.scope x:=by first | exact Zi rfl | exact Zd (Zi rfl) | exact Zd (Zd rfl))(s:(x == ("__debug__":Str))=false:=by decide)
  (b:(x == ("__classdict__":Str))=false:=by decide) (hs:J2 (.Name x p::es) X.env=(false,Zr (.Name x p) X.env)::J2 es X.env:=by rfl):XO k τ j (.Name x p::es) (rL gs):=nQ (fS (gQ t n s b) r hs) fun z H Q g=>by
 obtain⟨F,a,e,f,l,B,o,d,S,q,c⟩:=g;obtain⟨h,u,q⟩:=aF q;cases q
 exact⟨_,S.hd i j m o d,F,a,e,f,l,h,o,d,S,u,fun w v A y R2=>c w v _ y (.cons rfl R2)⟩
theorem KJ(F:aK X.prog X.w X.K X.mg X.base aM kk f fd ps (eE k n G))(U:cA kk X.A)(hg:Gl X x)(Y:X.mg x=some (.ref f))(Z:PySem.W.keepIn X.K (.ref f)=true)(hb:Binds X.K fd ps [])
  (ha:XO k τ j (e::es) gs) (h:∀ ρ ds,gs ρ=some ds->ds.length=n) (l:(x == ("__debug__":Str))=false:=by decide) (he:J2 (e::es) X.env=(false,Zr e X.env)::J2 es X.env:=by rfl) (hpl:(Zt pos (J2 es X.env)).any (·.1)=false:=by rfl):
  XE k τ (.Call (.Name x p) (e::es) [] pos) (oZ j G gs):=cJ (tY (E:=E0) F U hg Y Z hb .nil l7 ha l he hpl) fun σ H Q M=>by
 obtain⟨F,a,ρ,J,R,d,I,S,q,c⟩:=M;obtain⟨g,y,q⟩:=aF q;obtain⟨b,u,q⟩:=aF q;obtain⟨r,e3,q⟩:=aF q;cases q;obtain⟨o,i,_⟩:=i3 S.o.at_ u
 refine⟨F,a,ρ,J,R,g,o,i,S,y,fun F1 H1 N z R1=>?_⟩
 show eE k n G (N++[]) H1 Q E0
 rw [QP];have S1:=S.ext z;obtain⟨b1,t,m⟩:=nR S1.o.at_ i;rw [u]at t;cases t
 refine⟨F1,o.1,b,o.2,g,r.1,r.2,h ρ g y,S1.S.fz,m,R1,e3,fun F' H' v B T O s R'=>?_⟩
 obtain⟨S2,K2⟩:=S1.turn i T O s;exact c F' H' v _ ((bH.ext S.S.fz z).trans K2) S2 R'
theorem KL(mm:(i,j)∈τ)(c:gA X.K C)(hm:mL X.K C m f)(hf:∀ os b r,G os b=some r->k.cl b=C/\(k.fn b).contains m=false)(F:aK X.prog X.w X.K X.mg X.base aM kk f fd ps (eE k (n+1) G))(hr:cA kk X.A)(hb:Binds X.K fd ps [])
  (ha:DA X (e::es) gs) (l:∀ ρ ds,gs ρ=some ds->ds.length=n) (hN:X.N[i]?=some x:=by rfl) (hv:gD X.env.scope x:=by first | exact Zi rfl | exact Zd (Zi rfl) | exact Zd (Zd rfl)) (hd:(x == ("__debug__":Str))=false:=by decide)
  (u:(x == ("__classdict__":Str))=false:=by decide) (h:J2 (e::es) X.env=(false,Zr e X.env)::J2 es X.env:=by rfl) (hpl:(Zt pos (J2 es X.env)).any (·.1)=false:=by rfl)
  (ht:Zr (.Call (.Attribute (.Name x p) m apos) (e::es) [] pos) X.env=(do
   let ov <- Zr (.Name x p) X.env
   standAt apos.atName
   let(f,first) <- UB [ov] (getMethod ov m pl)
   callWith pos f first (Zt pos (J2 (e::es) X.env)) (UC pos (ZT [] X.env))):=by rfl):
  XE k τ (.Call (.Attribute (.Name x p) m apos) (e::es) [] pos) (eX j G gs):=cJ (XY (E:=E0) (gQ hN hv hd u) c hm F hr hb .nil l7 ha h hpl ht) fun σ H Q W=>by
 obtain⟨F,a,ρ,Ω,os,d,U,S,q,c⟩:=W;obtain⟨g,O,q⟩:=aF q;obtain⟨b,M,q⟩:=aF q;obtain⟨r,J,q⟩:=aF q;cases q;obtain⟨o,s,at0⟩:=i3 S.o.at_ M;obtain⟨dx,fs,B,t⟩:=k.ins at0;obtain⟨ec,ef⟩:=hf _ _ _ J;rw [ec]at B
 refine⟨_,S.hd i j mm o s,o.1,dx,fs,rfl,B,Cl (by rw [t];exact ef),F,a,ρ,g,S.S,O,fun F1 H1 Y R R1=>?_⟩
 show eE k (n+1) G (.ref o.1::(Y++[])) H1 Q E0
 rw [QP];have S1:=S.ext R;obtain⟨b1,I,y⟩:=nR S1.o.at_ s;rw [M]at I;cases I
 refine⟨F1,o.1,b,o.2,none::g.map some,r.1,r.2,by rw [Qt,Qo,l ρ g O],S1.S.fz,y,.cons rfl (Ew R1),J,fun F' H' v T kp Z z R'=>?_⟩
 obtain⟨S2,K2⟩:=S1.turn s kp Z z;exact c F' H' v _ ((bH.ext S.S.fz R).trans K2) S2 R'
theorem n6(B:(i,j)∈τ)(c:gA X.K C)(R:mL X.K C m f)(T:∀ os b r,G os b=some r->k.cl b=C/\(k.fn b).contains m=false)(F:aK X.prog X.w X.K X.mg X.base aM kk f fd ps (eE k 1 G))(O:cA kk X.A)(W:Binds X.K fd ps [])
  (Y:X.N[i]?=some x:=by rfl) (J:gD X.env.scope x:=by first | exact Zi rfl | exact Zd (Zi rfl) | exact Zd (Zd rfl)) (U:(x == ("__debug__":Str))=false:=by decide)
  (e:(x == ("__classdict__":Str))=false:=by decide)
  (M:Zr (.Call (.Attribute (.Name x p) m apos) [] [] pos) X.env=(do
   let ov <- Zr (.Name x p) X.env
   standAt apos.atName
   let(f,first) <- UB [ov] (getMethod ov m pl)
   callWith pos f first (Zt pos (J2 [] X.env)) (UC pos (ZT [] X.env))):=by rfl):
  XE k τ (.Call (.Attribute (.Name x p) m apos) [] [] pos) (eX j G aG):=cJ (XZ (E:=E0) (gQ Y J U e) c R F O W .nil l7 M) fun σ H Q y=>by
 obtain⟨F,s,ρ,Ω,os,d,u,S,q,c⟩:=y;obtain⟨xs,e1,q⟩:=aF q;cases e1;obtain⟨b,e2,q⟩:=aF q;obtain⟨r,n,q⟩:=aF q;cases q;obtain⟨o,l,at0⟩:=i3 S.o.at_ e2;obtain⟨dx,fs,h,a⟩:=k.ins at0;obtain⟨ec,Z⟩:=T _ _ _ n;rw [ec]at h
 refine⟨_,S.hd i j B o l,o.1,dx,fs,rfl,h,Cl (by rw [a];exact Z),?_⟩
 show eE k 1 G [.ref o.1] H Q E0
 refine⟨F,o.1,b,o.2,[none],r.1,r.2,rfl,S.S.fz,at0,.cons rfl .nil,n,fun F' H' v t I z g R'=>?_⟩
 obtain⟨S2,K2⟩:=S.turn l I z g;exact c F' H' v _ K2 S2 R'
end
end OB
namespace OB
open PySem.Spec L2 DL
inductive qU(B:Type) where
 | nx (ρ:aA) (Ω:List B)
 | rt (d:D) (Ω:List B)
abbrev GS(B:Type):=aA->List B->Option (qU B)
section
variable {X:Cx}{B:Type}(k:cF X.K B)(τ:List (Nat × Nat))
def uM(a:List Oa)(b:YP->Prop)(H₀:Hp)(F:YP->Prop)(H:Hp)(W:jN):qU B->Prop
 | .nx ρ Ω=>∀ F' H' σ os',bH X.K a os' b F' H₀ H'->bA X.K F F' H H'->SO k τ F' H' H₀ σ ρ Ω os'->W.nx σ H'
 | .rt d Ω=>∀ F' H' v os',bH X.K a os' b F' H₀ H'->Os k F' H' Ω os'->aO X.K F' H' d v->W.rt v H'
inductive zI(g:GS B)(W:jN)(σ:L2.St)(H:Hp):Prop
 | mk (os₀:List Oa) (F₀:YP->Prop) (H₀:Hp) (F:YP->Prop) (ρ:aA) (Ω:List B) (os:List Oa) (o:qU B) (K0:bH X.K os₀ os F₀ F H₀ H) (S:SO k τ F H H₀ σ ρ Ω os) (q:g ρ Ω=some o) (c:uM k τ os₀ F₀ H₀ F H W o):zI g W σ H
def XS(a:Zv)(g:GS B):Prop:=PS X a (zI k τ g)
def i8(a:List Zv)(g:GS B):Prop:=fM X a (zI k τ g)
variable {k τ}
theorem uM.from(T:bA X.K F F' H H')(c:uM k τ os₀ F₀ H₀ F H W o):uM k τ os₀ F₀ H₀ F' H' W o:=by
 cases o with
 | nx ρ Ω=>exact fun i h b a g e f=>c i h b a g (T.trans e) f
 | rt d Ω=>exact c
end
section
variable {B:Type}
def jM:GS B:=fun a b=>some (.nx a b)
def bT(g1 c:GS B):GS B:=fun a b=>(g1 a b).bind fun o=>match o with
 | .nx ρ' Ω'=>c ρ' Ω'
 | o=>some o
def dH(i:Nat)(g:GX B D):GS B:=fun a b=>(g a b).bind fun x=>some (.nx (a.set i (.dat x.1)) x.2)
def mJ(g:GX B D):GS B:=fun a b=>(g a b).bind fun x=>some (.nx a x.2)
def eU(g:GX B D):GS B:=fun a b=>(g a b).bind fun x=>some (.rt x.1 x.2)
def gZ(t:GX B Bool)(g1 c:GS B):GS B:=fun a b=>(t a b).bind fun x=>if x.1=true then g1 a x.2 else c a x.2
def n7(i:Nat)(g:GS B):List D->GS B
 | [],ρ,Ω=>some (.nx ρ Ω)
 | d::ds,ρ,Ω=>(g (ρ.set i (.dat d)) Ω).bind fun o=>match o with
  | .nx ρ' Ω'=>n7 i g ds ρ' Ω'
  | o=>some o
def o6(gi:aA->Option (List D))(i:Nat)(g:GS B):GS B:=fun a b=>(gi a).bind fun c=>n7 i g c a b
end
theorem IG(hs:∀ ds,s≠.own ds)(d:∀ ds,s≠.ownD ds)(h:dY (σ.set i o) (ρ.set i s) a):dY σ ρ a:=by
 rcases h with⟨j,ds,b,c⟩ | ⟨j,ds,b,c⟩
 ·by_cases z:i=j
  ·subst z;rw [JJ]at b;rw [if_pos rfl]at b
   split at b
   ·exact absurd (QF b) (hs ds)
   ·cases b
  ·rw [Qr z]at b c;exact .inl ⟨j,ds,b,c⟩
 ·by_cases z:i=j
  ·subst z;rw [JJ]at b;rw [if_pos rfl]at b
   split at b
   ·exact absurd (QF b) (d ds)
   ·cases b
  ·rw [Qr z]at b c;exact .inr ⟨j,ds,b,c⟩
theorem Hk{ρ:aA}{i:Nat}{s:Sl}(hs:∀ kvs,s≠.ownM kvs)(h:∀(i:Nat) (kvs:List (List Int × List D)),ρ[i]?≠some (.ownM kvs)):∀(j:Nat) (kvs:List (List Int × List D)),(ρ.set i s)[j]?≠some (.ownM kvs):=fun j kvs q=>by
 rw [JJ]at q
 split at q
 ·split at q
  ·exact hs kvs (QF q)
  ·cases q
 ·exact h j kvs q
section
variable {K:PySem.W.Frag}{B:Type}{k:cF K B}{τ:List (Nat × Nat)}{F:YP->Prop}{H H₀:Hp}{σ:L2.St}{ρ:aA}{Ω:List B}{os:List Oa}
theorem SO.put(S:SO k τ F H H₀ σ ρ Ω os){i:Nat}{d:D}{v:V}(e:∀ ij,ij∈τ->ij.1≠i)(R:aO K F H d v):SO k τ F H H₀ (σ.set i (some v)) (ρ.set i (.dat d)) Ω os:=
 ⟨S.S.put R,S.o,fun a h=>S.sep a (IG (by intro _ z;cases z) (by intro _ z;cases z) h),Hk (by intro _ z;cases z) S.nm,fun b j m o c=>by
  rw [Qr (Z4 (e _ m))]
  exact S.hd b j m o c,S.lo⟩
end
section
variable {X:Cx}{B:Type}{k:cF X.K B}{τ:List (Nat × Nat)}{a b c e iter:Expr}{es:List Expr}{st:Zv}{rest body orelse:List Zv}{g g1 g2:GS B}{ga:GX B D}{t:GX B Bool}{gr:GX B (List D)}{pos p:Pos}
theorem pY:i8 k τ [] (jM (B:=B)):=t6 Ka fun W e H f=>by
 obtain⟨a,d,b,F,i,j,g,o,h,S,q,c⟩:=f;cases q;exact c F H e g h (bA.refl _ F H) S
theorem cS(p:XS k τ st g1)(n:i8 k τ rest g2):i8 k τ (st::rest) (bT g1 g2):=t6 (xE p n) fun W x H l=>by
 obtain⟨a,e,b,F,i,j,m,o,u,S,q,c⟩:=l;obtain⟨g,r,q⟩:=aF q
 refine⟨a,e,b,F,i,j,m,g,u,S,r,?_⟩
 cases g with
 | nx ρ' Ω'=>exact fun w y h f v s t=>⟨a,e,b,w,ρ',Ω',f,o,v,t,q,c.from s⟩
 | rt d Ω'=>cases q;exact c
theorem fQ(a:XS k τ st g):i8 k τ [st] g:=xF a
theorem hO(u:X.N.Nodup)(p:∀ ij,ij∈τ->ij.1≠i)(t:XE k τ e ga)(r:X.N[i]?=some x:=by rfl)(n:Loc X.env.scope x:=by first | exact Zi rfl | exact Zd rfl)(hs:ZC e (some (.Name x pos')) pos.line X.env=pure false:=by rfl)(s:X.fn x=true ∨ X.env.scope.names.lookup x=some .local:=by first | exact .inl rfl | exact .inr rfl | assumption):
  XS k τ (.Assign [.Name x pos'] e pos) (dH i ga):=ps_mono (nX u r n t hs s) fun W B H l=>by
 obtain⟨b,g,a,F,h,j,m,o,K0,S,q,c⟩:=l;obtain⟨d,w,q⟩:=aF q;cases q
 exact⟨F,a,h,j,m,d.1,d.2,S,w,fun A z v f K' S' y=>c A z _ f (K0.trans K') K'.k.st (S'.put p y)⟩
theorem Kh(n:XE k τ e ga)(hs:ZC e none pos.line X.env=pure false:=by rfl):XS k τ (.Expr e pos) (mJ ga):=ps_mono (pL n hs) fun W h H l=>by
 obtain⟨b,g,a,F,i,j,m,o,K0,S,q,c⟩:=l;obtain⟨d,p,q⟩:=aF q;cases q
 exact⟨F,a,i,j,m,d.1,d.2,S,p,fun t s v f K' r u=>c t s h f (K0.trans K') K'.k.st r⟩
theorem iO(m:XE k τ e ga):XS k τ (.Return (some e) pos) (eU ga):=ps_mono (BM m) fun W u H j=>by
 obtain⟨b,g,a,F,h,i,l,o,K0,S,q,c⟩:=j;obtain⟨d,n,q⟩:=aF q;cases q
 exact⟨F,a,h,i,l,d.1,d.2,S,n,fun t s v f r S' p=>c t s v f (K0.trans r) S'.o p⟩
theorem pX(n:XT k τ c t)(s:i8 k τ body g1)(p:i8 k τ orelse g2):XS k τ (.If c body orelse pos) (gZ t g1 g2):=ps_mono (IY n s p) fun W v H l=>by
 obtain⟨a,d,b,F,g,j,m,o,K0,S,q,c⟩:=l;obtain⟨r,u,q⟩:=aF q;obtain⟨r,e⟩:=r
 refine⟨F,b,g,j,m,r,e,S,u,fun i w f K' h=>?_⟩
 cases r with
 | true=>simp only [if_true]at q ⊢;exact⟨a,d,b,i,g,e,f,o,K0.trans K',h,q,c.from K'.k.st⟩
 | false=>simp only [Qm,if_false]at q ⊢;exact⟨a,d,b,i,g,e,f,o,K0.trans K',h,q,c.from K'.k.st⟩
end
end OB
namespace OB
open PySem.Spec L2 DL
structure FX{K:PySem.W.Frag}{B:Type}(k:cF K B)(τ:List (Nat × Nat))(i:Nat)(g:GS B)(xs:List D)(o:qU B)(os₀:List Oa)(F₀ F F1:YP->Prop)(H₀ H H1:Hp)(n:Nat)(σ2:L2.St)(H2:Hp)(F2:YP->Prop)(ρ2:aA)(Ω2:List B)(os2:List Oa):Prop where
 K0:bH K os₀ os2 F₀ F2 H₀ H2
 T0:bA K F F2 H H2
 T1:bA K F1 F2 H1 H2
 S:SO k τ F2 H2 H₀ σ2 ρ2 Ω2 os2
 q:n7 i g (xs.drop n) ρ2 Ω2=some o
section
variable {X:Cx}{B:Type}{k:cF X.K B}{τ:List (Nat × Nat)}{iter e:Expr}{es:List Expr}{body:List Zv}{g:GS B}{pos p tp pos':Pos}
theorem Ki(hp:PassesOwn (J4 X.prog X.w) X.A X.env X.xe)(hc:X.calm=true)(hN:X.N.Nodup)(ht:∀ ij,ij∈τ->ij.1≠i)(hi:DI X (.Name x tp) iter gi)(hb:i8 k τ body g)
  (O:X.N[i]?=some x:=by rfl) (hx:Loc X.env.scope x:=by first | exact Zi rfl | exact Zd rfl) (hf:X.fn x=true ∨ X.env.scope.names.lookup x=some .local:=by first | exact .inl rfl | exact .inr rfl | assumption)
  (hs:∀ x,Zx iter X.env x=pure x:=by intro _;rfl):XS k τ (.For (.Name x tp) iter body [] pos) (o6 gi i g):=
 ps_mono (BL hp hc hi (nU hN O hx hf) hb hs) fun W σ H zz=>by
  obtain⟨a,f,b,F,R,Ω,os,o,K0,S,q,c⟩:=zz;obtain⟨e,e1,q⟩:=aF q
  refine⟨F,b,R,e,S.S,e1,fun Q Z J E1 I1=>?_⟩
  refine⟨fun n m p B=>m=e.length-n/\n<=e.length/\∃ E r s j,FX k τ i g e o a f F Q b H Z n p B E r s j,
   ⟨e.length,rfl,Q2 _,Q,R,Ω,os,K0.trans (bH.ext S.S.fz E1),E1.stay,bA.refl _ _ _,S.ext E1,q⟩,?_⟩
  rintro n m p B ⟨rfl,a2,E,r,s,j,K2,T0,T1,S2,t⟩;obtain⟨M,K⟩:=I1 E B T1 S2.S.fz n;by_cases l:n<e.length
  ·right
   have v:e[n]?=some e[n]:=by simp [l]
   obtain⟨go,G⟩:=M _ v;rw [Yc l]at t;obtain⟨T,e4,t⟩:=aF t
   refine⟨go,fun u Y=>∃ F4 ρ4 Ω4 os4,FX k τ i g e o a f F Q b H Z (n+1) u Y F4 ρ4 Ω4 os4,fun u Y h=>⟨e.length-(n+1),by lia,rfl,l,h⟩,fun x H3 y=>?_⟩
   obtain⟨F3,E3,R3⟩:=G x H3 y;have TT0:=T0.trans E3.stay;have TT1:=T1.trans E3.stay
   refine⟨a,f,b,F3,r.set i (.dat e[n]),s,j,T,K2.trans (bH.ext S2.S.fz E3),(S2.ext E3).put ht R3,e4,?_⟩
   cases T with
   | nx ρ6 Ω6=>exact fun F6 H6 a0 I K6 U S6=>⟨F6,ρ6,Ω6,I,K6,TT0.trans U,TT1.trans U,S6,t⟩
   | rt d Ω6=>cases t;exact c
  ·left
   have z:e.length<=n:=YR l
   refine⟨K z,?_⟩
   rw [YW z]at t;cases t;exact c E B p j K2 T0 S2
end
theorem N3{K:PySem.W.Frag}{F:YP->Prop}{H H₀:Hp}{g:L2.St}{ρ:List Sl}(S:aZ K F H H₀ g ρ){i:Nat}{o:Option V}:aZ K F H H₀ (g.set i o) (ρ.set i .no):=by
 refine⟨by simp [S.len],fun j s h=>?_,fun j k a u t f d c m=>?_,S.fz⟩
 ·by_cases b:i=j
  ·subst b
   have l:i<ρ.length:=by
    have:=Qc.mp h
    simpa using this.1
   rw [Qy l]at h;cases h
   exact⟨o,by rw [Qy (by rw [S.len];exact l)],trivial⟩
  ·rw [Qr b]at h;obtain⟨n,q,w⟩:=S.sl j s h
   exact⟨n,by rw [Qr b];exact q,w⟩
 ·have r:i≠j:=by
   intro e;subst e;rw [JJ,if_pos rfl]at d
   split at d <;> cases d
  have p:i≠k:=by
   intro e;subst e;rw [JJ,if_pos rfl]at c
   split at c <;> cases c
  rw [Qr r]at d m;rw [Qr p]at c ⊢;exact S.sep j k a u t f d c m
theorem qR{b a:Type}{R:b->a->Prop}:∀{l:List b}{m:List a},Paired R l m->l.length=m.length
 | _,_,.nil=>rfl
 | _,_,.cons _ t=>by rw [Qt,Qt,qR t]
section
variable {K:PySem.W.Frag}{B:Type}{k:cF K B}{τ:List (Nat × Nat)}{F F':YP->Prop}{H H' H₀:Hp}{σ:L2.St}{ρ:aA}{Ω:List B}{os:List Oa}
theorem SO.more(S:SO k τ F H H₀ σ ρ Ω os){i:Nat}{x:YP}{b:B}{φ:YP->Prop}(s:∀ ij,ij∈τ->(ij.1=i ↔ ij.2=Ω.length))(G:i<ρ.length)(q:cU K (fun _=>False) F F' H H')(r:k.At F' H' x b φ)(p:∀ a,φ a->H a=none):
  SO k τ F' H' H₀ (σ.set i (some (.ref x))) (ρ.set i .no) (Ω++[b]) (os++[(x,φ)])/\bH K os (os++[(x,φ)]) F F' H H':=by
 have E:=qR S.o.at_
 have t:∀ a,fC (os++[(x,φ)]) a->fC os a ∨ H a=none:=fun a y=>by
  obtain⟨o,m,h⟩:=y;rcases QA.mp m with m | m
  ·exact .inl ⟨o,m,h⟩
  ·rw [Qp.mp m]at h;exact .inr (p a h)
 have M:aZ K F' H' H₀ σ ρ:=aZ.keep S.S (fun a _ f=>f) S.nm q
 have A:Os k F' H' Ω os:=S.o.keep q.st (fun a u _ h=>q.out a u h id) (fun a f J=>by
  rcases q.new a J with z | z
  ·exact(S.o.live f).2 z
  ·exact(S.o.live f).1 z)
 have e:∀(j:Nat) (u:Oa),(os++[(x,φ)])[j]?=some u->os[j]?=some u ∨ j=os.length/\u=(x,φ):=fun j u h=>by
  by_cases z:j<os.length
  ·rw [QR z]at h;exact .inl h
  ·rw [QK (YR z)]at h
   have:j-os.length=0:=by
    cases w:j-os.length with
    | zero=>rfl
    | succ n=>rw [w]at h;simp at h
   rw [this]at h;exact .inr ⟨by lia,(QF h).symm⟩
 refine⟨⟨N3 M,⟨A.at_.snoc r,fun i' j u v n c d a l g=>?_⟩,fun a h f=>?_,Hk (by intro _ z;cases z) S.nm,fun i' j m u c=>?_,fun a h=>S.lo a (q.lv a h)⟩,⟨q.st,fun a u h n=>q.out a u h id,q.new,q.fz,q.lv⟩,t,fun j u h=>⟨u.2,by rw [QR (Qc.mp h).1];exact h⟩⟩
 ·rcases e i' u c with c | ⟨c,rfl⟩
  ·rcases e j v d with d | ⟨d,rfl⟩
   ·exact S.o.dj i' j u v n c d a l g
   ·exact(S.o.live (iY c l)).1 (p a g)
  ·rcases e j v d with d | ⟨d,rfl⟩
   ·exact(S.o.live (iY d g)).1 (p a l)
   ·lia
 ·have h:=IG (by intro _ z;cases z) (by intro _ z;cases z) h;rcases t a f with f | f
  ·exact S.sep a h f
  ·exact(Cw S.S h).1 f
 ·rcases e j u c with c | ⟨I,rfl⟩
  ·have:i≠i':=fun z=>by
    have:=((s _ m).mp z.symm)
    have:=(Qc.mp c).1
    lia
   rw [Qr this];exact S.hd i' j m u c
  ·have z:i'=i:=(s _ m).mpr (by rw [E];exact I);rw [z,Qy (by rw [S.S.len];exact G)]
end
section
variable {B:Type}
def r0(i n:Nat)(G:List D->Option B)(gr:aA->Option (List D)):GS B:=fun a c=>(gr a).bind fun d=>(G d).bind fun b=>if c.length=n/\i<a.length then some (.nx (a.set i .no) (c++[b]))else none
end
def rW{K:PySem.W.Frag}{B:Type}(k:cF K B)(C:YP)(n:Nat)(G:List D->Option B):Sp:=fun c H Q _=>∃(F:YP->Prop) (x dx:YP) (us:List V) (ds:List D) (b:B),c=.ref x::us/\ds.length=n/\(∀ a,F a->H a≠none)/\H x=some (.ins C dx [])/\¬ F x/\Reps K F H ds us/\G ds=some b /\
 ∀ F' H' φ',cU K (fun a=>a=x) F F' H H'->(∀ a,φ' a->a=x ∨ H a=none)->k.At F' H' x b φ'->Q .non H'
section
variable {X:Cx}{B:Type}{k:cF X.K B}{τ:List (Nat × Nat)}{e:Expr}{es:List Expr}{pos p tp pos':Pos}
theorem Kj(hN:X.N.Nodup)(ht:∀ ij,ij∈τ->(ij.1=i ↔ ij.2=n))(M:Mk X.K C f)(F:aK X.prog X.w X.K X.mg X.base aM kk f fd ps (rW k C m G))(hr:cA (kk+1) X.A)(hg:Gl X y)(hm:X.mg y=some (.ref C))(hb:Binds X.K fd ps [])
  (ha:DA X (e::es) gr) (I:∀ ρ ds,gr ρ=some ds->ds.length=m) (O:(y == ("__debug__":Str))=false:=by decide) (he:J2 (e::es) X.env=(false,Zr e X.env)::J2 es X.env:=by rfl) (hpl:(Zt pos' (J2 es X.env)).any (·.1)=false:=by rfl)
  (hi:X.N[i]?=some x:=by rfl) (hx:Loc X.env.scope x:=by first | exact Zi rfl | exact Zd rfl) (hs:ZC (.Call (.Name y p) (e::es) [] pos') (some (.Name x tp)) pos.line X.env=pure false:=by rfl) (hf:X.fn x=true ∨ X.env.scope.names.lookup x=some .local:=by first | exact .inl rfl | exact .inr rfl | assumption):
  XS k τ (.Assign [.Name x tp] (.Call (.Name y p) (e::es) [] pos') pos) (r0 i n G gr):=
 ps_mono (nX hN hi hx (We (E:=E0) M F hr hg hm hb .nil l7 ha O he hpl) hs hf) fun W σ H zz=>by
  obtain⟨v,U,r,F,ρ,Ω,os,o,K0,S,q,c⟩:=zz;obtain⟨ds,T,q⟩:=aF q;obtain⟨b,e2,q⟩:=aF q;by_cases t:Ω.length=n/\i<ρ.length
  ·rw [if_pos t]at q;cases q
   refine⟨F,r,ρ,ds,S.S,T,fun j g R E1 R1=>fun z d s J ne=>?_⟩
   show rW k C m G (.ref z::(R++[])) _ _ E0
   rw [QP];have S1:=S.ext E1;have Ea:aI j j g (aJ g d (.own z)):=aI.fresh J
   have B:aJ g d (.own z) z=none:=by rw [aU ne.symm];exact s
   have Eb:aI j j (aJ g d (.own z)) (aJ (aJ g d (.own z)) z (.ins C d [])):=aI.fresh B;have Ec:=Ea.trans Eb
   refine⟨j,z,d,R,ds,b,rfl,I ρ ds T,Ec.fz S1.S.fz,cP,fun f=>S1.S.fz z f s,R1.stay Ec.stay,e2,fun Y H' Z l fr Q=>⟨rfl,?_⟩⟩
   have q1:cU X.K (fun _=>False) j Y g H':=⟨Ec.stay.trans l.st,fun a u h _=>l.out a u (Ec.same a u h) (fun w=>by rw [w,s]at h;cases h),fun a f=>(l.new a f).imp_right fun w=>Ec.same.free w,l.fz,fun a h=>Ec.same.free (l.lv a h)⟩
   obtain⟨S2,K2⟩:=S1.more (i:=i) (by rw [t.1];exact ht) t.2 q1 Q fun a h=>by
    rcases fr a h with w | w
    ·rw [w];exact s
    ·exact Ec.same.free w
   exact c Y H' _ _ (K0.trans ((bH.ext S.S.fz E1).trans K2)) (E1.stay.trans K2.k.st) S2
  ·rw [if_neg t]at q;cases q
end
def Om:Option D->Sl
 | some d=>.dat d
 | none=>.no
def jL(n:Nat)(ds:List (Option D)):aA:=ds.map Om++Z0 (n-ds.length) .no
def kH{B:Type}(j n:Nat)(g:GS B):GM B:=fun a b=>match a[j]? with
 | some none=>match g (jL n a) [b]with
  | some (.rt d (b'::_))=>some (d,b')
  | some (.nx _ (b'::_))=>some (.none,b')
  | _=>none
 | _=>none
def oP{B:Type}(n:Nat)(g:GS B):List D->Option D:=fun a=>match g (cR n a) []with
 | some (.rt d _)=>some d
 | some (.nx _ _)=>some .none
 | _=>none
theorem B4{n:Nat}{ds:List (Option D)}{i:Nat}{s:Sl}(h:(jL n ds)[i]?=some s):(∃ d,s=.dat d) ∨ s=.no:=by
 unfold jL at h;have m:=QO h;rcases QA.mp m with m | m
 ·obtain⟨a,_,rfl⟩:=QT.mp m
  cases a with
  | none=>exact .inr rfl
  | some d=>exact .inl ⟨d,rfl⟩
 ·exact .inr (List.eq_of_mem_replicate m)
theorem zSl{K:PySem.W.Frag}{F:YP->Prop}{H:Hp}{p:YP}{N:List Str}{ds:List (Option D)}{vs:List V}(z:∀ a,F a->H a≠none)(r:Paired (oG (K:=K) F H p) ds vs):aZ K F H H (L2.start N vs) (jL N.length ds):=by
 have k:=qR r
 refine⟨by simp [L2.start,jL,k],fun i s h=>?_,fun i j a t n l m=>?_,z⟩
 ·unfold jL at h;by_cases c:i<ds.length
  ·rw [QR (by simpa using c),QN]at h
   cases e:ds[i]? with
   | none=>rw [e]at h;cases h
   | some g=>
    rw [e]at h;cases h;obtain⟨v,o,f⟩:=i3 r e
    refine⟨some v,?_,?_⟩
    ·unfold L2.start;rw [QR (by simpa using(by lia:i<vs.length)),QN,o];rfl
    ·cases g with
     | none=>trivial
     | some d=>exact⟨v,rfl,f⟩
  ·rw [QK (by simpa using c),YO]at h
   split at h
   ·rename_i b;cases h
    refine⟨none,?_,trivial⟩
    unfold L2.start;rw [QK (by simpa using(by lia:vs.length<=i)),YO,if_pos (by simp at b ⊢;lia)]
   ·cases h
 ·rcases B4 m with⟨d,q⟩ | q <;> cases q
section
variable {P:J5}{w:J6}{K:PySem.W.Frag}{mg:Str->Option JZ}{base:Heap}{x qual:Str}{st:Zv}{f:YP}{fd:Zh}{N ps:List Str}{kk:Nat}{B:Type}{k:cF K B}{g:GS B}
theorem rA{j n m:Nat}{G:GM B}(hG:G=kH j m g)(hn:ps.length=n)(hm:N.length=m)(F:gB K x qual st f fd)(S:bU N ps (aS st))
  (hb:∀(cdv:JZ) (A:Around) (outer:List Env) (s:J0) (H:Hp) (E:XK),cA kk (A.deeper (U8 qual (aS st) s.heap.objs.size f cdv))->
   i8 (X:=(jQ aM P w K mg base N qual (aS st) f cdv A outer s H E).nox) k [(j,0)] (dE st) g):aK P w K mg base aM (kk+1) f fd ps (eE k n G):=by
 subst hG hn hm;refine F.ok S (fun R H Q E h=>?_) (fun cdv A outer s H R Q E hr h=>?_)
 ·obtain⟨F,p,b,y,ds,r,b',hl,_,_,J,_⟩:=h;rw [<- qR J,hl]
 ·obtain⟨F,p,b,y,ds,r,b',hl,z,at0,J,q,c⟩:=h
  refine⟨_,hb cdv A outer s H E hr,?_⟩
  unfold kH at q
  split at q
  ·rename_i ej;obtain⟨v,ev,T⟩:=i3 J ej;have jl:j<R.length:=(Qc.mp ev).1;have T:v=.ref p:=T
   have SS:SO k [(j,0)] F H H (L2.start N R) (jL N.length ds) [b] [(p,y)]:=by
    refine⟨zSl z J,⟨.cons at0 .nil,fun i i' o u n h1 h2=>?_⟩,fun a h=>?_,fun i a4 I=>?_,fun i i' m o ho=>?_,fun _ h=>h⟩
    ·have a1:i<1:=(Qc.mp h1).1;have a2:i'<1:=(Qc.mp h2).1;lia
    ·rcases h with⟨i,W,I,_⟩ | ⟨i,W,I,_⟩ <;> rcases B4 I with⟨d,q⟩ | q <;> cases q
    ·rcases B4 I with⟨d,q⟩ | q <;> cases q
    ·rw [Qp]at m;cases m;cases ho;unfold L2.start;rw [QR (by simpa using jl),QN,ev,T];rfl
   have fin:∀{t:YP->Prop}{H':Hp}{l:List Oa}{Ω':List B}{v:V},bH K [(p,y)] l F t H H'->Os k t H' (b'::Ω') l->aO K t H' r v->Q v H':=fun{t H' l Ω' v} K' U Z=>by
    obtain⟨M,h0⟩:=K'.ad 0 (p,y) rfl;obtain⟨b1,e1,Y⟩:=nR U.at_ h0;cases e1;refine c t H' v M ⟨K'.k.st,fun a u h n=>K'.k.out a u h fun⟨o,m,h'⟩=>n ?_,K'.k.new,K'.k.fz,K'.k.lv⟩ (fun a h=>(K'.ft a (iY h0 h)).imp_left fun⟨o,m,h'⟩=>?_) Y Z
    ·rw [Qp.mp m]at h';exact h'
    ·rw [Qp.mp m]at h';exact h'
   split at q
   ·rename_i d b1 O e;cases q
    exact⟨[(p,y)],F,H,F,_,_,_,_,bH.refl z,SS,e,fun t H' v l K' U Z=>fin K' U Z⟩
   ·rename_i a3 b1 O e;cases q
    exact⟨[(p,y)],F,H,F,_,_,_,_,bH.refl z,SS,e,fun t H' a0 l K' T' S'=>fin K' S'.o .non⟩
   ·cases q
  ·cases q
theorem Dv(hG:G=oP m g)(Z:ps.length=n)(hm:N.length=m)(F:gB K x qual st f fd)(S:bU N ps (aS st))
  (hb:∀(cdv:JZ) (A:Around) (outer:List Env) (s:J0) (H:Hp) (E:XK),cA kk (A.deeper (U8 qual (aS st) s.heap.objs.size f cdv))->
   i8 (X:=(jQ aM P w K mg base N qual (aS st) f cdv A outer s H E).nox) k τ (dE st) g):aK P w K mg base aM (kk+1) f fd ps (aW K n G):=by
 subst hG Z hm;refine F.ok S (fun I H Q E h=>?_) (fun cdv A outer s H I Q E W h=>?_)
 ·obtain⟨F,y,d,J,_,r,_⟩:=h;rw [<- r.length,J]
 ·obtain⟨F,y,d,J,z,r,q,c⟩:=h
  refine⟨_,hb cdv A outer s H E W,?_⟩
  have no:∀(i:Nat) (s:Sl),(cR N.length y)[i]?=some s->(∃ d,s=.dat d) ∨ s=.no:=fun i s h=>by
   have m:=QO h;rcases QA.mp m with m | m
   ·obtain⟨d,_,rfl⟩:=QT.mp m;exact .inl ⟨d,rfl⟩
   ·exact .inr (List.eq_of_mem_replicate m)
  have M:SO k τ F H H (L2.start N I) (cR N.length y) [] []:=by
   refine⟨xS z r,⟨.nil,fun i U o u n h1 h2=>?_⟩,fun a h=>?_,fun i T l=>?_,fun i U m o Y=>?_,fun _ h=>h⟩
   ·simp at h1
   ·rcases h with⟨i,t,l,_⟩ | ⟨i,t,l,_⟩ <;> rcases no i _ l with⟨d,q⟩ | q <;> cases q
   ·rcases no i _ l with⟨d,q⟩ | q <;> cases q
   ·simp at Y
  have fin:∀{j:YP->Prop}{H':Hp}{b:List Oa}{v:V},bH K [] b F j H H'->aO K j H' d v->Q v H':=fun{j H' b v} K' B=>
   c j H' v ⟨fun a u h=>K'.k.out a u h (fun⟨o,m,_⟩=>by cases m),K'.k.st.up,fun a f=>(K'.k.new a f).imp_right fun h=>⟨h,K'.k.fz a f⟩⟩ B
  unfold oP at q
  split at q
  ·rename_i d' p e;cases q
   exact⟨[],F,H,F,_,_,_,_,bH.refl z,M,e,fun j H' v b K' o' B=>fin K' B⟩
  ·rename_i R p e;cases q
   exact⟨[],F,H,F,_,_,_,_,bH.refl z,M,e,fun j H' O b K' T' S'=>fin K' .non⟩
  ·cases q
end
end OB
namespace OB
open PySem.Spec L2 DL
section
variable {X:Cx}{tg:Expr}
end
end OB
namespace OB
open PySem.Spec L2 DL
theorem nI{K:PySem.W.Frag}{φ F:YP->Prop}{H:Hp}{p:YP}{b o:HO}(z:∀ a,F a->H a≠none)(d:H p=some b)(i:∀ xs,b≠.tup xs)(g:∀ ob xs,b≠.frz ob (.tup xs))(e:¬ F p)(m:φ p):cU K φ F F H (aJ H p o):=by
 have c:∀ a,F a->a≠p:=fun a f h=>e (h ▸ f)
 refine⟨⟨fun _ h=>h,fun a xs h=>?_,fun a xs f h=>?_,fun a φ f h=>by rw [aU (c a f)];exact h⟩,fun a u h n=>by rw [aU (fun w=>n (by rw [w];exact m))];exact h,fun _ h=>.inl h,fun a f=>by rw [aU (c a f)];exact z a f,fun a h=>?_⟩
 ·rcases h with(h | ⟨ob,h⟩) | h
  ·exact .inl (.inl (by rw [aU (by intro w;subst w;rw [d]at h;exact i xs (QF h))];exact h))
  ·exact .inl (.inr ⟨ob,by rw [aU (by intro w;subst w;rw [d]at h;exact g ob xs (QF h))];exact h⟩)
  ·exact .inr h
 ·rcases h with h | ⟨ob,h⟩
  ·exact .inl (by rw [aU (c a f)];exact h)
  ·exact .inr ⟨ob,by rw [aU (c a f)];exact h⟩
 ·by_cases w:a=p
  ·subst w;rw [cP]at h;cases h
  ·rwa [aU w]at h
theorem yP:(∀ ys,HO.lst xs≠.tup ys)/\∀ ob ys,HO.lst xs≠.frz ob (.tup ys):=⟨(by intro _ h;cases h),(by intro _ _ h;cases h)⟩
theorem qL:(∀ ys,HO.ins C dx fs≠.tup ys)/\∀ ob ys,HO.ins C dx fs≠.frz ob (.tup ys):=⟨(by intro _ h;cases h),(by intro _ _ h;cases h)⟩
theorem yO:(∀ ys,HO.ext φ≠.tup ys)/\∀ ob ys,HO.ext φ≠.frz ob (.tup ys):=⟨(by intro _ h;cases h),(by intro _ _ h;cases h)⟩
section
variable {B:Type}
def sZ(j:Nat)(get:B->Option D):GX B D:=fun _ a=>(a[j]?).bind fun b=>(get b).bind fun d=>some (d,a)
def mH(G:List D->Option D)(gr:GX B (List D)):GX B D:=fun a b=>(gr a b).bind fun x=>(G x.1).bind fun d=>some (d,x.2)
end
def EW{K:PySem.W.Frag}{B:Type}(k:cF K B)(C:YP)(f:Str)(get:B->Option D):Prop:=∀{F:YP->Prop}{H:Hp}{p:YP}{b:B}{φ:YP->Prop}{d:D},k.At F H p b φ->get b=some d->∃ dx fs v,H p=some (.ins C dx fs)/\fs.lookup f=some v/\aO K F H d v
section
variable {X:Cx}{B:Type}{k:cF X.K B}{τ:List (Nat × Nat)}{a b c e:Expr}{es:List Expr}{ga gb:GX B D}{gr:GX B (List D)}{pos p:Pos}
theorem KI{i j:Nat}{x f:Str}{C:YP}{get:B->Option D}(s:(i,j)∈τ)(M:gA X.K C)(n:iV X.K C f)(g:EW k C f get)(E:X.N[i]?=some x:=by rfl)(t:gD X.env.scope x:=by first | exact Zi rfl | exact Zd (Zi rfl) | exact Zd (Zd rfl))(z:(x == ("__debug__":Str))=false:=by decide)
  (a:(x == ("__classdict__":Str))=false:=by decide) (A:ZE (.Name x p) f X.env (Zr (.Name x p) X.env)=Zr (.Name x p) X.env:=by rfl):XE k τ (.Attribute (.Name x p) f pos) (sZ j get):=cJ (pK (gQ E t z a) A) fun O H Q l=>by
 obtain⟨F,e,R,T,m,d,h,S,q,c⟩:=l;obtain⟨b,I,q⟩:=aF q;obtain⟨U,G,q⟩:=aF q;cases q;obtain⟨o,y,at0⟩:=i3 S.o.at_ I;obtain⟨J,fs,v,u,w,r⟩:=g at0 G
 exact⟨_,S.hd i j s o y,o.1,C,J,fs,v,rfl,u,M,n,w,c F H v m (bH.refl S.S.fz) S r⟩
theorem tE(F:aK X.prog X.w X.K X.mg X.base aM kk f fd ps (aW X.K n G))(t:cA kk X.A)(z:Gl X x)(u:X.mg x=some (.ref f))(y:PySem.W.keepIn X.K (.ref f)=true)(B:Binds X.K fd ps [])
  (I:XA k τ (e::es) gr) (h:∀ ρ Ω x,gr ρ Ω=some x->x.1.length=n) (i:(x == ("__debug__":Str))=false:=by decide) (he:J2 (e::es) X.env=(false,Zr e X.env)::J2 es X.env:=by rfl) (hpl:(Zt pos (J2 es X.env)).any (·.1)=false:=by rfl):
  XE k τ (.Call (.Name x p) (e::es) [] pos) (mH G gr):=cJ (tY (E:=E0) F t z u y B .nil l7 I i he hpl) fun U H Q o=>by
 obtain⟨F,a,ρ,Ω,s,d,m,S,q,c⟩:=o;obtain⟨b,j,q⟩:=aF q;obtain⟨Y,J,q⟩:=aF q;cases q
 refine⟨F,a,ρ,Ω,s,b.1,b.2,S,j,fun T O r g K1 S1 M=>?_⟩
 show aW X.K n G (r++[]) O Q E0
 rw [QP]
 exact⟨T,b.1,d,h ρ Ω b j,S1.S.fz,M,J,fun R N v l R2=>c R N v g (K1.trans (bH.ext S1.S.fz l)) (S1.ext l) R2⟩
end
end OB
namespace OB
open PySem.Spec L2 CL DL
section
variable {B:Type}
def pV(i:Nat)(t:GX B Bool)(ge:aA->Option D):List D->aA->List B->Option (List D × List B)
 | [],_,Ω=>some ([],Ω)
 | d::ds,ρ,Ω=>(t (ρ.set i (.dat d)) Ω).bind fun x=>if x.1=true then(ge (ρ.set i (.dat d))).bind fun y=>(pV i t ge ds (ρ.set i (.dat d)) x.2).bind fun r=>some (y::r.1,r.2)else pV i t ge ds (ρ.set i (.dat d)) x.2
end
section
variable {K:PySem.W.Frag}{B:Type}{k:cF K B}{τ τ':List (Nat × Nat)}{F F':YP->Prop}{H H' H₀ H₁:Hp}{σ:L2.St}{ρ:aA}{Ω Ω':List B}{os os':List Oa}
theorem SO.keeps(S:SO k τ F H H₀ σ ρ Ω os)(q:bH K os os' F F' H H')(o:Os k F' H' Ω' os')(g:os'.length=os.length):SO k τ F' H' H₀ σ ρ Ω' os':=
 ⟨aZ.keep S.S S.sep S.nm q.k,o,fun a h f=>(q.ft a f).elim (S.sep a h) (Cw S.S h).1,S.nm,fun i j m u b=>by
  have d:j<os.length:=by rw [<- g];exact(Qc.mp b).1
  have c:os[j]?=some os[j]:=Qi d;obtain⟨l,e⟩:=q.ad j _ c;rw [b]at e;cases e
  exact S.hd i j m os[j] c,fun a h=>S.lo a (q.k.lv a h)⟩
theorem IS(p:j0 ρ)(h:dY σ ρ a):False:=by
 rcases h with⟨i,c,b,_⟩ | ⟨i,c,b,_⟩
 ·exact p i _ rfl b
 ·exact p i _ rfl b
theorem SO.inner(S:SO k τ F H H₀ σ ρ Ω os)(inner:List (Option Nat))(b:∀ ij,ij∈τ'->∃ i0,inner[ij.1]?=some (some i0)/\(i0,ij.2)∈τ)(c:∀ a,H a=none->H₁ a=none):SO k τ' F H H₁ (iT inner σ) (gP inner ρ) Ω os:=
 ⟨(S.S.inner inner).plain (nW inner ρ) (bA.refl K F H) S.S.fz,S.o,fun a h=>(IS (nW inner ρ) h).elim,fun i d q=>nW inner ρ i _ rfl q,fun i j m o e=>by
  obtain⟨i0,l,g⟩:=b _ m;have f:=S.hd i0 j g o e;unfold iT;rw [QN,l]
  simp [f],c⟩
end
section
variable {X:Cx}{B:Type}{k:cF X.K B}{τ τ':List (Nat × Nat)}{a b c:Expr}{ga gb gc:GX B D}{pos:Pos}
structure LY(X:Cx){B:Type}(k:cF X.K B)(τ':List (Nat × Nat))(n:Nat)(t:GX B Bool)(ge:aA->Option D)(xs out:List D)(Ω':List B)(os:List Oa)(F1:YP->Prop)(H1:Hp)(D':YP)(i m:Nat)(σ':L2.St)(H':Hp)(F2:YP->Prop)(ρ2:aA)(vs:List V)(don rst:List D)(Ω2:List B)(os2:List Oa):Prop where
 em:m=xs.length-i
 hi:i<=xs.length
 K2:bH X.K os os2 F1 F2 H1 H'
 S:SO k τ' F2 H' H1 σ' ρ2 Ω2 os2
 pl:j0 ρ2
 dD:H' D'=some (.lst vs)
 nf:¬ F2 D'
 nt:¬ fC os2 D'
 rd:Reps X.K F2 H' don vs
 ec:pV n t ge (xs.drop i) ρ2 Ω2=some (rst,Ω')
 eo:don++rst=out
variable {elt iter:Expr}{scope:Uf}{N':List Str}{inner:List (Option Nat)}{gi:aA->Option (List D)}{t:GX B Bool}{ge:aA->Option D}{n:Nat}{x:Str}{p:Pos}
end
end OB
namespace OB
open PySem.Spec L2 CL DL
section
variable {K:PySem.W.Frag}{B:Type}(k:cF K B)(τ:List (Nat × Nat))
inductive Dm(s:D->aA->Option aA)(v:V)(σ:L2.St)(H:Hp)(Q:L2.St->Hp->Prop):Prop
 | mk (F:YP->Prop) (H₀:Hp) (ρ:aA) (Ω:List B) (os:List Oa) (d:D) (ρ':aA) (S:SO k τ F H H₀ σ ρ Ω os) (R:aO K F H d v) (q:s d ρ=some ρ') (c:∀ σ',SO k τ F H H₀ σ' ρ' Ω os->Q σ' H):Dm s v σ H Q
inductive Do(s:List D->aA->Option aA)(v:List V)(σ:L2.St)(H:Hp)(Q:L2.St->Hp->Prop):Prop
 | mk (F:YP->Prop) (H₀:Hp) (ρ:aA) (Ω:List B) (os:List Oa) (d:List D) (ρ':aA) (S:SO k τ F H H₀ σ ρ Ω os) (R:Reps K F H d v) (q:s d ρ=some ρ') (c:∀ σ',SO k τ F H H₀ σ' ρ' Ω os->Q σ' H):Do s v σ H Q
inductive zJ(gi:GX B (List D))(σ:L2.St)(H:Hp)(R:It->Hp->Prop):Prop
 | mk (F:YP->Prop) (H₀:Hp) (ρ:aA) (Ω:List B) (os:List Oa) (ds:List D) (Ω':List B) (S:SO k τ F H H₀ σ ρ Ω os) (q:gi ρ Ω=some (ds,Ω')) (c:∀ F' H' J os',bH K os os' F F' H H'->SO k τ F' H' H₀ σ ρ Ω' os'->kC K F' H' ds J->R J H'):zJ gi σ H R
end
section
variable {X:Cx}{B:Type}(k:cF X.K B)(τ:List (Nat × Nat))
def XG(b:Expr)(s:D->aA->Option aA):Prop:=PG X b fun v a H Q=>Dm k τ s v a H Q
def uQ(es:List Expr)(s:List D->aA->Option aA):Prop:=k8 X es fun v a H Q=>Do k τ s v a H Q
def XI(b a:Expr)(gi:GX B (List D)):Prop:=PI X b a (zJ k τ gi)
end
section
variable {B:Type}
def rY(c:GX B D):GX B (List D):=fun a b=>(c a b).bind fun x=>(jF x.1).bind fun d=>some (d,x.2)
def tF(s:D->aA->Option aA)(g:GS B):List D->GS B
 | [],ρ,Ω=>some (.nx ρ Ω)
 | d::ds,ρ,Ω=>(s d ρ).bind fun a=>(g a Ω).bind fun o=>match o with
  | .nx ρ' Ω'=>tF s g ds ρ' Ω'
  | o=>some o
def yU(gi:GX B (List D))(s:D->aA->Option aA)(g:GS B):GS B:=fun a b=>(gi a b).bind fun x=>tF s g x.1 a x.2
def vO(d:GX B D)(s:D->aA->Option aA):GS B:=fun b c=>(d b c).bind fun x=>(s x.1 b).bind fun a=>some (.nx a x.2)
def n8(t:GX B Bool)(g:GS B):Nat->GS B
 | 0,_,_=>none
 | n+1,ρ,Ω=>(t ρ Ω).bind fun x=>if x.1=true then(g ρ x.2).bind fun o=>match o with
   | .nx ρ' Ω'=>n8 t g n ρ' Ω'
   | o=>some o
  else some (.nx ρ x.2)
end
section
variable {X:Cx}{B:Type}{k:cF X.K B}{τ:List (Nat × Nat)}{e tg iter c:Expr}{es:List Expr}{body:List Zv}{pos:Pos}{ga:GX B D}{g:GS B}{t:GX B Bool}
theorem yS(l:X.N.Nodup)(g:∀ ij,ij∈τ->ij.1≠i)(h:X.N[i]?=some x:=by rfl)(f:Loc X.env.scope x:=by first | exact Zi rfl | exact Zd rfl)(j:X.fn x=true ∨ X.env.scope.names.lookup x=some .local:=by first | exact .inl rfl | exact .inr rfl | assumption):XG k τ (.Name x pos) (bG i):=
 xA (nU l h f j) fun v m H Q e=>by
  obtain⟨F,a,n,o,p,d,b,S,R,q,c⟩:=e;cases q;exact c _ (S.put g R)
theorem KN:uQ k τ [] gK:=xC IQ fun v b H Q e=>by
 obtain⟨F,a,f,g,h,i,d,S,R,q,c⟩:=e
 cases R with
 | nil=>cases q;exact⟨rfl,c b S⟩
 | cons _ _=>cases q
theorem yT(n:XG k τ e s1)(m:uQ k τ es s2)
  (hs:(ZB (e::es) X.env).map (·.2)=Vu e X.env::(ZB es X.env).map (·.2):=by rfl):uQ k τ (e::es) (dC s1 s2):=
 xC (IP n m hs) fun v s H Q j=>by
  obtain⟨F,a,i,f,g,t,d,S,R,q,c⟩:=j
  cases R with
  | nil=>cases q
  | cons r l=>
   obtain⟨b,o,q⟩:=aF q
   exact⟨_,_,rfl,F,a,i,f,g,_,b,S,r,o,fun h p=>⟨F,a,b,f,g,_,d,p,l,q,c⟩⟩
theorem KM(u:X.calm=true)(h:uQ k τ es s)(t:(ZB es X.env).length=n:=by rfl)(f:(ZB es X.env).findIdx? (·.1)=none:=by rfl):XG k τ (.Tuple es m pos) (gY n s):=
 xA (IO u h t f) fun v w H Q o=>by
  obtain⟨F,b,j,l,p,d,ρ',S,R,q,c⟩:=o
  cases d with
  | tuple i=>
   cases R with
   | @tup a vs _ hq r=>
    have e:(if i.length=n then s i j else none)=some ρ':=q;by_cases g:i.length=n
    ·rw [if_pos g]at e
     exact⟨_,_,rfl,hq,by rw [<- r.length];exact g,F,b,j,l,p,_,ρ',S,r,e,c⟩
    ·rw [if_neg g]at e;cases e
  | _=>cases q
theorem BJ(h:DI X tg iter gi):XI k τ tg iter (xP gi):=CF h fun m H R e=>by
 obtain⟨F,a,b,n,f,i,d,S,q,c⟩:=e;obtain⟨o,g,q⟩:=aF q;cases q
 exact⟨F,a,b,i,S.S,g,fun l j J E I=>c l j J f (bH.ext S.S.fz E) (S.ext E) I⟩
theorem KO(T:XE k τ e ga):XI k τ tg e (rY ga):=by
 intro n s A H R I h;obtain⟨F,l,B,M,G,Y,J,S,q,c⟩:=h;obtain⟨x,U,q⟩:=aF q;obtain⟨W,j,q⟩:=aF q;cases q;refine aT (T n s A H (fun v i=>∃ m f,bH X.K G f F m H i/\SO k τ m i l A B x.2 f/\aO X.K m i x.1 v) I ⟨F,l,B,M,G,x.1,x.2,S,U,fun m i v f u t z=>⟨m,f,u,t,z⟩⟩) fun v g N=>?_;obtain⟨y,i,I1,E,m,f,u,t,z⟩:=N;generalize x.1=d at *
 cases z with
 | @lst a vs ds' hq rr=>
  cases j;cases E;obtain⟨r,O,p,Q⟩:=I1.list hq.sq;refine Jn p.isList ?_
  refine⟨g.heap.objs.size,[g.heap.objs.size],_,_,i,rfl,I1.kept (t':=g.toks) fun b o e=>Qe _ e,Lq a _,⟨_,Qz _ rfl,rfl,rfl⟩,fun b w=>?_,c m i _ f u t (Hw hq rr)⟩
  have e:b=g.heap.objs.size:=by simpa using w
  subst e;exact I1.fpOk (Qk _) (I1.hok.fresh (Qk _))
 | @tup a vs ds' hq rr=>
  cases j;cases E;obtain⟨r,O,p,Q⟩:=I1.tuple hq;refine wpAny_pyIter_tuple (show g.heap.IsTuple a r.toArray from p) ?_
  refine⟨g.heap.objs.size,[g.heap.objs.size],_,_,i,rfl,I1.kept (t':=g.toks) fun b o e=>Qe _ e,Lr a _,⟨_,Qz _ rfl,rfl,rfl⟩,fun b w=>?_,c m i _ f u t (Hy hq rr)⟩
  have e:b=g.heap.objs.size:=by simpa using w
  subst e;exact I1.fpOk (Qk _) (I1.hok.fresh (Qk _))
 | non=>cases j
 | dct _ _ _ _ _=>cases j
 | exn _ _ _=>cases j
 | bl _=>cases j
 | int _=>cases j
 | str _=>cases j
theorem zTa(t:XE k τ e ga)(r:XG k τ tg s)(hs:swapsWithSole [tg] e pos.line X.env=pure false:=by rfl)(p:swappedStores [tg] e X.env=pure none:=by rfl)
  (u:(ZB [tg] X.env).map (·.2)=[Vu tg X.env]:=by rfl):XS k τ (.Assign [tg] e pos) (vO ga s):=ps_mono (IW t r hs p u) fun W G H m=>by
 obtain⟨g,i,a,F,h,l,n,o,K0,S,q,c⟩:=m;obtain⟨x,y,q⟩:=aF q;obtain⟨f,w,q⟩:=aF q;cases q
 exact⟨F,a,h,l,n,x.1,x.2,S,y,fun j E v b K' A B=>⟨j,a,h,x.2,b,x.1,f,A,B,w,fun d z=>c j E d b (K0.trans K') K'.k.st z⟩⟩
structure FG(X:Cx){B:Type}(k:cF X.K B)(τ:List (Nat × Nat))(s:D->aA->Option aA)(g:GS B)(xs:List D)(o:qU B)(os₀:List Oa)(F₀ F F1:YP->Prop)(H₀ H H1:Hp)(n:Nat)(σ2:L2.St)(H2:Hp)(F2:YP->Prop)(ρ2:aA)(Ω2:List B)(os2:List Oa):Prop where
 K2:bH X.K os₀ os2 F₀ F2 H₀ H2
 T0:bA X.K F F2 H H2
 T1:bA X.K F1 F2 H1 H2
 S2:SO k τ F2 H2 H₀ σ2 ρ2 Ω2 os2
 q2:tF s g (xs.drop n) ρ2 Ω2=some o
theorem zTb(hp:PassesOwn (J4 X.prog X.w) X.A X.env X.xe)(hc:X.calm=true)(hi:XI k τ tg iter gi)(hg:XG k τ tg s)(hb:i8 k τ body g)
  (hs:∀ x,Zx iter X.env x=pure x:=by intro _;rfl):XS k τ (.For tg iter body [] pos) (yU gi s g):=
 ps_mono (BL hp hc hi hg hb hs) fun W σ H zz=>by
  obtain⟨b,i,a,F,T,Ω,os,o,K0,S,q,c⟩:=zz;obtain⟨⟨e,z⟩,e1,q⟩:=aF q
  refine⟨F,a,T,Ω,os,e,z,S,e1,fun R H1 J N K1 S1 I1=>?_⟩
  refine⟨fun n m r G=>m=e.length-n/\n<=e.length/\∃ I t j f,FG X k τ s g e o b i F R a H H1 n r G I t j f,
   ⟨e.length,rfl,Q2 _,R,T,z,N,K0.trans K1,K1.k.st,bA.refl _ _ _,S1,q⟩,?_⟩
  rintro n m r G ⟨rfl,a3,I,t,j,f,K2,T0,T1,S2,l⟩;obtain⟨Q,O⟩:=I1 I G T1 S2.S.fz n;by_cases p:n<e.length
  ·right
   have B:e[n]?=some e[n]:=by simp [p]
   obtain⟨go,K⟩:=Q _ B;rw [Yc p]at l;obtain⟨v,e3,l⟩:=aF l;obtain⟨U,e4,l⟩:=aF l
   refine⟨go,fun u Z=>∃ F4 ρ4 Ω4 os4,FG X k τ s g e o b i F R a H H1 (n+1) u Z F4 ρ4 Ω4 os4,fun u Z h=>⟨e.length-(n+1),by lia,rfl,p,h⟩,fun x H3 y=>?_⟩
   obtain⟨F3,E3,R3⟩:=K x H3 y;have TT0:=T0.trans E3.stay;have TT1:=T1.trans E3.stay
   refine⟨F3,a,t,j,f,e[n],v,S2.ext E3,R3,e3,fun a2 S5=>⟨b,i,a,F3,v,j,f,U,K2.trans (bH.ext S2.S.fz E3),S5,e4,?_⟩⟩
   cases U with
   | nx ρ6 Ω6=>exact fun F6 H6 a0 M K6 Y S6=>⟨F6,ρ6,Ω6,M,K6,TT0.trans Y,TT1.trans Y,S6,l⟩
   | rt d Ω6=>cases l;exact c
  ·left
   have E:e.length<=n:=YR p
   refine⟨O E,?_⟩
   rw [YW E]at l;cases l;exact c I G r f K2 T0 S2
theorem zTd(n:Nat)(T:PassesOwn (J4 X.prog X.w) X.A X.env X.xe)(U:XT k τ c t)(Y:i8 k τ body g):XS k τ (.While c body [] pos) (n8 t g n):=
 ps_mono (IZ T U Y) fun W σ H Q=>by
  obtain⟨b,f,a,F,N,O,R,o,K0,S,q,G⟩:=Q
  refine⟨fun m p z=>∃ x e j l,bH X.K b l f x a z/\bA X.K F x H z/\SO k τ x z a p e j l/\n8 t g m e j=some o,⟨n,F,N,O,R,K0,bA.refl _ _ _,S,q⟩,?_⟩
  rintro m p z ⟨x,e,j,l,K2,T2,S2,i⟩
  cases m with
  | zero=>cases i
  | succ m=>
   obtain⟨⟨r,u⟩,e1,i⟩:=aF i
   refine⟨x,a,e,j,l,r,u,S2,e1,fun J H3 v K3 I=>?_⟩
   cases r with
   | false=>
    simp only [Qm,if_false]at i ⊢;cases i;exact G J H3 p v (K2.trans K3) (T2.trans K3.k.st) I
   | true=>
    simp only [if_true]at i ⊢;obtain⟨E,Z,i⟩:=aF i
    refine⟨fun s y=>∃ F4 ρ4 Ω4 os4,bH X.K b os4 f F4 a y/\bA X.K F F4 H y/\SO k τ F4 y a s ρ4 Ω4 os4/\n8 t g m ρ4 Ω4=some o,fun s y h=>⟨m,Jb m,h⟩,?_⟩
    refine⟨b,f,a,J,e,u,v,E,K2.trans K3,I,Z,?_⟩
    cases E with
    | nx ρ6 Ω6=>exact fun F6 H6 M B K6 T6 S6=>⟨F6,ρ6,Ω6,B,K6,(T2.trans K3.k.st).trans T6,S6,i⟩
    | rt d Ω6=>cases i;exact G
end
end OB
namespace KP
open PySem.Spec L2 DL DC
section
variable {P:J5}{w:J6}
variable {A:Around}{E:JZ->J0->Prop}{s:J0}
end
end KP
namespace KP
open PySem.Spec L2 DL DC ST SL
section
variable {P:J5}{w:J6}{κ:Type}[DecidableEq κ]{knd:HeapKind P w κ}{A:Around}{E:JZ->J0->Prop}{s:J0}{d b:YP}{k:κ}{xs:List (κ × YP × JZ)}
end
section
variable {X:Cx}{pins:List (YP × Obj)}{σ:L2.St}{H:Hp}{s:J0}
end
end KP
namespace KP
open PySem.Spec L2 DL DC ST SL
section
variable {P:J5}{w:J6}
theorem V4:PySem.W.KdlSrc P w "dict" d d raw.size (fun i v=>∃ h:i<raw.size,v=raw[i].key) (fun h=>kD h d raw ep) where
 type:=fun s h=>h.ty
 there:=fun h ⟨f,o,a,g⟩=>⟨Qu a,Qu a⟩
 keep:=fun h p ⟨f,o,a,g⟩ r=>⟨f,o,r d (.inl rfl) o a,g⟩
 notList:=by decide
 notTuple:=by decide
 hint:=fun _ _ _ _ m u=>PySem.W.kdl_hint_dict m.ty u
 iter:=fun A s F m=>by
  have x:d<s.heap.objs.size:=let⟨_,o,a,_⟩:=m;Qu a
  refine⟨_,fun i h=>h.IsKeyIter s.heap.objs.size d i raw.size ep/\kD h d raw ep,fun _ _ u=>Ce m u,⟨?_,?_,?_,?_,?_⟩,⟨_,Qz _ rfl,rfl,by simp [Vy]⟩,?_⟩
  ·intro b k;simp at k;simp [k]
  ·rintro i h p ⟨⟨o,e,c⟩,f,j,a,g⟩ r
   exact⟨⟨o,r _ (by simp) o e,c⟩,f,j,r d (by simp) j a,g⟩
  ·rintro i q Q E B ⟨l,rd⟩ n;refine Cs l rd B fun p t z=>n _ p q.toks ⟨B,rfl⟩ ⟨t,?_⟩ fun b o k e=>(z.2 b (fun h=>k (by simp [h]))).trans e;obtain⟨f,j,a,g⟩:=rd
   exact⟨f,j,(z.2 d (QG x)).trans a,g⟩
  ·rintro q Q E ⟨l,rd⟩ n;exact AO F l rd (Qk _) fun p y=>n p q.toks fun b o k e=>y b o (fun h=>k (by simp [h])) e
  ·rintro i q Q E ⟨l,rd⟩ n;exact U4 l n
  ·obtain⟨f,j,a,g⟩:=m
   exact⟨f,j,Qe _ a,g⟩
end
section
variable {X:Cx}
def Xt:List V->Hp->VK->Prop:=fun b H Q=>∃(a:YP) (es:List cT) (ep:Nat),b=[.ref a]/\H a=some (bI a es ep)/\es.length<=1000/\∀ p,H p=none->Q (.ref p) (aJ H p (.lst (es.map fun e=>V.ref e.2.1)))
theorem P5(B:X.calm=true):dW X (.type "list") Xt:=fun j s M H N O Q I r p=>by
 obtain⟨a,f,ep,G,h,g,k⟩:=p;subst G;obtain⟨u,rfl,t⟩:=iN r;cases t;obtain⟨v,rd,sz,l⟩:=xH I h;refine PySem.W.kdl_call (V4 (ep:=ep)) (I.ok.hd B) rd (by rw [sz];exact QH g (by rw [Yo];lia)) fun F R b K keep E d=>?_;have A:H s.heap.objs.size=none:=I.hok.fresh (Qk _)
 have q:Vals (f.map fun e=>V.ref e.2.1) b.toList:=by
  have:b.toList=f.map fun e=>Zb e.2.1:=by
   refine List.ext_getElem? fun i=>?_;rw [QN];by_cases c:i<f.length
   ·have m:i<b.size:=by rw [d.1,sz];exact c
    have J:b.toList[i]?=some b[i]:=by simp [m]
    obtain⟨y,x⟩:=d.2 i b[i] (by simp [m])
    have n:f[i]?=some f[i]:=by simp [c]
    rw [J,n,x,l i y _ n];rfl
   ·rw [UN (by rw [Qh,d.1,sz];lia),UN (YR c)];rfl
  rw [this];clear this l sz k h g
  induction f with
  | nil=>exact .nil
  | cons e f z=>exact .cons rfl z
 refine⟨.ref s.heap.objs.size,_,I.laid (o:=.lst (f.map fun e=>V.ref e.2.1)) keep (Qk _) ?_,rfl,k _ A⟩
 exact(show eG X.prog X.w _ F _ (.lst (f.map fun e=>V.ref e.2.1))from⟨by rw [Qo];exact QH g (by rw [Yo];lia),b.toList,K,q,by rw [Array.toArray_toList];exact E⟩)
end
end KP
namespace OB
open PySem.Spec L2 CL DL SD DC TB ST SL
def kM(F:YP->Prop)(b:List Oa):YP->Prop:=fun a=>F a ∨ fC b a
def qJ(F:YP->Prop)(b:List Oa):YP->Prop:=fun a=>F a/\¬ fC b a
abbrev GR(B:Type):=aA->List B->Option D
section
variable {K:PySem.W.Frag}{B:Type}{k:cF K B}{τ:List (Nat × Nat)}{F F':YP->Prop}{H H' H₀:Hp}{σ:L2.St}{ρ:aA}{Ω:List B}{os:List Oa}
theorem Ik(h:aO K F H d v)(m:∀ a,F a->F' a):aO K F' H d v:=h.stay ⟨m,fun _ _ z=>z,fun _ _ _ z=>z,fun _ _ _ z=>z⟩
theorem lend(S:SO k τ F H H₀ σ ρ Ω os)(E:aI (kM F os) F' H H'):aI F (qJ F' os) H H':=
 ⟨E.same,fun a f=>⟨E.up a (.inl f),fun z=>(S.o.live z).2 f⟩,fun a f=>(E.new a f.1).imp_left fun z=>z.elim id fun z=>absurd z f.2⟩
theorem zRp(S:SO k τ F H H₀ σ ρ Ω os):∀ a,kM F os a->H a≠none:=fun a f=>f.elim (S.S.fz a) fun f=>(S.o.live f).1
theorem WH(E:aI (kM F os) F' H H'):∀ a,F' a->kM (qJ F' os) os a:=fun a f=>by
 by_cases z:fC os a
 ·exact .inr z
 ·exact .inl ⟨f,z⟩
theorem zRo(E:aI (kM F os) F' H H'):∀ a,kM (qJ F' os) os a->F' a:=fun a f=>f.elim (fun z=>z.1) fun z=>E.up a (.inr z)
end
section
variable {K:PySem.W.Frag}{B:Type}(k:cF K B)(τ:List (Nat × Nat))
inductive qW(g:GR B)(σ:L2.St)(H:Hp)(Q:VK):Prop
 | mk (F:YP->Prop) (H₀:Hp) (ρ:aA) (Ω:List B) (os:List Oa) (d:D) (S:SO k τ F H H₀ σ ρ Ω os) (q:g ρ Ω=some d) (c:∀ F' H' v,aI (kM F os) F' H H'->aO K F' H' d v->Q v H'):qW g σ H Q
end
def XR{X:Cx}{B:Type}(k:cF X.K B)(τ:List (Nat × Nat))(e:Expr)(g:GR B):Prop:=PE X e (qW k τ g)
def yX{K:PySem.W.Frag}{B:Type}(k:cF K B)(C:YP)(f:Str)(get:B->Option D):Prop:=∀{F:YP->Prop}{H:Hp}{p:YP}{b:B}{φ:YP->Prop}{d:D},k.At F H p b φ->get b=some d->∃ dx fs v,H p=some (.ins C dx fs)/\fs.lookup f=some v/\aO K (fun a=>F a ∨ φ a) H d v
section
variable {B:Type}
def rP(g:aA->Option D):GR B:=fun a _=>g a
def u7(j:Nat)(get:B->Option D):GR B:=fun _ a=>(a[j]?).bind get
def rO(h:D->D->Option D)(c gb:GR B):GR B:=fun a b=>(c a b).bind fun x=>(gb a b).bind fun y=>h x y
def Ay(g:GR B):GX B D:=fun b a=>(g b a).bind fun d=>if uY d=true then some (d,a)else none
def Ef(g:GR B):GX B Bool:=fun c a=>(g c a).bind fun d=>(eY d).bind fun b=>some (b,a)
end
section
variable {X:Cx}{B:Type}{k:cF X.K B}{τ:List (Nat × Nat)}{a b e:Expr}{es:List Expr}{ga gb:GR B}{pos p:Pos}
theorem Kg(h:DE X e g):XR k τ e (rP g):=cJ h fun o H Q j=>by
 obtain⟨F,b,i,p,l,d,S,q,c⟩:=j
 refine⟨F,b,i,d,S.S,q,fun n m v E R=>c (kM n l) m v ⟨E.same,fun a f=>f.elim (fun z=>.inl (E.up a z)) .inr,fun a f=>f.elim (fun z=>(E.new a z).imp_left .inl) fun z=>.inl (.inr z)⟩ (Ik R fun _ z=>.inl z)⟩
theorem Kf{i j:Nat}{x f:Str}{C:YP}{get:B->Option D}(t:(i,j)∈τ)(M:gA X.K C)(s:iV X.K C f)(g:yX k C f get)(G:X.N[i]?=some x:=by rfl)(u:gD X.env.scope x:=by first | exact Zi rfl | exact Zd (Zi rfl) | exact Zd (Zd rfl))(A:(x == ("__debug__":Str))=false:=by decide)
  (e:(x == ("__classdict__":Str))=false:=by decide) (E:ZE (.Name x p) f X.env (Zr (.Name x p) X.env)=Zr (.Name x p) X.env:=by rfl):XR k τ (.Attribute (.Name x p) f pos) (u7 j get):=cJ (pK (gQ G u A e) E) fun O H Q m=>by
 obtain⟨F,l,R,T,n,d,S,q,c⟩:=m;obtain⟨b,I,q⟩:=aF q;obtain⟨o,h,at0⟩:=i3 S.o.at_ I;obtain⟨J,fs,v,w,y,r⟩:=g at0 q
 exact⟨_,S.hd i j t o h,o.1,C,J,fs,v,rfl,w,M,s,y,c (kM F n) H v (aI.refl _ H) (Ik r fun a z=>z.imp_right fun z=>iY h z)⟩
theorem G1(q:qW k τ (rO h ga gb) σ H Q):lL (cD X.K h) (qW k τ ga) (qW k τ gb) σ H Q:=by
 obtain⟨F,b,g,i,e,d,S,q,c⟩:=q;obtain⟨x,o,q⟩:=aF q;obtain⟨y,n,q⟩:=aF q
 refine⟨F,b,g,i,e,x,S,o,fun m s v E1 R1=>?_⟩
 have j:=S.ext (lend S E1)
 refine⟨qJ m e,b,g,i,e,y,j,n,fun l H2 w E2 R2=>?_⟩
 have E12:aI m l s H2:=⟨E2.same,fun a f=>E2.up a (WH E1 a f),fun a f=>(E2.new a f).imp_left (zRo E1 a)⟩
 exact⟨l,x,y,d,E2.fz (zRp j),R1.stay E12.stay,R2,q,fun t r z u p=>c t r z (E1.trans (E12.trans u)) p⟩
theorem Pp(c:gC X (cD X.K h))(e:XR k τ a ga)(d:XR k τ b gb)(hs:sA b:=by exact fun _ _=>rfl):XR k τ (.Subscript a b pos) (rO h ga gb):=cJ (w5 c e d hs) fun _ _ _ q=>G1 q
theorem zS5(h:XR k τ e g):XE k τ e (Ay g):=cJ h fun s H Q m=>by
 obtain⟨F,a,i,l,b,d,j,S,q,c⟩:=m;obtain⟨o,n,q⟩:=aF q;by_cases f:uY o=true
 ·rw [if_pos f]at q;cases q
  exact⟨F,a,i,l,b,d,S,n,fun r p v E R=>c (qJ r b) p v b (bH.ext S.S.fz (lend S E)) (S.ext (lend S E)) (Hl R f)⟩
 ·rw [if_neg f]at q;cases q
theorem zTe(m:bF X (Ze op) (cD X.K h))(p:XR k τ a ga)(o:XR k τ b gb)(n:ZN op b=false):XT k τ (.Compare a [op] [b] pos) (Ef (rO h ga gb)):=l8 (xG m p o n) fun x H Q l=>by
 obtain⟨F,e,g,j,f,r,i,S,q,c⟩:=l;obtain⟨d,t,q⟩:=aF q;obtain⟨y,s,q⟩:=aF q;cases q;exact G1 ⟨F,e,g,j,f,d,S,t,fun w u v E R=>⟨r,mD R s,c (qJ w f) u f (bH.ext S.S.fz (lend S E)) (S.ext (lend S E))⟩⟩
end
def Be{K:PySem.W.Frag}{B:Type}(k:cF K B)(C:YP)(f:Str)(get:B->List D):Prop:=∀{F:YP->Prop}{H:Hp}{p:YP}{b:B}{φ:YP->Prop},k.At F H p b φ->∃ dx fs c vs,H p=some (.ins C dx fs)/\fs.lookup f=some (.ref c)/\φ c/\¬ F c/\H c=some (.lst vs)/\Reps K F H (get b) vs
def EV{K:PySem.W.Frag}{B:Type}(k:cF K B)(C:YP)(f:Str)(e:B->D->B):Prop:=∀{F:YP->Prop}{H:Hp}{p:YP}{b:B}{φ:YP->Prop}{d:D}{v:V}{dx:YP}{fs:List (Str × V)}{c:YP}{vs:List V},k.At F H p b φ->(∀ a,F a->H a≠none)->aO K F H d v->H p=some (.ins C dx fs)->fs.lookup f=some (.ref c)->H c=some (.lst vs)->k.At F (aJ H c (.lst (vs++[v]))) p (e b d) φ
def cX(l:List (List Int × YP)):List cT:=l.map fun p=>(.inl p.1,p.2,.bl true)
def iC(l:List (List Int × YP)):List (List Int × YP × JZ):=l.map fun p=>(p.1,p.2,.bool true)
structure Td(K:PySem.W.Frag)(H:Hp)(a:YP)(l:List (List Int × YP))(ep:Nat):Prop where
 at_:H a=some (bI a (cX l) ep)
 ky:∀ p∈l,bJ K H p.2 (p.1.map V.int)
 nd:(l.map (·.1)).Nodup
 ln:l.length<=1000
def Bc{K:PySem.W.Frag}{B:Type}(k:cF K B)(C:YP)(f:Str)(get:B->List (List Int)):Prop:=∀{F:YP->Prop}{H:Hp}{p:YP}{b:B}{φ:YP->Prop},k.At F H p b φ->∃ dx fs a l ep,H p=some (.ins C dx fs)/\fs.lookup f=some (.ref a)/\φ a/\¬ F a/\Td K H a l ep/\l.map (·.1)=get b
def Fu{K:PySem.W.Frag}{B:Type}(k:cF K B)(C:YP)(f:Str)(c:B->List (List Int)->B):Prop:=∀{F:YP->Prop}{H:Hp}{p:YP}{b:B}{φ:YP->Prop}{dx:YP}{fs:List (Str × V)}{a:YP}{l l':List (List Int × YP)}{ep ep':Nat},k.At F H p b φ->(∀ a,F a->H a≠none)->H p=some (.ins C dx fs)->fs.lookup f=some (.ref a)->Td K H a l ep->
 (∀ p∈l',bJ K H p.2 (p.1.map V.int))->(l'.map (·.1)).Nodup->l'.length<=1000->k.At F (aJ H a (bI a (cX l') ep')) p (c b (l'.map (·.1))) φ
theorem Td.stay{K:PySem.W.Frag}{F d:YP->Prop}{H b:Hp}{a:YP}{l:List (List Int × YP)}{ep:Nat}(h:Td K H a l ep)(T:bA K F d H b)(s:b a=some (bI a (cX l) ep)):Td K b a l ep:=⟨s,fun p c=>T.tp _ _ (h.ky p c),h.nd,h.ln⟩
section
variable {X:Cx}{pins:List (YP × Obj)}{σ:L2.St}{H:Hp}{s:J0}
theorem Lg(I:L2.Inv X pins σ H s)(h:Td X.K H a l ep):(a == Zm)=false/\s.heap.DictOfH (dZ X.prog X.w) a (iC l):=by
 obtain⟨⟨i,o,c,y,v,u,n⟩,_⟩:=(show eG X.prog X.w H s.heap a (bI a (cX l) ep)from I.hok a _ h.at_)
 have mk:∀{l:List (List Int × YP)}{r:List ZI},Paired (fun(e:eH × YP × V) (r:ZI)=>r.hash=AF e.1/\r.key=.ref e.2.1/\RelV e.2.2 r.val) (cX l) r->r=(iC l).map (entryOfKey (dZ X.prog X.w)):=by
  intro l
  induction l with
  | nil=>intro r q;cases q;rfl
  | cons p l j=>
   intro r q
   cases q with
   | @cons _ x _ xs z t=>
    rw [j t];obtain⟨f,d,b⟩:=z;obtain⟨B,A,g⟩:=x;have b:g=ZV true:=b;dsimp only at f d;subst f d b;rfl
 refine⟨i,o,c,ep,y,v,u,mk n,fun x k=>?_,?_⟩
 ·obtain⟨p,m,rfl⟩:=QT.mp k;exact iM I (h.ky p m)
 ·unfold iC;rw [Yj];exact h.nd
theorem zSu{P:J5}{w:J6}{h:Heap}{a:YP}{l:List (List Int × YP)}(c:(a == Zm)=false)(d:h.DictOfH (dZ P w) a (iC l)):∃ ep,eG P w H h a (bI a (cX l) ep):=by
 obtain⟨o,b,ep,e,i,g,f,n,m⟩:=d;clear n m
 refine⟨ep,⟨c,o,b,e,i,g,?_⟩,⟨o,e⟩,fun r q ⟨c,o,b,t,s⟩ k=>⟨c,o,b,k _ t,s⟩⟩
 rw [f];clear e i g f
 induction l with
 | nil=>exact .nil
 | cons p l j=>exact .cons ⟨rfl,rfl,rfl⟩ j
end
section
variable {P:J5}{w:J6}{κ:Type}[DecidableEq κ]{knd:HeapKind P w κ}{A:Around}{E:JZ->J0->Prop}{s:J0}{d o:YP}{xs ys:List (κ × YP × JZ)}
theorem Xe(q:knd.room A)(b:knd.is s.heap k a)(t:s.heap.DictOfH knd d xs)(n:k∉xs.map (·.1))(hsz:xs.length<=sizeLine)
  (B:∀ h',h'.DictOfH knd d (xs++[(k,a,v)])->Zp d s.heap h'->Q () { s with heap:=h' }):J3 (J4 P w) A (dictSetHashed d (.ref a) (knd.hash k) v) Q E s:=by
 obtain⟨H,I,F,h,z,g,l,i,m⟩:=t;unfold dictSetHashed
 try with_reducible refine Yb ?_
 refine Qa (wpAny_dictFind_heap q b h g l i m ?_ fun j p u=>absurd (JR (f:=(·.1)) (QO u)) n);intro r;refine Qa (Jg (wpAny_updateDictKeys (hz:=by have e:=size_of_entries l;lia) h g (B _ ⟨_,_,F+1,Ye _ h (Obj.isFreed_of_dict (Obj.data_mapDictKeys g _)),z.mapDictKeys _,Obj.data_mapDictKeys g _,?_,?_,?_⟩ (Q8 ..))))
 ·simp [l,entryOfKey]
 ·intro x c;rcases QA.mp c with c | c
  ·exact knd.keeps (i x c) h g (Q8 ..)
  ·rw [Qp.mp c];exact knd.keeps b h g (Q8 ..)
 ·rw [Q6,YI]
  exact⟨m,by simp,fun x c y o e=>n (by have G:y=k:=Qp.mp o;rw [<- G,<- e];exact c)⟩
theorem Tk(hu:knd.room A)(u:d≠o)(S:(o == Zm)=false)(hd:s.heap.DictOfH knd d xs)(ho:s.heap.DictOfH knd o ys)(h0:xs≠[])(hn:((xs++ys).map (·.1)).Nodup)(hsz:xs.length+ys.length<=sizeLine)
  (hQ:∀ h',h'.DictOfH knd d (xs++ys)->Zp d s.heap h'->Q () { s with heap:=h' }):J3 (J4 P w) A (Builtin.Dict.mergeDict nm d o) Q E s:=by
 obtain⟨od,N,a7,z,a5,J,X,a0,a3⟩:=id hd;obtain⟨oo,a,a6,j,a4,c,H,G,a2⟩:=id ho;have y:N.size=xs.length:=size_of_entries X;have R:a.size=ys.length:=size_of_entries H;unfold Builtin.Dict.mergeDict;rw [if_neg (by simpa using u)];unfold US;rw [if_neg (by rw [S];exact QB)];refine Qa (Qb ?_);refine Qa (Y4 j c ?_)
 have m:J3 (J4 P w) A (do
   let v <- dictEpoch o
   let l <- dictEntries o
   forIn [:l.size] PUnit.unit fun i (_:PUnit)=>(do
     let l' <- dictEntries o
     match l'[i]? with
      | some e=>do
       UB [e.key,e.val] (dictSetHashed d e.key e.hash e.val)
       let Z <- dictEpoch o
       if(Z != v)=true then do
         (unsupported (toString nm++toString ":source-changed-during-callback"):Sem PUnit)
         pure (ZK PUnit.unit)
        else pure (ZK PUnit.unit)
      | _=>do
       (unsupported "internal:dict-merge":Sem PUnit)
       pure (ZK PUnit.unit):Sem (ForInStep PUnit))
   pure ()) Q E s:=by
  refine Qa (JX j c ?_);refine Qa (Y4 j c ?_);refine Qa ?_;rw [Std.Legacy.Range.forIn_eq_forIn_range'];simp only [Std.Legacy.Range.size,Nat.sub_zero,Nat.add_sub_cancel,Nat.div_one]
  refine YY _
   (fun f _ O=>∃ h' i,O={ s with heap:=h' }/\f=List.range' i (a.size-i)/\i<=a.size/\h'.DictOfH knd d (xs++ys.take i)/\Zp d s.heap h')
   _ ?_ ?_ _ _ ⟨s.heap,0,rfl,by simp,Q2 _,by simpa using hd,JI _ _⟩
  ·rintro x f b O ⟨h',i,rfl,r,hi,k,g⟩
   have U:i<a.size:=by
    rcases JM i a.size with h | h
    ·exact h
    ·rw [Nat.sub_eq_zero_of_le h]at r;simp at r
   obtain⟨rfl,q⟩:x=i/\f=List.range' (i+1) (a.size-(i+1)):=by
    have e:a.size-i=(a.size-(i+1))+1:=by lia
    rw [e,List.range'_succ]at r
    injection r with Y h2
    exact⟨Y,h2⟩
   have p:h'.get? o=some oo:=(g.2 o (Z4 u)).trans j
   have B:x<ys.length:=by lia
   have gy:ys[x]?=some ys[x]:=Qi B
   have ge:a[x]?=some (entryOfKey knd ys[x]):=by rw [entry_at H x,gy];rfl
   refine Qa (Y4 p c ?_);rw [ge];have F:knd.is h' ys[x].1 ys[x].2.1:=knd.keeps (G _ (Yy B)) z J g
   have tk:ys.take (x+1)=ys.take x++[ys[x]]:=by rw [List.take_succ,gy];rfl
   have T:ys[x].1∉(xs++ys.take x).map (·.1):=fun hm=>by
    have e2:((xs++ys.take (x+1)).map (·.1)).Nodup:=by
     refine hn.sublist (List.Sublist.map _ (List.Sublist.append (List.Sublist.refl _) (UD _ _)))
    rw [tk,<- QD,Q6,YI]at e2;exact e2.2.2 _ hm ys[x].1 (by simp) rfl
   show J3 _ _ (UB [Zb ys[x].2.1,ys[x].2.2] (dictSetHashed d (.ref ys[x].2.1) (knd.hash ys[x].1) ys[x].2.2) >>= _) _ _ _
   refine Qa (Yb (Xe (s:={ s with heap:=h' }) hu F k T (by rw [Qj,QQ];lia) fun M K n=>?_));have t:M.get? o=some oo:=(n.2 o (Z4 u)).trans p;refine Qa (JX t c ?_);rw [if_neg (by simp)];refine Qb ⟨M,x+1,rfl,q,U,?_,g.trans n⟩;rw [tk,<- QD];exact K
  ·rintro b O ⟨h',i,rfl,r,hi,k,g⟩
   have W:i=a.size:=by
    rcases JM i a.size with h | h
    ·have e:a.size-i=(a.size-(i+1))+1:=by lia
     rw [e,List.range'_succ]at r;exact nomatch r
    ·exact Vc hi h
   rw [W,R,JN]at k;exact Qb (hQ h' k g)
 dsimp only;split
 ·refine Qa (Y4 z J ?_);split
  ·rename_i I;have Y:N=#[]:=Array.isEmpty_iff.mp I;rw [Y]at y;exact absurd (YA.mp y.symm) h0
  ·exact m
 ·exact m
theorem zSU(i:∀ B:Around,B.units<=A.units+2->knd.room B)(e:d≠o)(c:(o == Zm)=false)(g:s.heap.DictOfH knd d xs)(a:s.heap.DictOfH knd o ys)(k:xs≠[])(j:((xs++ys).map (·.1)).Nodup)(hsz:xs.length+ys.length<=sizeLine)
  (h:∀ h',h'.DictOfH knd d (xs++ys)->Zp d s.heap h'->Q .none { s with heap:=h' }):J3 (J4 P w) A (call (.builtin "dict.update") [.ref d,.ref o]) Q E s:=by
 refine Yq PySem.F.slot_dict_update g.typeIs PySem.F.entry_dict_update ?_ (PySem.F.args_dict_update_2 _ _);unfold Builtin.«dict.update»;refine Qa ?_;unfold Builtin.Dict.selfAndRest;refine Qa (UQ g.typeIs ?_)
 show J3 _ _ (pure (d,[Zb o])) _ _ s
 refine Qb ?_
 show J3 _ _ (Z2 "dict.update" d (.ref o) [] .none) _ _ s
 unfold Z2;refine Qa (Y1 a.typeIs ?_);rw [if_neg (by decide)];refine Qa ?_;unfold Builtin.Dict.merge;refine Qa ?_;unfold Builtin.Dict.readDirectly;refine Qa (Jc a.typeIs isSubtype_dict_dict ?_);simp only [Ys,Qm,if_false];refine Qa (JC a.typeIs PySem.F.slot_dict_iter.lookup (Qb ?_));simp only [beq_self_eq_true,if_true];refine Qa (Qb ?_);refine Tk (i _ (by first | (show A.units+1<=_;lia) | (show A.units<=_;lia) | (show A.units+2<=_;lia))) e c g a k j hsz fun h' f b=>?_
 show J3 _ _ (Builtin.Dict.addKeywords d [] >>= _) _ _ _
 exact Qa (Qb (Qb ⟨.none,rfl,h h' f b⟩))
end
end OB
namespace KP
open PySem.Spec L2 DL DC ST SL
section
variable {X:Cx}
end
end KP
namespace OB
open PySem.Spec L2 CL DL SD DC TB ST SL EL KP
def Oi(K:PySem.W.Frag):V->List V->Hp->VK->Prop:=fun x b H Q=>∃(a o:YP) (l m:List (List Int × YP)) (ep ep2:Nat),x=.ref a/\b=[.ref o]/\a≠o/\Td K H a l ep/\Td K H o m ep2/\l≠[]/\((l++m).map (·.1)).Nodup/\(l++m).length<=1000/\∀ ep',Q .non (aJ H a (bI a (cX (l++m)) ep'))
theorem WL(hu:X.A.units+65<Zf):y3 X "dict.update" (Oi X.K):=fun d s n H x xs v us Q I t y p=>by
 obtain⟨a,o,l,m,ep,U,T,h,F,j,J,R,M,N,q⟩:=p;subst T h;cases t;obtain⟨u,rfl,E⟩:=iN y;cases E;obtain⟨G,dd⟩:=Lg I j;obtain⟨g,i⟩:=Lg I J
 have k:iC l++iC m=iC (l++m):=by unfold iC;rw [Q6]
 have Y:(iC (l++m)).map (·.1)=(l++m).map (·.1):=by unfold iC;rw [Yj];rfl
 have W:(iC l).length+(iC m).length=(l++m).length:=by unfold iC;rw [Qo,Qo,Qj]
 refine zSU (knd:=dZ X.prog X.w) (fun B hB=>show B.units<Zf by lia) F g dd i (fun z=>R (List.map_eq_nil_iff.mp z)) (by rw [k,Y];exact M) (by rw [W];exact QH N (by rw [Yo];lia)) fun S b r=>?_;rw [k]at b;obtain⟨f,oo⟩:=zSu (H:=H) G b;have Z:L2.Inv X d n (aJ H a (bI a (cX (l++m)) f)) { s with heap:=S }:=I.write (x:=a) (e:=a) (t':=s.toks) (by rw [j.at_];exact Ub) (.inl rfl) (fun c ob O z=>(r.2 c O).trans z) (let⟨o2,_,_,hq,_⟩:=b;⟨o2,hq⟩) oo
 exact⟨.non,_,Z,rfl,q f⟩
def lY:List (D × D)->Option (List (List Int))
 | []=>some []
 | (k,v)::r=>(cL k).bind fun a=>(eY v).bind fun b=>if b=true then(lY r).bind fun l=>some (a::l)else none
theorem HF{K:PySem.W.Frag}{F:YP->Prop}{H:Hp}:∀{kvs:List (D × D)}{es:List cT}{ks:List (List Int)},DReps K F H kvs es->lY kvs=some ks->∃ m:List (List Int × YP),es=cX m/\m.map (·.1)=ks/\∀ p∈m,bJ K H p.2 (p.1.map V.int):=by
 intro kvs
 induction kvs with
 | nil=>intro es ks r h;cases r;cases h;exact⟨[],rfl,rfl,fun _ h=>nomatch h⟩
 | cons s kvs g=>
  intro es ks r h
  cases r with
  | @cons k b d v _ es hk hr r=>
   obtain⟨k1,q,h⟩:=aF h;obtain⟨b1,o,h⟩:=aF h
   cases b1 with
   | false=>cases h
   | true=>
    obtain⟨l,n,h⟩:=aF h;cases h;obtain⟨m,f,e,c⟩:=g r n;have j:k=.inl k1:=(vR hk).mp q;subst j;have i:=mD hr o;subst i
    refine⟨(k1,b)::m,by rw [f];rfl,by rw [Qs,e],fun p a=>?_⟩
    rcases Qq.mp a with rfl | a
    ·exact hk
    ·exact c p a
section
variable {B:Type}
def Kl(j:Nat)(get:B->List D)(e:B->D->B)(ge:aA->Option D):GS B:=fun a c=>(ge a).bind fun d=>(c[j]?).bind fun b=>if(get b).length<1000 then some (.nx a (c.set j (e b d)))else none
def CI(j:Nat)(get:B->List (List Int))(g:B->List (List Int)->B)(ge:aA->Option D):GS B:=fun e f=>(ge e).bind fun d=>match d with
 | .dict a=>(lY a).bind fun c=>(f[j]?).bind fun b=>if get b≠[]/\(get b++c).Nodup/\(get b++c).length<=1000 then some (.nx e (f.set j (g b (get b++c))))else none
 | _=>none
def KF(j:Nat)(get:B->List D):GX B D:=fun _ a=>(a[j]?).bind fun b=>some (.list (get b),a)
def KG(j:Nat)(get:B->List (List Int)):GX B D:=fun _ a=>(a[j]?).bind fun b=>(k5 [.list ((get b).map fun k=>jA (.inl k))]).bind fun d=>some (d,a)
end
section
variable {X:Cx}{B:Type}{k:cF X.K B}{τ:List (Nat × Nat)}{e:Expr}{ge:aA->Option D}{pos p ap:Pos}{i j:Nat}{x f:Str}{C:YP}(mm:(i,j)∈τ)(cl:gA X.K C)(nf:iV X.K C f)(hN:X.N[i]?=some x)(hv:gD X.env.scope x)(hd:(x == ("__debug__":Str))=false)(hcd:(x == ("__classdict__":Str))=false)(hb:ZE (.Name x p) f X.env (Zr (.Name x p) X.env)=Zr (.Name x p) X.env)
include mm cl nf hN hv hd hcd hb
theorem zS9{get:B->List D}{T:B->D->B}{E n:Pos}(gl:Be k C f get)(g:EV k C f T)(he:DE X e ge)(hs:J2 [e] X.env=(false,Zr e X.env)::J2 [] X.env)(N:ZE (.Attribute (.Name x p) f ap) "append" X.env (Zr (.Attribute (.Name x p) f ap) X.env)=Zr (.Attribute (.Name x p) f ap) X.env)
  (u:((Zt n (J2 [e] X.env)).all (fun x => !x.1) && (UC n (ZT [] X.env)).all (fun x=>x.1.isSome) && decide ([e].length+([]:List Us).length+(if([]:List Us).isEmpty then 0 else 1)<30))=true)
  (hl:(E.endLine == n.line)=true) (hp:(Zt n (J2 [] X.env)).any (·.1)=false) (G:ZC (.Call (.Attribute (.Attribute (.Name x p) f ap) "append" E) [e] [] n) none pos.line X.env=pure false):
  XS k τ (.Expr (.Call (.Attribute (.Attribute (.Name x p) f ap) "append" E) [e] [] n) pos) (Kl j get T ge):=
 ps_mono (pL (Cz PySem.F.plainAttrs_list PySem.F.slot_list_append PySem.F.type_list_append Co (pK (gQ hN hv hd hcd) hb) (fS he hE hs) N u hl hs hp) G) fun W σ H zz=>by
  obtain⟨A,a0,z,F,ρ,Ω,os,o,K0,S,q,c⟩:=zz;obtain⟨d,e1,q⟩:=aF q;obtain⟨b,Y,q⟩:=aF q;by_cases l:(get b).length<1000
  ·rw [if_pos l]at q;cases q;obtain⟨o,M,at0⟩:=i3 S.o.at_ Y;obtain⟨dx,fs,Z,R,s,t,r,a2,w,I⟩:=gl at0
   refine⟨_,S.hd i j mm o M,o.1,C,dx,fs,_,rfl,s,cl,nf,t,.inl ⟨rfl,_,bY.of w⟩,F,z,ρ,d,S.S,e1,fun Q H1 v E1 R1=>?_⟩
   have S1:=S.ext E1;obtain⟨b1,U,y⟩:=nR S1.o.at_ M;rw [Y]at U;cases U;have J:=E1.same _ _ s;have m:=E1.same _ _ w;have O:=g y S1.S.fz R1 J t m;have kp:cU X.K o.2 Q Q H1 (aJ H1 Z (.lst (R++[v]))):=nI S1.S.fz m yP.1 yP.2 ((k.own y).2 _ r).2 r;obtain⟨S2,K2⟩:=S1.turn M kp (fun a h=>.inl h) O
   exact⟨Z,R,v,rfl,rfl,m,uB (by rw [<- I.length];lia),c Q _ σ _ (K0.trans ((bH.ext S.S.fz E1).trans K2)) (E1.stay.trans K2.k.st) S2⟩
  ·rw [if_neg l]at q;cases q
theorem zTc{get:B->List (List Int)}{up:B->List (List Int)->B}{Y t:Pos}(hu:X.A.units+65<Zf)(gl:Bc k C f get)(g:Fu k C f up)(he:DE X e ge)(hs:J2 [e] X.env=(false,Zr e X.env)::J2 [] X.env)(a5:ZE (.Attribute (.Name x p) f ap) "update" X.env (Zr (.Attribute (.Name x p) f ap) X.env)=Zr (.Attribute (.Name x p) f ap) X.env)
  (G:((Zt t (J2 [e] X.env)).all (fun x => !x.1) && (UC t (ZT [] X.env)).all (fun x=>x.1.isSome) && decide ([e].length+([]:List Us).length+(if([]:List Us).isEmpty then 0 else 1)<30))=true)
  (hl:(Y.endLine == t.line)=true) (r:(Zt t (J2 [] X.env)).any (·.1)=false) (Z:ZC (.Call (.Attribute (.Attribute (.Name x p) f ap) "update" Y) [e] [] t) none pos.line X.env=pure false):
  XS k τ (.Expr (.Call (.Attribute (.Attribute (.Name x p) f ap) "update" Y) [e] [] t) pos) (CI j get up ge):=
 ps_mono (pL (V8 PySem.F.slot_dict_update PySem.F.type_dict_update (WL hu) (pK (gQ hN hv hd hcd) hb) (fS he hE hs) a5 G hl hs r) Z) fun W σ H zz=>by
  obtain⟨U,a6,N,F,ρ,Ω,os,o,K0,S,q,c⟩:=zz;obtain⟨d,e1,q⟩:=aF q
  split at q
  ·rename_i a7;obtain⟨ks,e2,q⟩:=aF q;obtain⟨b,e3,q⟩:=aF q;by_cases hk:get b≠[]/\(get b++ks).Nodup/\(get b++ks).length<=1000
   ·rw [if_pos hk]at q;cases q;obtain⟨h0,s,a4⟩:=hk;obtain⟨o,hj,at0⟩:=i3 S.o.at_ e3;obtain⟨dx,fs,a,l,ep,y,E,u,a3,O,el⟩:=gl at0
    refine⟨_,S.hd i j mm o hj,o.1,C,dx,fs,_,rfl,y,cl,nf,E,⟨a,_,ep,rfl,O.at_⟩,F,N,ρ,_,S.S,e1,fun F1 R v E1 R1=>?_⟩
    have S1:=S.ext E1;obtain⟨b1,e4,M⟩:=nR S1.o.at_ hj;rw [e3]at e4;cases e4;have a0:=E1.same _ _ y;have n:Td X.K R a l ep:=O.stay E1.stay (E1.same _ _ O.at_)
    cases R1 with
    | @dct a2 es _ ep2 fa2 ha2 nd2 ln2 r2=>
     obtain⟨m,rfl,q2,q3⟩:=HF r2 e2
     have ne:a≠a2:=fun z=>by
      subst z;rcases E1.new _ fa2 with w | ⟨w,_⟩
      ·exact a3 w
      ·rw [O.at_]at w;cases w
     have n2:(m.map (·.1)).Nodup:=by
      rw [q2]
      exact(YI.mp s).2.1
     have T:Td X.K R a2 m ep2:=⟨ha2,q3,n2,by simpa [cX]using ln2⟩
     have Q:(l++m).map (·.1)=get b++ks:=by rw [Q6,el,q2]
     have I:(l++m).length<=1000:=by rw [<- Qo (f:=(·.1)),Q];exact a4
     have l0:l≠[]:=fun z=>h0 (by rw [<- el,z];rfl)
     refine⟨a,a2,l,m,ep,ep2,rfl,rfl,ne,n,T,l0,by rw [Q];exact s,I,fun ep'=>?_⟩
     have J:=g (ep':=ep') (l':=l++m) M S1.S.fz a0 E n (fun p r=>by
      rcases QA.mp r with r | r
      ·exact n.ky p r
      ·exact q3 p r) (by rw [Q];exact s) I
     rw [Q]at J;have kp:cU X.K o.2 F1 F1 R (aJ R a (bI a (cX (l++m)) ep')):=nI S1.S.fz n.at_ yO.1 yO.2 ((k.own M).2 _ u).2 u;obtain⟨S2,K2⟩:=S1.turn hj kp (fun a h=>.inl h) J;exact c F1 _ σ _ (K0.trans ((bH.ext S.S.fz E1).trans K2)) (E1.stay.trans K2.k.st) S2
    | exn _ _ _=>cases e2
   ·rw [if_neg hk]at q;cases q
  ·cases q
theorem zS6{get:B->List D}{A t:Pos}(K:Be k C f get)(n:Gl X "list")(g:X.mg "list"=none)(s:J2 [.Attribute (.Name x p) f ap] X.env=(false,Zr (.Attribute (.Name x p) f ap) X.env)::J2 [] X.env)(J:(Zt t (J2 [] X.env)).any (·.1)=false):
  XE k τ (.Call (.Name "list" A) [.Attribute (.Name x p) f ap] [] t) (KF j get):=
 cJ (wZ P6 n g boot_list (fS (pK (gQ hN hv hd hcd) hb) hE s) (by decide) (by decide) s J) fun R H Q w=>by
  obtain⟨F,u,T,U,z,d,v,S,q,c⟩:=w;obtain⟨b,M,q⟩:=aF q;cases q;obtain⟨o,I,at0⟩:=i3 S.o.at_ M;obtain⟨N,fs,O,y,e,h,E,G,r,a⟩:=K at0
  refine⟨_,S.hd i j mm o I,o.1,C,N,fs,_,rfl,e,cl,nf,h,O,y,rfl,.inl (bY.of r),fun l m=>?_⟩
  exact c _ _ _ z (bH.ext S.S.fz (aI.frozen m)) (S.ext (aI.frozen m)) (aO.newLst m a)
theorem zS7{get:B->List (List Int)}{sp r n:Pos}(gl:Bc k C f get)(hc:X.calm=true)(t:X.A.units+66<Zf)(G:Gl X "sorted")(w:X.mg "sorted"=none)(I:Gl X "list")(z:X.mg "list"=none)
  (M:J2 [.Call (.Name "list" r) [.Attribute (.Name x p) f ap] [] n] X.env=(false,Zr (.Call (.Name "list" r) [.Attribute (.Name x p) f ap] [] n) X.env)::J2 [] X.env) (J:J2 [.Attribute (.Name x p) f ap] X.env=(false,Zr (.Attribute (.Name x p) f ap) X.env)::J2 [] X.env)
  (h3:(Zt pos (J2 [] X.env)).any (·.1)=false) (h4:(Zt n (J2 [] X.env)).any (·.1)=false):
  XE k τ (.Call (.Name "sorted" sp) [.Call (.Name "list" r) [.Attribute (.Name x p) f ap] [] n] [] pos) (KG j get):=
 cJ (CA (EJ t) G w boot_sorted (fS (wZ (P5 hc) I z boot_list (fS (pK (gQ hN hv hd hcd) hb) hE J) (by decide) (by decide) J h4) hE M) (by decide) (by decide) M h3) fun σ H Q U=>by
  obtain⟨F,O,ρ,Ω,Y,d,T,S,q,c⟩:=U;obtain⟨b,e1,q⟩:=aF q;obtain⟨d',e2,q⟩:=aF q;cases q;obtain⟨o,hj,at0⟩:=i3 S.o.at_ e1;obtain⟨dx,fs,a,l,ep,u,E,a0,a2,m,N⟩:=gl at0
  refine⟨_,S.hd i j mm o hj,o.1,C,dx,fs,_,rfl,u,cl,nf,E,a,_,ep,rfl,m.at_,by unfold cX;rw [Qo];exact m.ln,fun g h=>?_⟩
  have E1:aI F (fun y=>F y ∨ y=g) H (aJ H g (.lst ((cX l).map fun e=>V.ref e.2.1))):=aI.frozen h
  have W:Reps X.K (fun y=>F y ∨ y=g) (aJ H g (.lst ((cX l).map fun e=>V.ref e.2.1))) ((get b).map fun k=>jA (.inl k)) ((cX l).map fun e=>V.ref e.2.1):=by
   rw [<- N];have s:=fun p h=>(E1.stay (K:=X.K)).tp _ _ (m.ky p h);generalize aJ H g (.lst ((cX l).map fun e=>V.ref e.2.1))=HH at s ⊢;clear N m E1 h
   induction l with
   | nil=>exact .nil
   | cons q l Z=>exact .cons (Ii (k:=.inl q.1) (s q Qg)) (Z fun p h=>s p (Qf _ h))
  refine⟨fun y=>F y ∨ y=g,_,d,E1.fz S.S.fz,.cons (.lst (.inl ⟨.inr rfl,.inl cP⟩) W) .nil,e2,fun F2 H2 v R R2=>?_⟩
  exact c F2 H2 v Y (bH.ext S.S.fz (E1.trans R)) (S.ext (E1.trans R)) R2
end
end OB
namespace OB
open PySem.Spec L2 CL DL SD DC TB ST SL EL KP
section
variable {B:Type}
def kA(gi:GX B (List D))(i:Nat)(t:GX B Bool)(ge:aA->Option D)(inner:List (Option Nat)):GX B D:=fun a b=>(gi a b).bind fun x=>(pV i t ge x.1 (gP inner a) x.2).bind fun r=>if r.1.length<=1000/\r.2.length=x.2.length then some (.list r.1,r.2)else none
end
section
variable {X:Cx}{B:Type}{k:cF X.K B}{τ τ':List (Nat × Nat)}{c elt iter:Expr}{scope:Uf}{N':List Str}{inner:List (Option Nat)}{gi:GX B (List D)}{t:GX B Bool}{ge:aA->Option D}{n:Nat}{x:Str}{p pos:Pos}
theorem KH(a4:∀ ij,ij∈τ'->(∃ q,q∈τ/\inner[ij.1]?=some (some q.1)/\q.2=ij.2)/\ij.1≠n)(q:mR k τ (kA gi n t ge inner) σ H Q):sX (zJ k τ gi) (j5 n) (mS k τ' t) (tD X.K ge) inner σ H Q:=by
 obtain⟨F,a8,ρ,Ω,os,d,N,S,q,cc⟩:=q;obtain⟨⟨l,Ωa⟩,e1,q⟩:=aF q;obtain⟨⟨r,Ω1⟩,e2,q⟩:=aF q;have q:(if r.length<=1000/\Ω1.length=Ωa.length then some (ZO r,Ω1)else none)=some (d,N):=q;by_cases hl:r.length<=1000/\Ω1.length=Ωa.length
 ·rw [if_pos hl]at q;cases q
  refine⟨F,a8,ρ,Ω,os,l,Ωa,S,e1,fun G g J s K1 S1 I1 D' W=>?_⟩
  have key:sX (fun σ H R=>∀ J',kC X.K G g l J'->H=g->R J' g) (j5 n) (mS k τ' t) (tD X.K ge) inner σ g Q:=by
   intro J' I' _ D' W
   refine⟨fun i m I H'=>∃ Z w c B O M os2,LY X k τ' n t ge l r N s G g D' i m I H' Z w c B O M os2,?_,?_⟩
   ·have E2:aI G G g (aJ g D' (.lst [])):=aI.fresh W
    exact⟨l.length,G,gP inner ρ,[],[],r,Ωa,s,rfl,Q2 _,bH.ext S1.S.fz E2,(S1.ext E2).inner inner (fun ij h=>let⟨q,h1,h2,h3⟩:=(a4 ij h).1;⟨q.1,h2,by rw [<- h3];exact h1⟩) (fun a h=>E2.same.free h),nW inner ρ,cP,fun f=>S1.S.fz _ f W,fun f=>(S1.o.live f).1 W,.nil,e2,rfl⟩
   ·rintro i m I H' ⟨Z,w,c,B,O,M,os2,rfl,hi,K2,S2,pl,dD,nf,nt,rd,e,eo⟩;obtain⟨b3,b2⟩:=I' Z H' K2.k.st S2.S.fz i;by_cases v:i<l.length
    ·right
     have a5:l[i]?=some l[i]:=by simp [v]
     obtain⟨go,a9⟩:=b3 _ a5;rw [Yc v]at e;obtain⟨⟨b,A⟩,e4,e⟩:=aF e
     refine⟨go,fun x H3 y=>?_⟩
     obtain⟨F3,E3,R3⟩:=a9 x H3 y;have p:j0 (w.set n (.dat l[i])):=IT pl;have S3:=(S2.ext E3).put (i:=n) (fun ij h=>(a4 ij h).2) R3
     refine⟨F3,g,_,M,os2,b,A,S3,e4,fun F6 H6 os6 K6 S6=>?_⟩
     have d3:H3 D'=some (.lst c):=E3.same _ _ dD
     have b0:¬ F3 D':=fun f=>by
      rcases E3.new _ f with f | ⟨f,_⟩
      ·exact nf f
      ·rw [dD]at f;cases f
     have d6:H6 D'=some (.lst c):=K6.k.out _ _ d3 nt
     have a2:¬ F6 D':=fun f=>by
      rcases K6.k.new _ f with f | f
      ·exact b0 f
      ·rw [d3]at f;cases f
     have T:¬ fC os6 D':=fun f=>by
      rcases K6.ft _ f with f | f
      ·exact nt f
      ·rw [d3]at f;cases f
     have KK:bH X.K s os6 G F6 g H6:=K2.trans ((bH.ext S2.S.fz E3).trans K6);have a0:=(rd.stay E3.stay).stay K6.k.st
     cases b with
     | false=>
      simp only [Qm,if_false]at e ⊢
      exact⟨l.length-(i+1),by lia,F6,_,c,B,O,A,os6,rfl,v,KK,S6,p,d6,a2,T,a0,e,eo⟩
     | true=>
      simp only [if_true]at e ⊢;obtain⟨yd,e5,e⟩:=aF e;obtain⟨r',e6,e⟩:=aF e;cases e
      refine⟨F6,g,_,yd,S6.S,e5,fun Y E yv E7 R7=>?_⟩
      have d7:E D'=some (.lst c):=E7.same _ _ d6
      have U:¬ Y D':=fun f=>by
       rcases E7.new _ f with f | ⟨f,_⟩
       ·exact a2 f
       ·rw [d6]at f;cases f
      have S7:=S6.ext E7;have T8:bA X.K Y Y E (aJ E D' (.lst (c++[yv]))):=KZ d7 U;have K7:=KK.trans (bH.ext S6.S.fz E7)
      have a7:∀ a,Y a->aJ E D' (.lst (c++[yv])) a≠none:=fun a f=>by rw [aU (fun z=>U (by rw [<- z];exact f))];exact S7.S.fz a f
      have a3:∀ a,aJ E D' (.lst (c++[yv])) a=none->E a=none:=fun a h=>by
       by_cases z:a=D'
       ·subst z;rw [cP]at h;cases h
       ·rwa [aU z]at h
      have K8:bH X.K s os6 G Y g (aJ E D' (.lst (c++[yv]))):=⟨⟨K7.k.st.trans T8,fun a u h nn=>by rw [aU (fun z=>by rw [z,W]at h;cases h)];exact K7.k.out a u h nn,K7.k.new,a7,fun a h=>K7.k.lv a (a3 a h)⟩,K7.ft,K7.ad⟩
      have S8:SO k τ' Y (aJ E D' (.lst (c++[yv]))) g (I.set n (some x)) (w.set n (.dat l[i])) A os6:=
       ⟨S7.S.plain p T8 a7,S7.o.keep T8 (fun a u f h=>by rw [aU (fun z=>T (by rw [<- z];exact f))];exact h) (fun a f=>(S7.o.live f).2),fun a h=>(IS p h).elim,fun j b4 z=>p j _ rfl z,S7.hd,fun a h=>S7.lo a (a3 a h)⟩
      have ll:c.length<1000:=by
       have h1:=rd.length;have h2:=congrArg Vr eo;rw [Qj,Qt]at h2;lia
      exact⟨c,d7,uB (YJ ll),l.length-(i+1),by lia,Y,_,c++[yv],B++[yd],r'.1,A,os6,rfl,v,K8,S8,p,cP,U,T,((a0.stay E7.stay).append (.cons R7 .nil)).stay T8,e6,by rw [QD];exact eo⟩
    ·left
     have a6:l.length<=i:=YR v
     refine⟨b2 a6,?_⟩
     rw [YW a6]at e;cases e;rw [QP]at eo;subst eo;have K3:=K2;have T9:bA X.K Z (fun a=>Z a ∨ a=D') H' H':=⟨fun _ f=>.inl f,fun _ _ f=>f,fun _ _ _ f=>f,fun _ _ _ f=>f⟩;have K4:bH X.K s os2 G (fun a=>Z a ∨ a=D') g H':=⟨⟨K3.k.st.trans T9,K3.k.out,fun a f=>f.elim (K3.k.new a) fun z=>.inr (z ▸ W),fun a f=>f.elim (K3.k.fz a) fun z=>by rw [z,dD];simp,K3.k.lv⟩,K3.ft,K3.ad⟩;have O4:Os k (fun a=>Z a ∨ a=D') H' N os2:=S2.o.keep T9 (fun _ _ _ h=>h) fun a f z=>z.elim (S2.o.live f).2 fun z=>nt (z ▸ f);refine cc _ H' _ os2 (K1.trans K4) (S1.keeps K4 O4 ?_) (.lst (.inl ⟨.inr rfl,.inl dD⟩) (rd.stay T9));rw [<- qR S2.o.at_,<- qR S1.o.at_];exact hl.2
  exact key J I1 rfl D' W
 ·rw [if_neg hl]at q;cases q
theorem zS4(f:X.calm=true)(h:kX X N' scope inner)(a:∀ ij,ij∈τ'->(∃ q,q∈τ/\inner[ij.1]?=some (some q.1)/\q.2=ij.2)/\ij.1≠n)(d:XI k τ (.Name x p) iter gi)(e:∀ cl C fp s' H,PG (c7 X N' scope cl C fp s' H) (.Name x p) (j5 n))(b:∀ cl C fp s' H,XT (X:=c7 X N' scope cl C fp s' H) k τ' c t)(he:∀ cl C fp s' H,DE (c7 X N' scope cl C fp s' H) elt ge)
  (hs:∀ x,Zx iter X.env x=pure x:=by intro _;rfl):XE k τ (.ListComp elt [⟨.Name x p,iter,[c],0⟩] scope pos) (kA gi n t ge inner):=
 cJ (IM (g:=j5 n) (ti:=mS k τ' t) (te:=tD X.K ge) f h d e (fun cl C fp s' H=>BO (b cl C fp s' H)) (fun cl C fp s' H=>he cl C fp s' H) hs) fun i H Q q=>KH a q
theorem CH(J:X.N.Nodup)(h:∀ ij,ij∈τ->ij.1≠i)(I:X.calm=true)(U:kX X N' scope inner)(f:∀ ij,ij∈τ'->(∃ q,q∈τ/\inner[ij.1]?=some (some q.1)/\q.2=ij.2)/\ij.1≠n)(B:XI k τ (.Name x p) iter gi)(E:∀ cl C fp s' H,PG (c7 X N' scope cl C fp s' H) (.Name x p) (j5 n))(A:∀ cl C fp s' H,XT (X:=c7 X N' scope cl C fp s' H) k τ' c t)(he:∀ cl C fp s' H,DE (c7 X N' scope cl C fp s' H) elt ge)
  (j:ZC (.ListComp elt [⟨.Name x p,iter,[c],0⟩] scope pos) (some (.Name y py)) spos.line X.env=pure true:=by rfl) (w:X.N[i]?=some y:=by rfl) (z:L2.Loc X.env.scope y:=by first | exact Zi rfl | exact Zd rfl) (G:X.fn y=true ∨ X.env.scope.names.lookup y=some .local:=by first | exact .inl rfl | exact .inr rfl | assumption)
  (hs:∀ x,Zx iter X.env x=pure x:=by intro _;rfl):XS k τ (.Assign [.Name y py] (.ListComp elt [⟨.Name x p,iter,[c],0⟩] scope pos) spos) (dH i (kA gi n t ge inner)):=
 ps_mono (IX (g:=j5 n) (ti:=mS k τ' t) (te:=tD X.K ge) J I U B E (fun cl C fp s' H=>BO (A cl C fp s' H)) (fun cl C fp s' H=>he cl C fp s' H) j w z G hs) fun W Y H s=>by
  obtain⟨b,l,a,F,m,r,u,o,K0,S,q,O⟩:=s;obtain⟨d,M,q⟩:=aF q;cases q;exact KH f ⟨F,a,m,r,u,d.1,d.2,S,M,fun T R v e K' S' Q=>O T R _ e (K0.trans K') K'.k.st (S'.put h Q)⟩
end
abbrev W3:=D × List D × List (List Int)
def lM(a:YP)(b:V)(c:YP):List (Str × V):=[("known",.ref a),("floor",b),("path",.ref c)]
structure WA(K:PySem.W.Frag)(C:YP)(F:YP->Prop)(H:Hp)(p a c dx:YP)(vf:V)(vs:List V)(l:List (List Int × YP))(ep:Nat)(b:W3):Prop where
 hp:H p=some (.ins C dx (lM a vf c))
 rf:aO K F H b.1 vf
 hc:H c=some (.lst vs)
 rc:Reps K F H b.2.1 vs
 td:Td K H a l ep
 el:l.map (·.1)=b.2.2
 np:¬ F p
 na:¬ F a
 nc:¬ F c
def LX(K:PySem.W.Frag)(C:YP)(F:YP->Prop)(H:Hp)(p:YP)(b:W3)(φ:YP->Prop):Prop:=∃ a c dx vf vs l ep,WA K C F H p a c dx vf vs l ep b/\∀ x,φ x ↔ x=p ∨ x=a ∨ x=c
def wK(K:PySem.W.Frag)(C:YP):cF K W3 where
 cl:=fun _=>C
 fn:=fun _=>["known","floor","path"]
 At:=LX K C
 own:=fun⟨a,c,dx,vf,vs,l,ep,h,hφ⟩=>⟨(hφ _).mpr (.inl rfl),fun x b=>by
  rcases(hφ x).mp b with rfl | rfl | rfl
  ·exact⟨by rw [h.hp];simp,h.np⟩
  ·exact⟨by rw [h.td.at_];simp,h.na⟩
  ·exact⟨by rw [h.hc];simp,h.nc⟩⟩
 ins:=fun⟨a,c,dx,vf,vs,l,ep,h,hφ⟩=>⟨dx,_,h.hp,rfl⟩
 keep:=fun⟨a,c,dx,vf,vs,l,ep,h,hφ⟩ T s n=>⟨a,c,dx,vf,vs,l,ep,⟨s _ _ ((hφ _).mpr (.inl rfl)) h.hp,h.rf.stay T,s _ _ ((hφ _).mpr (.inr (.inr rfl))) h.hc,h.rc.stay T,h.td.stay T (s _ _ ((hφ _).mpr (.inr (.inl rfl))) h.td.at_),h.el,n _ ((hφ _).mpr (.inl rfl)),n _ ((hφ _).mpr (.inr (.inl rfl))),n _ ((hφ _).mpr (.inr (.inr rfl)))⟩,hφ⟩
section
variable {K:PySem.W.Frag}{C:YP}
theorem Aw(a:YP)(b:V)(c:YP):(lM a b c).lookup ("known":Str)=some (.ref a):=rfl
theorem Pi(a:YP)(vf:V)(c:YP):(lM a vf c).lookup ("floor":Str)=some vf:=by
 unfold lM;rw [QS,show(("floor":Str) == ("known":Str))=false from by decide,QS,show(("floor":Str) == ("floor":Str))=true from by decide]
theorem Ax(a:YP)(b:V)(c:YP):(lM a b c).lookup ("path":Str)=some (.ref c):=by
 unfold lM;rw [QS,show(("path":Str) == ("known":Str))=false from by decide,QS,show(("path":Str) == ("floor":Str))=false from by decide,QS,show(("path":Str) == ("path":Str))=true from by decide]
def BC:W3->Option D:=fun b=>some b.1
def BD:W3->Option D:=fun b=>some (.list b.2.1)
def wW:W3->Option D:=fun b=>some (.dict (b.2.2.map fun k=>(jA (.inl k),.bool true)))
def D4(b:W3)(d:D):W3:=(b.1,b.2.1++[d],b.2.2)
def Ed(b:W3)(a:List (List Int)):W3:=(b.1,b.2.1,a)
theorem Ee:EW (wK K C) C "floor" BC:=fun b q=>by
 obtain⟨a,c,f,d,g,l,i,h,e⟩:=b;cases q
 exact⟨f,_,d,h.hp,Pi _ _ _,h.rf⟩
theorem Pn:yX (wK K C) C "path" BD:=fun{F H p b φ d} zz q=>by
 obtain⟨a,c,g,j,i,l,k,h,e⟩:=zz;cases q
 exact⟨g,_,_,h.hp,Ax _ _ _,.lst (.inl ⟨.inr ((e _).mpr (.inr (.inr rfl))),.inl h.hc⟩) (h.rc.stay ⟨fun _ f=>.inl f,fun _ _ z=>z,fun _ _ _ z=>z,fun _ _ _ z=>z⟩)⟩
theorem Lh:∀{l:List (List Int × YP)},(∀ p∈l,bJ K H p.2 (p.1.map V.int))->DReps K F H ((l.map (·.1)).map fun k=>(jA (.inl k),.bool true)) (cX l)
 | [],_=>.nil
 | q::l,h=>.cons (k:=.inl q.1) (h q Qg) (.bl true) (Lh fun p a=>h p (Qf _ a))
theorem Pm:yX (wK K C) C "known" wW:=fun{F H p b φ d} zz q=>by
 obtain⟨a,c,f,i,g,l,j,h,e⟩:=zz;cases q
 refine⟨f,_,_,h.hp,Aw _ _ _,.dct (.inr ((e _).mpr (.inr (.inl rfl)))) h.td.at_ ?_ (by unfold cX;rw [Qo];exact h.td.ln) (by rw [<- h.el];exact Lh h.td.ky)⟩
 unfold cX;rw [Yj]
 have:=Hn h.td.nd
 rw [Yj]at this;exact this
theorem KA:Be (wK K C) C "path" (fun b=>b.2.1):=fun⟨a,c,dx,vf,vs,l,ep,h,hφ⟩=>⟨dx,_,c,vs,h.hp,Ax _ _ _,(hφ _).mpr (.inr (.inr rfl)),h.nc,h.hc,h.rc⟩
theorem Kv:Bc (wK K C) C "known" (fun b=>b.2.2):=fun⟨a,c,dx,vf,vs,l,ep,h,hφ⟩=>⟨dx,_,a,l,ep,h.hp,Aw _ _ _,(hφ _).mpr (.inr (.inl rfl)),h.na,h.td,h.el⟩
theorem Ph:EV (wK K C) C "path" D4:=fun{F H p b φ d v dx fs c vs} zz z R hp hlk hc=>by
 obtain⟨a,n,m,g,f,l,k,h,e⟩:=zz;rw [h.hp]at hp;cases hp;rw [Ax]at hlk;cases hlk;rw [h.hc]at hc;cases hc;have T:bA K F F H (aJ H c (.lst (vs++[v]))):=(nI (φ:=fun _=>True) z h.hc yP.1 yP.2 h.nc trivial).st;have j:p≠c:=qK h.hp h.hc (by intro w;cases w);have i:a≠c:=qK h.td.at_ h.hc (by intro w;cases w)
 exact⟨a,c,dx,g,vs++[v],l,k,⟨by rw [aU j];exact h.hp,h.rf.stay T,cP,(h.rc.append (.cons R .nil)).stay T,h.td.stay T (by rw [aU i];exact h.td.at_),h.el,h.np,h.na,h.nc⟩,e⟩
theorem Po:Fu (wK K C) C "known" Ed:=fun{F H p b φ dx fs a l l' ep ep'} zz z hp hlk td ky nd ln=>by
 obtain⟨o,e,m,f,c,n,k,h,d⟩:=zz;rw [h.hp]at hp;cases hp;rw [Aw]at hlk;cases hlk;have T:bA K F F H (aJ H a (bI a (cX l') ep')):=(nI (φ:=fun _=>True) z h.td.at_ yO.1 yO.2 h.na trivial).st;have i:p≠a:=qK h.hp h.td.at_ (by intro w;cases w);have g:e≠a:=qK h.hc h.td.at_ (by intro w;cases w)
 exact⟨a,e,dx,f,c,l',ep',⟨by rw [aU i];exact h.hp,h.rf.stay T,by rw [aU g];exact h.hc,h.rc.stay T,⟨cP,fun q j=>T.tp _ _ (ky q j),nd,ln⟩,rfl,h.np,h.na,h.nc⟩,d⟩
end
end OB
namespace MN
open PySem.Spec PySem.SeqAt L2 DL SD
section
variable {prog:J5}{w:J6}{A:Around}{E:JZ->J0->Prop}{s:J0}
theorem MF(J:A.units+64<Zf)(d:Vg s.heap p x as)(c:Vg s.heap q y bs)(l:iK x y=true)(g:kR x=some a)(f:kR y=some b)
  (k:Q (.bool (HT.lexLt a b)) s) (n:a≠b):J3 (J4 prog w) A (U0 .Lt p q) Q E s:=by
 cases x with
 | int i=>cases y with
  | int j=>
   cases g;cases f;cases d;cases c
   have e:HT.lexLt [i] [j]=decide (i<j):=by
    rw [HT.lexLt_cons,if_neg (by intro z;exact n (by rw [z]))]
   rw [e]at k;exact HT.rcLt_int A s i _ j _ prog w E _ k
  | _=>cases l
 | tuple m=>cases y with
  | tuple h=>
   have I:dR m=some a:=g;have H:dR h=some b:=f
   cases d with
   | tuple u t r o=>cases c with
    | tuple G F B v=>exact HT.lt_tupInts ⟨_,u,t,_,r⟩ ⟨_,G,F,_,B⟩ (tK I o) (tK H v) (by lia) k
  | _=>cases l
 | _=>cases y <;> cases l
theorem XJ(Y:A.units+64<Zf)(rl:Vg s.heap (.ref l) (.tuple xs) as)(rb:Vg s.heap (.ref b) (.tuple ys) bs)(X:fH xs ys=true)(f1:fG xs=some a)(f2:fG ys=some c)
  (h:R (.done (.ret (.bool (HT.lexLt a c)))) s):J3 (J4 prog w) A (Builtin.«tuple.__lt__» ⟨[.ref l,.ref b],[]⟩) R E s:=by
 cases rl with
 | @tuple _ o1 vs1 n1 _ _ h1 h2 h3 h4=>
 cases rb with
 | @tuple _ o2 vs2 n2 _ _ g1 g2 g3 g4=>
 show J3 _ _ (isInstance (.ref b) (.type "tuple") >>= _) _ _ s
 refine Qa (Jc (T:="tuple") ⟨o2,g1,g2⟩ isSubtype_tuple_tuple ?_);simp only [Ys,Qm,if_false];refine Qa (wpAny_tupleItemsOf h1 h3 ?_);refine Qa (wpAny_tupleItemsOf g1 g3 ?_);refine Qa ?_
 refine YY _
  (fun g r G=>r.1=none/\G=s/\∃(F B:List JZ) (f e:List D) (M K:List Int) (p o:List YP),g=Z9 F B/\Vx s.heap F f p/\Vx s.heap B e o/\fH f e=true/\fG f=some M/\fG e=some K/\HT.lexLt M K=HT.lexLt a c/\vs1.size=vs2.size)
  _ ?_ ?_ _ _ ⟨rfl,rfl,_,_,xs,ys,a,c,_,_,rfl,h4,g4,X,f1,f2,rfl,?_⟩
 ·rintro⟨u,v⟩ g r G ⟨O,rfl,F,B,f,e,M,K,p,o,q,W,U,J,n,m,d,i⟩
  cases W with
  | nil=>simp at q
  | @cons u0 us0 x xs0 as0 bs0 p1 p2=>
   cases U with
   | nil=>simp at q
   | @cons v0 vs0 y ys0 as1 bs1 I H=>
    simp only [Jx,List.cons.injEq,Prod.mk.injEq]at q;obtain⟨⟨rfl,rfl⟩,rfl⟩:=q;obtain⟨a1,k,n⟩:=aF n;obtain⟨Z,S,n⟩:=aF n;cases n;obtain⟨c1,j,m⟩:=aF m;obtain⟨c2,Q,m⟩:=aF m;cases m;obtain⟨N,l2⟩:=QM.mp J;have t:=AY N k j;rw [yC _ _ _ _ t]at d;refine Qa (Gy Y p1 I N k j prog w _ _ ?_);by_cases z:a1=c1
    ·rw [decide_eq_true z];rw [if_pos z]at d;simp only [Ys,Qm,if_false];exact Qb ⟨rfl,rfl,_,_,_,_,_,_,_,_,rfl,p2,H,l2,S,Q,d,i⟩
    ·rw [decide_eq_false z];rw [if_neg z]at d;simp only [UF,if_true];rw [<- d]at h;exact Qa (Jg (Qa (MF Y p1 I N k j (Qa (Qb (Qb (Qb h)))) z)))
 ·rintro⟨W,U⟩ G ⟨O,rfl,F,B,f,e,M,K,p,o,q,I,H,J,n,m,d,i⟩
  simp only at O
  subst O;refine Qb ?_
  cases I with
  | nil=>
   cases H with
   | nil=>
    cases n;cases m
    show R (.done (.ret (.bool (decide (vs1.size<vs2.size))))) G
    rw [i,decide_eq_false (Y0 _),<- HT.lexLt_nil_nil,d];exact h
   | cons _ _=>cases J
  | cons _ _=>
   cases H with
   | nil=>cases J
   | cons _ _=>simp at q
 ·have a1:=Vd _ _ _ h4;have Z:=Vd _ _ _ g4
  have ll:∀{xs ys:List D},fH xs ys=true->xs.length=ys.length:=by
   intro xs
   induction xs with
   | nil=>intro ys h;cases ys with
    | nil=>rfl
    | cons _ _=>cases h
   | cons x xs ih=>intro ys h;cases ys with
    | nil=>cases h
    | cons y ys=>rw [Qt,Qt,ih (QM.mp h).2]
  rw [<- Qh,<- Qh,a1,Z,ll X]
theorem Tc(p:A.units+65<Zf)(i:Vg s.heap (.ref l) (.tuple xs) as)(j:Vg s.heap (.ref b) (.tuple ys) bs)(m:fH xs ys=true)(o:fG xs=some a)(n:fG ys=some c)
  (h:Q (.bool (HT.lexLt a c)) s):J3 (J4 prog w) A (U0 .Lt (.ref l) (.ref b)) Q E s:=by
 have g:s.TypeIs (.ref l) "tuple":=by cases i with | tuple f d _ _=>exact⟨_,f,d⟩
 have k:s.TypeIs (.ref b) "tuple":=by cases j with | tuple f d _ _=>exact⟨_,f,d⟩
 exact wpAny_richCompare_same_room (op:=.Lt) g k PySem.F.slot_tuple_lt (Yq PySem.F.slot_tuple_lt g PySem.F.entry_tuple_lt (XJ (by first | (show A.units+64<Zf;lia) | (show A.units+1+64<Zf;lia)) i j m o n ⟨_,rfl,(fun e=>nomatch e),h⟩) (PySem.F.args_tuple_lt_2 _ _)) (by lia)
end
end MN
namespace MN
open PySem.Spec PySem.SeqAt L2 DL SD
section
variable {prog:J5}{w:J6}{A:Around}{R:Result->J0->Prop}{I S:YP}{fp wr:List YP}{n:Nat}{P:Nat->JZ->Prop}{St:Nat->Heap->Prop}
abbrev mN(b:Heap)(h:Heap):Prop:=∀ a o,b.get? a=some o->h.get? a=some o
def jG(v:JZ)(c:Nat):Obj:={ cls:=.type "list",dict:=none,data:=.seq #[v,v] c,slots:=#[] }
theorem yM:(toString "min"++toString ".loop":String)="min.loop":=by decide
theorem WK(W:Walks prog w A.in1 I fp wr n P St)(base:Heap)(U:∀ a o,base.get? a=some o->a≠S/\a∉wr)(bt:Nat->Nat->Bool)
  (Y:∀ i j x y (s:J0) (Q:JZ->J0->Prop) (E:JZ->J0->Prop),mN base s.heap->P i x->P j y->Q (.bool (bt i j)) s->J3 (J4 prog w) A.in1 (U0 .Lt x y) Q E s) (N:S∉fp):
  ∀(m j:Nat) (s:J0) (x:JZ) (c:Nat),n-(j+1)=m->j+1<=n->St (j+1) s.heap->P (UM bt j) x->mN base s.heap->s.heap.get? S=some (jG x c)->
  (∀ v h tk,P (UM bt (n-1)) v->(∀ a o,a∉wr->a≠S->s.heap.get? a=some o->h.get? a=some o)->R (.ok (.ret v)) { s with heap:=h,toks:=tk })->Ud (J4 prog w) A (.builtin "min.loop" ⟨[.ref I,.none,.ref S],[]⟩) R s:=by
 have M:S∉wr:=fun h=>N (W.sub _ h);intro m
 induction m with
 | zero=>
  intro j s x c e1 Z G t O r fin
  have X:j+1=n:=by lia
  refine YM PySem.F.entry_min_loop ?_;rw [YB PySem.F.plain_min_loop _];refine Qa (m:=seqItems? (.ref S)) (JL r rfl ?_)
  show J3 _ A.in1 (tryCatch (Uh (.ref I)) _ >>= _) _ _ s
  refine Qa (UL (W.done s _ _ (X ▸ G) fun h tk l=>?_));have d:=l S _ M r;refine Qa (m:=updateSeq S (fun _=>#[])) (Ve d rfl (Qa (wpAny_letGo (Qb ?_))));exact fin x _ tk (by rw [<- X];exact t) fun a o k e q=>(Jy _ _ (Z4 e)).trans (l a o k q)
 | succ m T=>
  intro j s x c e1 Z G t O r fin
  have lt:j+1<n:=by lia
  refine YM PySem.F.entry_min_loop ?_;rw [YB PySem.F.plain_min_loop _];refine Qa (m:=seqItems? (.ref S)) (JL r rfl ?_)
  show J3 _ A.in1 (tryCatch (Uh (.ref I)) _ >>= _) _ _ s
  refine Qa (UL (W.item (j+1) s _ _ lt G fun v h tk pv p l=>?_));have d:=l S _ M r;have g:mN base h:=fun a o q=>l a o (U a o q).2 (O a o q)
  show J3 _ A.in1 (tryCatch (UB [v,v] (U0 .Lt v x >>= _)) _ >>= _) _ _ _
  refine Qa (UL (Yb (Qa (Y (j+1) (UM bt j) v x _ _ _ g pv t ?_))));refine Qa (Yb (YH (Qa (wpAny_letGo (Qb ?_)))))
  cases b:bt (j+1) (UM bt j)with
  | true=>
   simp only [if_true];refine Qa (Ve d rfl (Qa (wpAny_letGo ?_)));rw [yM];have B:∀ a o,a≠S->h.get? a=some o->(h.update S (Z5 fun _=>#[v,v])).get? a=some o:=fun a o e q=>(Jy _ _ (Z4 e)).trans q;refine Qb ⟨Ja PySem.F.plain_min_loop _,T (j+1) _ v _ (by lia) lt (W.frame _ _ _ p fun a af o q=>?_) (by simp only [UM,b,if_true];exact pv) (fun a o q=>B a o (U a o q).1 (g a o q)) (Ye _ d rfl) fun u K f H J=>?_⟩
   ·exact B a o (fun z=>N (by rw [<- z];exact af)) q
   ·exact fin u K f H fun a o k e q=>J a o k e (B a o e (l a o k q))
  | false=>
   simp only [Qm,if_false];refine Qa (wpAny_letGo ?_);rw [yM];refine Qb ⟨Ja PySem.F.plain_min_loop _,T (j+1) _ x c (by lia) lt p (by simp only [UM,b,Qm,if_false];exact t) g d fun u K f H J=>?_⟩;exact fin u K f H fun a o k e q=>J a o k e (l a o k q)
end
section
variable {prog:J5}{w:J6}{A:Around}{E:JZ->J0->Prop}{s:J0}
theorem Tl(R:A.handled=none)(r:s.heap.IsList l items)(G:0<items.size)
  (U:∀ i j x y (s':J0) (Q:JZ->J0->Prop) (E:JZ->J0->Prop),mN s.heap s'.heap->items[i]?=some x->items[j]?=some y->Q (.bool (bt i j)) s'->J3 (J4 prog w) A.in1 (U0 .Lt x y) Q E s')
  (h:∀ v h' tk,items[UM bt (items.size-1)]?=some v->mN s.heap h'->Q v { s with heap:=h',toks:=tk }):J3 (J4 prog w) A (call (.builtin "min") [.ref l]) Q E s:=by
 obtain⟨Z,p,T,nl,S⟩:=id r;have n:l<s.heap.objs.size:=Qu p;refine PySem.call_function_tree PySem.F.kind_min PySem.F.plain_min PySem.F.entry_min (PySem.F.args_min1 _) ?_;refine Qa (m:=Builtin.Builtins.bindParams "min" ["key","default"] 0 ⟨[],[]⟩) (U2 (show Builtin.Builtins.bindParams "min" ["key","default"] 0 ⟨[],[]⟩=pure [none,none]from rfl) (Qa (Qb ?_)));refine Qa (Jn r ?_);refine Qa (Yv ?_);rw [yM];have t:s.heap.objs.size≠s.heap.objs.size+1:=QG (Jb _);have M:mN s.heap ((s.heap.push { cls:=.type "list_iterator",data:=.fields #[.ref l,.int 0 0] }).push { cls:=.type "list",data:=.seq #[] }):=fun a o q=>Qe _ (Qe _ q)
 have b:∀ a o,s.heap.get? a=some o->a≠s.heap.objs.size+1/\a∉[s.heap.objs.size]:=fun a o q=>by
  have:=Qu q
  exact⟨QG (JH this),fun z=>by rw [Qp.mp z]at this;exact Y0 _ this⟩
 have W:=Walks.list (prog:=prog) (w:=w) (A:=A.in1) (by simp [R]) s.heap.objs.size l (QG n) items
 have u:s.heap.objs.size+1∉[s.heap.objs.size,l]:=fun z=>by
  rcases Qq.mp z with z | z
  ·exact t z.symm
  ·rw [Qp]at z;rw [<- z]at n;exact absurd n (Nat.not_lt.mpr (Nat.le_succ _))
 have H:(s.heap.push { cls:=.type "list_iterator",data:=.fields #[.ref l,.int 0 0] }).objs.size=s.heap.objs.size+1:=YT ..;refine Qb ⟨Ja PySem.F.plain_min_loop _,?_⟩;rw [H];refine YM PySem.F.entry_min_loop ?_;rw [YB PySem.F.plain_min_loop _]
 have e:((s.heap.push { cls:=.type "list_iterator",data:=.fields #[.ref l,.int 0 0] }).push { cls:=.type "list",data:=.seq #[] }).get? (s.heap.objs.size+1)=some { cls:=.type "list",data:=.seq #[] }:=by rw [<- H];exact Qz _ rfl
 refine Qa (m:=seqItems? (.ref (s.heap.objs.size+1))) (JL e rfl ?_)
 show J3 _ A.in1 (tryCatch (Uh (.ref s.heap.objs.size)) _ >>= _) _ _ _
 refine Qa (UL (W.item 0 _ _ _ G ⟨⟨_,Qe _ (Qz _ rfl),rfl,rfl⟩,(r.push _).push _⟩ fun v h1 tk pv k B=>?_));have J:s.heap.objs.size+1∉[s.heap.objs.size]:=fun z=>t (Qp.mp z).symm;have d:=B _ _ J e;have c:mN s.heap h1:=fun a o q=>B a o (b a o q).2 (M a o q);refine Qa (m:=updateSeq (s.heap.objs.size+1) (fun _=>#[v,v])) (Ve d rfl ?_);rw [yM];have f:∀ a o,a≠s.heap.objs.size+1->h1.get? a=some o->(h1.update (s.heap.objs.size+1) (Z5 fun _=>#[v,v])).get? a=some o:=fun a o N q=>(Jy _ _ (Z4 N)).trans q;refine Qb ⟨Ja PySem.F.plain_min_loop _,WK W s.heap b bt U u _ 0 _ v _ rfl G (W.frame _ _ _ k fun a Y o q=>f a o (fun z=>u (by rw [<- z];exact Y)) q) pv (fun a o q=>f a o (b a o q).1 (c a o q)) (Ye _ d rfl) fun I X g K O=>?_⟩;exact h I X g K fun a o q=>O a o (b a o q).2 (b a o q).1 (f a o (b a o q).1 (c a o q))
end
end MN
namespace MN
open PySem.Spec PySem.SeqAt L2 DL SD
def jI:KD->List KD->KD
 | b,[]=>b
 | b,p::r=>jI (if HT.lexLt p.1 b.1=true then p else b) r
theorem Ez:∀(l:List KD) (b p:KD),jI b (l++[p])=if HT.lexLt p.1 (jI b l).1=true then p else jI b l
 | [],_,_=>rfl
 | _::l,_,p=>Ez l _ p
def sD:List D->Option D
 | [.list (.tuple d0::ds)]=>(eO d0 (.tuple d0::ds)).bind fun l=>match l with
  | b::r=>some (jI b r).2
  | []=>none
 | _=>none
theorem Ev(f:∀ i j,bt i j=HT.lexLt ((b::r).getD i b).1 ((b::r).getD j b).1):∀ m,m<=r.length->(b::r)[UM bt m]?=some (jI b (r.take m))/\UM bt m<=m
 | 0,_=>⟨rfl,Qk _⟩
 | m+1,h=>by
  obtain⟨d,le⟩:=Ev f m (by lia);have a:r[m]?=some r[m]:=Qi (by lia)
  have g:r.take (m+1)=r.take m++[r[m]]:=by rw [List.take_succ,a];rfl
  have e:bt (m+1) (UM bt m)=HT.lexLt r[m].1 (jI b (r.take m)).1:=by
   rw [f,QY,QY,d,List.getElem?_cons_succ,a];rfl
  unfold UM;rw [g,Ez,e];by_cases c:HT.lexLt r[m].1 (jI b (r.take m)).1=true
  ·rw [if_pos c,if_pos c]
   exact⟨by rw [List.getElem?_cons_succ,a],Qk _⟩
  ·rw [if_neg c,if_neg c]
   exact⟨d,Nat.le_succ_of_le le⟩
theorem BQ:∀{us:List JZ}{ds:List D}{as:List YP}{i:Nat}{u:JZ}{d:D},Vx h us ds as->us[i]?=some u->ds[i]?=some d->∃ bs,Vg h u d bs
 | _,_,_,0,_,_,.cons r _,e1,e2=>by cases e1;cases e2;exact⟨_,r⟩
 | _,_,_,i+1,_,_,.cons _ t,e1,e2=>BQ (i:=i) t (by simpa using e1) (by simpa using e2)
theorem Ih{K:PySem.W.Frag}{F:YP->Prop}{H:Hp}:∀{ds:List D}{vs:List V}{us:List JZ}{i:Nat}{d:D}{u:JZ},Reps K F H ds vs->Vals vs us->ds[i]?=some d->us[i]?=some u->∃ v,aO K F H d v/\RelV v u
 | _,_,_,0,_,_,.cons r _,.cons q _,e1,e2=>by cases e1;cases e2;exact⟨_,r,q⟩
 | _,_,_,i+1,_,_,.cons _ r,.cons _ q,e1,e2=>Ih (i:=i) r q (by simpa using e1) (by simpa using e2)
theorem Iq:∀{ds:List D}{l:List KD},eO d0 ds=some l->Zg ds=true/\ds.length=l.length
 | [],_,h=>by cases h;exact⟨rfl,rfl⟩
 | d::ds,_,h=>by
  obtain⟨k,g,h⟩:=aF h;obtain⟨r,e,h⟩:=aF h;cases h;obtain⟨c,b⟩:=Iq e;obtain⟨x,a,rfl,_,f⟩:=j9 g
  exact⟨by rw [Zg,show ZP (.tuple (x::a))=Zg (x::a)from rfl,x4 f,c];rfl,by rw [Qt,Qt,b]⟩
theorem Py{X:Cx}(hc:X.calm=true)(hu:X.A.units+66<Zf):dW X (.builtin "min") (jE X.K sD):=fun S s σ H xs us Q I rv zz=>by
 obtain⟨F,ds,q,z,R,f,k⟩:=zz;unfold sD at f
 split at f
 ·rename_i d0 dr;obtain⟨l,Z,f⟩:=aF f
  cases l with
  | nil=>cases f
  | cons b r=>
   cases f
   cases R with
   | cons R1 R2=>
   cases R2
   cases R1 with
   | @lst a vs _ h1 r1=>
   obtain⟨u,rfl,ru⟩:=iN rv;cases ru;obtain⟨c,e,pl,_⟩:=I.list h1.sq;obtain⟨cl,ll⟩:=Iq Z;obtain⟨B,w⟩:=xI Z;obtain⟨as,rd⟩:=Reps.reads I r1 cl e
   have d:c.length=(b::r).length:=by rw [<- e.length,<- r1.length,ll]
   have J:∀ i,i<c.length->(.tuple d0::dr)[i]?=some ((b::r).getD i b).2:=fun i hi=>by
    rw [<- B,QN,QY,Qi (by lia)];rfl
   have key:∀ i,i<c.length->jT d0 ((b::r).getD i b).2=some ((b::r).getD i b).1:=fun i hi=>by
    refine w _ ?_;rw [QY,Qi (by lia)];exact Yy _
   refine Tl (bt:=fun i j=>HT.lexLt ((b::r).getD i b).1 ((b::r).getD j b).1) (I.ok.hd hc) pl.isList (by rw [QJ,d];exact Vh _) (fun i j x y s' Q' E' p hx hy hQ=>?_) fun v h' tk U p=>?_
   ·have h:c[i]?=some x:=by simpa using hx
    have g:c[j]?=some y:=by simpa using hy
    have t:=(Qc.mp h).1;have T:=(Qc.mp g).1;obtain⟨a7,o⟩:=BQ rd h (J i t);obtain⟨a6,n⟩:=BQ rd g (J j T);obtain⟨x1,a5,N,G,f1⟩:=j9 (key i t);obtain⟨x2,a0,M,E,f2⟩:=j9 (key j T);rw [N]at o;rw [M]at n;have o:=Reads.keeps p o;have n:=Reads.keeps p n
    cases o with
    | tuple a1 a2 a3 a4=>
    cases n with
    | tuple b1 b2 b3 b4=>
    exact Tc (by show X.A.units+1+65<Zf;lia) (.tuple a1 a2 a3 a4) (.tuple b1 b2 b3 b4) (tP G E) f1 f2 hQ
   ·have hn:c.toArray.size-1=r.length:=by rw [QJ,d];rfl
    rw [hn]at U;obtain⟨Y,g2⟩:=Ev (b:=b) (r:=r) (bt:=fun i j=>HT.lexLt ((b::r).getD i b).1 ((b::r).getD j b).1) (fun _ _=>rfl) r.length (Qk _);rw [JN]at Y
    have m:c[UM (fun i j=>HT.lexLt ((b::r).getD i b).1 ((b::r).getD j b).1) r.length]?=some v:=by simpa using U
    have t:=(Qc.mp m).1;have W:=J _ t;rw [QY,Y]at W;obtain⟨O,w1,w2⟩:=Ih r1 e W m
    exact⟨O,H,I.kept p,w2,k F H O (aI.refl F H) w1⟩
 ·cases f
end MN
namespace My
open PySem.Spec PySem.SeqAt L2 CL DL OB SD ZL SL EL DC EX TX TB TX
def top(i:Nat):Zv:=PySem.Challenge.pw_lampfloor_k75_whole_tours.main.body.getD i (.Pass ⟨0,0,0,0⟩)
structure Fo(K:PySem.W.Frag)(mg:Str->Option JZ)(n:Str)(st:Zv)(ps:List Str)(a:YP)(d:Zh):Prop where
 F:gB K n n st a d
 m:mg n=some (.ref a)
 b:L2.Binds K d ps []
theorem cN(h:(sc.kind,sc.isCoroutine,sc.isGenerator,N.take P.length)=(.function,false,false,P))(q:N.Nodup/\(∀ x∈P,sc.names.lookup x=some .local ∨ sc.names.lookup x=some .cell)/\∀ y∈sc.names,y.2≠.free):bU N P sc:=by
 injection h with h1 h
 injection h with h2 h
 injection h with h3 h4
 exact⟨h1,h2,h3,q.1,h4,q.2.1,q.2.2⟩
theorem aH(b:DE X e ga)(a:DA X es gr)(h:CG e=true):DA X (e::es) (aD ga gr):=SN b a h
theorem eK{x1 pos}(h:DA X es gr):DE X (.Tuple es x1 pos) (bV gr):=SX h
theorem bZ{X:Cx}{e:Expr}{es:List Expr}{gr:aA->Option (List D)}{p a:Pos}{k m n:Nat}{f:YP}{i:Zh}{h:List Str}{j:Zv}{x:Str}{G:List D->Option D}(F:Fo X.K X.mg x j h f i)(r:aK X.prog X.w X.K X.mg X.base aM k f i h (aW X.K n G))(l:cA m X.A)(o:Gl X x)
  (q:DA X (e::es) gr) (c:∀ ρ ds,gr ρ=some ds->ds.length=n) (d:k<=m:=by decide) (g:(x == ("__debug__":Str))=false:=by decide) (he:J2 (e::es) X.env=(false,Zr e X.env)::J2 es X.env:=by rfl) (hpl:(Zt a (J2 es X.env)).any (·.1)=false:=by rfl):DE X (.Call (.Name x p) (e::es) [] a) (aY G gr):=SQ r (l.mono d) o F.m F.F.kp F.b q c g he hpl
theorem Nh:∀(ρ:aA) (ds:List D),aG ρ=some ds->ds.length=0:=fun _ _ h=>R5 h
section
variable {a b c d e f:aA->Option D}
theorem fO:∀(ρ:aA) (ds:List D),aD a aG ρ=some ds->ds.length=1:=vY Nh
theorem ln2:∀(ρ:aA) (ds:List D),aD a (aD b aG) ρ=some ds->ds.length=2:=vY fO
theorem kK:∀(ρ:aA) (ds:List D),aD a (aD b (aD c aG)) ρ=some ds->ds.length=3:=vY ln2
end
abbrev Ah:Zv:=top 7
abbrev vG:Zv:=top 13
abbrev rT:Zv:=top 15
abbrev Aj:Zv:=top 17
abbrev Ab:Zv:=top 18
abbrev Ao:Zv:=top 24
abbrev Af:Zv:=top 35
abbrev vB:Zv:=top 38
abbrev zZ:Zv:=top 8
abbrev Ac:Zv:=top 14
abbrev Ai:Zv:=top 20
abbrev vD:Zv:=top 25
abbrev vE:Zv:=top 26
abbrev Ad:Zv:=top 36
abbrev vH:Zv:=top 39
abbrev Am:Zv:=top 9
abbrev Ae:Zv:=top 28
abbrev vC:Zv:=top 37
abbrev vA:Zv:=top 41
abbrev zY:Zv:=top 10
abbrev u9:Zv:=top 31
abbrev Ag:Zv:=top 11
abbrev rS:Zv:=top 32
abbrev Aa:Zv:=top 12
abbrev Ak:Zv:=top 27
abbrev An:Zv:=top 33
abbrev vF:Zv:=top 21
abbrev m9:Zv:=top 42
def hJ:List (Str × D):=[("n",.tuple [.int 0,.int (-1)]),("e",.tuple [.int 1,.int 0]),("s",.tuple [.int 0,.int 1]),("w",.tuple [.int (-1),.int 0])]
def C5:List Str:=["thing"]
theorem OC:bU C5 ["thing"] (aS Ah):=cN rfl (by decide +kernel)
def Gg:aA->Option aV:=
  (cH (j4 (q9 "int" (eV 0)) (AM (q9 "bool" (eV 0)))))
def o9:List D->Option D:=cM 1 Gg
def zD:List Str:=["floor","cells","x"]
theorem BY:bU zD ["floor"] (aS vG):=cN rfl (by decide +kernel)
def Fj:List Str:=["y","x"]
theorem WX:Fj.Nodup:=by decide +kernel
def A6:aA->Option aV:=
  (bC (lK 1 aG)
  (bC (gX (jK (aD (aE aR (eV 0) (eC (.int 0))) aG)) (bG 2) (oX 1 (c4 (c5 (jK (aD (aE aR (eV 0) (eC (.int 1))) aG)) (bG 0) eT (bV (aD (eV 1) (aD (eV 0) aG))) [none,some 2]))))
  (cH (eV 1))))
def n9:List D->Option D:=cM 3 A6
def uL:List Str:=["things"]
theorem Iy:bU uL ["things"] (aS rT):=cN rfl (by decide +kernel)
def Bf:List Str:=["thing"]
theorem Hf:Bf.Nodup:=by decide +kernel
def Gi:aA->Option aV:=
  (cH (aY Bp (aD (c4 (c5 (cV (eV 0)) (bG 0) eT (bV (aD (eV 0) (aD (eC (.bool true)) aG))) [none])) aG)))
def iE:List D->Option D:=cM 1 Gi
def C7:List Str:=["one","other","far_x","far_y","way_x","way_y","gone_x","gone_y","cells","border_x","border_y"]
theorem i5:bU C7 ["one","other"] (aS Aj):=cN rfl (by decide +kernel)
def A8:aA->Option aV:=
  (bC (cE 2 (aY qY (aD (aE iR (aE aR (eV 1) (eC (.int 0))) (aE aR (eV 0) (eC (.int 0)))) aG)))
  (bC (cE 3 (aY qY (aD (aE iR (aE aR (eV 1) (eC (.int 1))) (aE aR (eV 0) (eC (.int 1)))) aG)))
  (bC (cE 4 (uU (eB (aE uT (aE aR (eV 1) (eC (.int 0))) (aE aR (eV 0) (eC (.int 0))))) (eC (.int 1)) (lE kF (eC (.int 1)))))
  (bC (cE 5 (uU (eB (aE uT (aE aR (eV 1) (eC (.int 1))) (aE aR (eV 0) (eC (.int 1))))) (eC (.int 1)) (lE kF (eC (.int 1)))))
  (bC (cE 6 (eC (.int 0)))
  (bC (cE 7 (eC (.int 0)))
  (bC (lK 8 (aD (eV 0) aG))
  (bC (i6 (mX (eB (aE gW (eV 6) (eV 2))) (eB (aE gW (eV 7) (eV 3)))) (bC (cE 9 (aE cZ (aE bX (aE cZ (eC (.int 2)) (eV 6)) (eC (.int 1))) (eV 3)))
  (bC (cE 10 (aE cZ (aE bX (aE cZ (eC (.int 2)) (eV 7)) (eC (.int 1))) (eV 2)))
  (bC (dV (eB (aE gU (eV 9) (eV 10))) (cE 6 (aE bX (eV 6) (eC (.int 1)))) fA)
  (bC (dV (eB (aE gU (eV 10) (eV 9))) (cE 7 (aE bX (eV 7) (eC (.int 1)))) fA)
  (kN 8 (bV (aD (aE bX (aE aR (eV 0) (eC (.int 0))) (aE cZ (eV 4) (eV 6))) (aD (aE bX (aE aR (eV 0) (eC (.int 1))) (aE cZ (eV 5) (eV 7))) aG)))))))) 900)
  (cH (eV 8))))))))))
def sO:List D->Option D:=cM 11 A8
def CZ:List Str:=["cells","couples","here","there"]
theorem xL:bU CZ ["cells"] (aS Ab):=cN rfl (by decide +kernel)
def A7:aA->Option aV:=
  (bC (lK 1 aG)
  (bC (gX (rD (aD (eV 0) (aD (kG (eV 0) (oE (eC (.int 1))) kL) aG))) (gY 2 (dC (bG 2) (dC (bG 3) gK))) (dV (fW (eB (aE eQ (aE aR (eV 2) (eC (.int 0))) (aE aR (eV 3) (eC (.int 0))))) (eB (aE eQ (aE aR (eV 2) (eC (.int 1))) (aE aR (eV 3) (eC (.int 1)))))) (kN 1 (aY p3 (aD (aY k5 (aD (dG (aD (bV (aD (aE aR (eV 2) (eC (.int 0))) (aD (aE aR (eV 3) (eC (.int 1))) aG))) (aD (bV (aD (aE aR (eV 3) (eC (.int 0))) (aD (aE aR (eV 2) (eC (.int 1))) aG))) aG))) aG)) aG))) fA))
  (cH (eV 1))))
def o8:List D->Option D:=cM 4 A7
def Db:List Str:=["cell","word"]
theorem OE:bU Db ["cell","word"] (aS Ao):=cN rfl (by decide +kernel)
def Ga:aA->Option aV:=
  (cH (bV (aD (aE bX (aE aR (eV 0) (eC (.int 0))) (aE aR (oO hJ (eV 1)) (eC (.int 0)))) (aD (aE bX (aE aR (eV 0) (eC (.int 1))) (aE aR (oO hJ (eV 1)) (eC (.int 1)))) aG))))
def jZ:List D->Option D:=cM 2 Ga
def C3:List Str:=["_law_script","_law_k"]
theorem Oy:bU C3 ["_law_script","_law_k"] (aS Af):=cN rfl (by decide +kernel)
def FT:aA->Option aV:=
  (bC (dV (eB (aE fN (eV 0) (dG aG))) (cH (aE cZ (eC (.int 7)) (eV 1))) fA)
  (cH (aE bX (aE aR (eV 0) (aE iB (eV 1) (aY i9 (aD (eV 0) aG)))) (aE cZ (eC (.int 6553)) (aE k4 (eV 1) (aY i9 (aD (eV 0) aG)))))))
def sK:List D->Option D:=cM 2 FT
def y8:List Str:=["_law_floor_here"]
theorem Ou:bU y8 ["_law_floor_here"] (aS vB):=cN rfl (by decide +kernel)
def Fb:List Str:=["_law_at","_law_floor_here"]
theorem WP:Fb.Nodup:=by decide +kernel
def FU:aA->Option aV:=
  (cH (c4 (c5 (jK (aD (aE cZ (aE aR (eV 0) (eC (.int 0))) (aE aR (eV 0) (eC (.int 1)))) aG)) (bG 0) eT (bV (aD (aE k4 (eV 0) (aE aR (eV 1) (eC (.int 1)))) (aD (aE iB (eV 0) (aE aR (eV 1) (eC (.int 1)))) aG))) [none,some 0])))
def sL:List D->Option D:=cM 1 FU
def CW:List Str:=["thing"]
theorem Oq:bU CW ["thing"] (aS zZ):=cN rfl (by decide +kernel)
def Gh:aA->Option aV:=
  (bC (dV (mX (lD (eB (q9 "tuple" (eV 0)))) (eB (aE eQ (aY i9 (aD (eV 0) aG)) (eC (.int 2))))) (cH (eC (.bool false))) fA)
  (cH (j4 (aY o9 (aD (aE aR (eV 0) (eC (.int 0))) aG)) (aY o9 (aD (aE aR (eV 0) (eC (.int 1))) aG)))))
def sQ:List D->Option D:=cM 1 Gh
def C0:List Str:=["floor"]
theorem Ov:bU C0 ["floor"] (aS Ac):=cN rfl (by decide +kernel)
def Fy:aA->Option aV:=
  (cH (AN (AK (uV (aD (aY n9 (aD (eV 0) aG)) aG)) (uV (aD (aE aR (eV 0) (eC (.int 2))) aG)))))
def oC:List D->Option D:=cM 1 Fy
def C6:List Str:=["solids","one","other","cells","cell","first","second"]
theorem t9:bU C6 ["solids","one","other"] (aS Ai):=cN rfl (by decide +kernel)
def A9:aA->Option aV:=
  (bC (cE 3 (aY sO (aD (eV 1) (aD (eV 2) aG))))
  (bC (gX (cV (kG (eV 3) kL (oE (lE kF (eC (.int 1)))))) (bG 4) (dV (eB (aE (eJ false) (eV 4) (eV 0))) (cH (eC (.bool false))) fA))
  (bC (gX (cV (aY o8 (aD (eV 3) aG))) (gY 2 (dC (bG 5) (dC (bG 6) gK))) (dV (fW (eB (aE (eJ false) (eV 5) (eV 0))) (eB (aE (eJ false) (eV 6) (eV 0)))) (cH (eC (.bool false))) fA))
  (cH (eC (.bool true))))))
def sR:List D->Option D:=cM 7 A9
def zA:List Str:=["cell"]
theorem Ow:bU zA ["cell"] (aS vD):=cN rfl (by decide +kernel)
def Fd:List Str:=["word","cell"]
theorem WR:Fd.Nodup:=by decide +kernel
def FZ:aA->Option aV:=
  (cH (c4 (c5 (zN hJ) (bG 0) eT (aY jZ (aD (eV 1) (aD (eV 0) aG))) [none,some 0])))
def sN:List D->Option D:=cM 1 FZ
def zB:List Str:=["ground","cell"]
theorem Ox:bU zB ["ground","cell"] (aS vE):=cN rfl (by decide +kernel)
def Fe:List Str:=["word","cell","ground"]
theorem WT:Fe.Nodup:=by decide +kernel
def FB:aA->Option aV:=
  (cH (c4 (c5 (zN hJ) (bG 0) (eB (aE (eJ false) (aY jZ (aD (eV 1) (aD (eV 0) aG))) (eV 2))) (bV (aD (eV 0) (aD (aY jZ (aD (eV 1) (aD (eV 0) aG))) aG))) [none,some 1,some 0])))
def pC:List D->Option D:=cM 2 FB
def C1:List Str:=["_law_script","_law_k","_law_many","_law_cell_here"]
theorem BX:bU C1 ["_law_script","_law_k","_law_many"] (aS Ad):=cN rfl (by decide +kernel)
def FV:aA->Option aV:=
  (bC (cE 3 (aE iB (aE bX (aE cZ (aE iB (aY sK (aD (eV 0) (aD (eV 1) aG))) (eC (.int 2147483563))) (eC (.int 69069))) (aE cZ (eC (.int 104723)) (aE bX (eV 1) (eC (.int 1))))) (eC (.int 2147483563))))
  (bC (cE 3 (aE iB (aE bX (aE cZ (eV 3) (eV 3)) (aE k4 (eV 3) (eC (.int 3)))) (eC (.int 2147483399))))
  (cH (aE iB (aE k4 (aE iB (aE bX (aE cZ (eV 3) (eV 3)) (aE k4 (eV 3) (eC (.int 7)))) (eC (.int 2147483647))) (eC (.int 11))) (eV 2)))))
def iD:List D->Option D:=cM 4 FV
def zE:List Str:=["_law_floor_here"]
theorem Oz:bU zE ["_law_floor_here"] (aS vH):=cN rfl (by decide +kernel)
def Fk:List Str:=["_law_cell_here","_law_floor_here"]
theorem WY:Fk.Nodup:=by decide +kernel
def FW:aA->Option aV:=
  (cH (c4 (c5 (cV (aY sL (aD (eV 0) aG))) (bG 0) (eB (aE (dF true) (eV 0) (aE aR (eV 1) (eC (.int 2))))) (eV 0) [none,some 0])))
def kY:List D->Option D:=cM 1 FW
def C9:List Str:=["floor","thing"]
theorem OD:bU C9 ["floor","thing"] (aS Am):=cN rfl (by decide +kernel)
def Ge:aA->Option aV:=
  (bC (dV (lD (eB (aY sQ (aD (eV 1) aG)))) (cH (eC (.bool false))) fA)
  (cH (j4 (g7 gU gW (eC (.int 0)) (aE aR (eV 1) (eC (.int 0))) (aE aR (eV 0) (eC (.int 0)))) (g7 gU gW (eC (.int 0)) (aE aR (eV 1) (eC (.int 1))) (aE aR (eV 0) (eC (.int 1)))))))
def kZ:List D->Option D:=cM 2 Ge
def C2:List Str:=["ground","start","ways","reached","farther","cell","word","there"]
theorem mE:bU C2 ["ground","start"] (aS Ae):=cN rfl (by decide +kernel)
def FC:aA->Option aV:=
  (bC (Iu 2 (eV 1) (eC (.str "")))
  (bC (cE 3 (dG (aD (eV 1) aG)))
  (bC (i6 (eB (aE eQ (eV 3) (dG aG))) (bC (lK 4 aG)
  (bC (gX (cV (eV 3)) (bG 5) (gX (cV (aY pC (aD (eV 0) (aD (eV 5) aG)))) (gY 2 (dC (bG 6) (dC (bG 7) gK))) (dV (eB (aE (eJ true) (eV 7) (eV 2))) (bC (rR 2 (eV 7) (aE j2 (nG 2 (eV 5)) (eV 6)))
  (kN 4 (eV 7))) fA)))
  (rQ 4 (cE 3 (eV 4))))) 900)
  (cH (eV 2)))))
def sV:List D->Option D:=cM 8 FC
def y9:List Str:=["_law_script","_law_at","_law_most","_law_wide","_law_high","_law_rate","_law_shuts","_law_x"]
theorem pO:bU y9 ["_law_script","_law_at","_law_most"] (aS vC):=cN rfl (by decide +kernel)
def Fc:List Str:=["_law_y","_law_x","_law_script","_law_rate","_law_at"]
theorem WQ:Fc.Nodup:=by decide +kernel
def A5:aA->Option aV:=
  (bC (cE 3 (aE bX (eC (.int 1)) (aY iD (aD (eV 0) (aD (eV 1) (aD (eV 2) aG))))))
  (bC (cE 4 (aE bX (eC (.int 1)) (aY iD (aD (eV 0) (aD (aE bX (eV 1) (eC (.int 1))) (aD (eV 2) aG))))))
  (bC (cE 5 (aE aR (dG (aD (eC (.int 2)) (aD (eC (.int 3)) (aD (eC (.int 3)) (aD (eC (.int 5)) (aD (eC (.int 9)) aG)))))) (aY iD (aD (eV 0) (aD (aE bX (eV 1) (eC (.int 2))) (aD (eC (.int 5)) aG))))))
  (bC (lK 6 aG)
  (bC (gX (jK (aD (eV 3) aG)) (bG 7) (oX 6 (c4 (c5 (jK (aD (eV 4) aG)) (bG 0) (eB (aE fN (aY iD (aD (eV 2) (aD (aE bX (aE bX (aE bX (eV 4) (eC (.int 3))) (aE cZ (eC (.int 8)) (eV 1))) (eV 0)) (aD (eV 3) aG)))) (eC (.int 0)))) (bV (aD (eV 1) (aD (eV 0) aG))) [none,some 7,some 0,some 5,some 1]))))
  (cH (bV (aD (eV 3) (aD (eV 4) (aD (aY p3 (aD (eV 6) aG)) aG))))))))))
def o7:List D->Option D:=cM 8 A5
def y7:List Str:=["_law_floor_here","_law_cell_here","_law_found","_law_row","_law_x","_law_y","_law_near"]
theorem kW:bU y7 ["_law_floor_here","_law_cell_here"] (aS vA):=cN rfl (by decide +kernel)
def E9:List Str:=["_law_there","_law_found","_law_floor_here"]
theorem WO:E9.Nodup:=by decide +kernel
def FY:aA->Option aV:=
  (bC (cE 2 (dG (aD (eV 1) aG)))
  (bC (cE 3 (dG (aD (eV 1) aG)))
  (bC (i6 (eB (aE eQ (eV 3) (dG aG))) (bC (oW (aE aR (eV 3) (eC (.int 0))) (gY 2 (dC (bG 4) (dC (bG 5) gK))))
  (bC (cE 6 (dG (aD (bV (aD (eV 4) (aD (aE iR (eV 5) (eC (.int 1))) aG))) (aD (bV (aD (aE bX (eV 4) (eC (.int 1))) (aD (eV 5) aG))) (aD (bV (aD (eV 4) (aD (aE bX (eV 5) (eC (.int 1))) aG))) (aD (bV (aD (aE iR (eV 4) (eC (.int 1))) (aD (eV 5) aG))) aG))))))
  (bC (cE 6 (c4 (c5 (cV (eV 6)) (bG 0) (fW (eB (aE (dF false) (eV 0) (aY kY (aD (eV 2) aG)))) (eB (aE (dF true) (eV 0) (eV 1)))) (eV 0) [none,some 2,some 0])))
  (bC (cE 2 (aE bX (eV 2) (eV 6)))
  (cE 3 (aE bX (kG (eV 3) (oE (eC (.int 1))) kL) (eV 6))))))) 900)
  (cH (eV 2)))))
def sM:List D->Option D:=cM 7 FY
def CV:List Str:=["floor","cell"]
theorem Op:bU CV ["floor","cell"] (aS zY):=cN rfl (by decide +kernel)
def FA:aA->Option aV:=
  (dV (lD (eB (aY kZ (aD (eV 0) (aD (eV 1) aG))))) (fun _=>none) fA)
def sT:List D->Option D:=cM 2 FA
def y4:List Str:=["floor","known","cell"]
theorem Oo:bU y4 ["floor","known","cell"] (aS u9):=cN rfl (by decide +kernel)
def E5:List Str:=["there","floor","known"]
theorem WN:E5.Nodup:=by decide +kernel
def Gd:aA->Option aV:=
  (cH (aY uS (aD (c4 (c5 (cV (aY sN (aD (eV 2) aG))) (bG 0) eT (j4 (aY kZ (aD (eV 1) (aD (eV 0) aG))) (aE (eJ true) (eV 0) (eV 2))) [none,some 0,some 1])) aG)))
def sP:List D->Option D:=cM 3 Gd
def C4:List Str:=["floor","cell"]
theorem OA:bU C4 ["floor","cell"] (aS Ag):=cN rfl (by decide +kernel)
def Gf:aA->Option aV:=
  (bC (pN (aY sT (aD (eV 0) (aD (eV 1) aG))))
  (cH (aE (dF false) (eV 1) (aE aR (eV 0) (eC (.int 2))))))
def oA:List D->Option D:=cM 2 Gf
def CY:List Str:=["floor","cell"]
theorem Ot:bU CY ["floor","cell"] (aS Aa):=cN rfl (by decide +kernel)
def Fz:aA->Option aV:=
  (dV (eB (aY oA (aD (eV 0) (aD (eV 1) aG)))) (fun _=>none) fA)
def sS:List D->Option D:=cM 2 Fz
def C8:List Str:=["floor","cell","word","there"]
theorem Ix:bU C8 ["floor","cell","word"] (aS Ak):=cN rfl (by decide +kernel)
def AA:aA->Option aV:=
  (bC (dV (eB (AL hJ (eV 2))) (fun _=>none) fA)
  (bC (cE 3 (aY jZ (aD (eV 1) (aD (eV 2) aG))))
  (bC (dV (mX (lD (eB (aY kZ (aD (eV 0) (aD (eV 3) aG))))) (eB (aY oA (aD (eV 0) (aD (eV 3) aG))))) (fun _=>none) fA)
  (cH (eV 3)))))
def sU:List D->Option D:=cM 4 AA
def zC:List Str:=["floor","cell","solids"]
theorem Iw:bU zC ["floor","cell"] (aS vF):=cN rfl (by decide +kernel)
def Fh:List Str:=["other","solids","cell"]
theorem WW:Fh.Nodup:=by decide +kernel
def Az:aA->Option aV:=
  (bC (pN (aY sS (aD (eV 0) (aD (eV 1) aG))))
  (bC (cE 2 (aY iE (aD (aE aR (eV 0) (eC (.int 2))) aG)))
  (cH (c4 (c5 (cV (aY n9 (aD (eV 0) aG))) (bG 0) (eB (aY sR (aD (eV 1) (aD (eV 2) (aD (eV 0) aG))))) (eV 0) [none,some 2,some 1])))))
def lP:List D->Option D:=cM 3 Az
structure mT(K:PySem.W.Frag)(mg:Str->Option JZ)(a:Nat->YP)(d:Nat->Zh)(w:J6)(ta:Nat->YP):Prop where
 F_qj:Fo K mg "is_whole" Ah ["thing"] (a 0) (d 0)
 F_qg:Fo K mg "all_cells" vG ["floor"] (a 1) (d 1)
 F_qp:Fo K mg "marked" rT ["things"] (a 2) (d 2)
 F_ql:Fo K mg "crossed" Aj ["one","other"] (a 3) (d 3)
 F_q4:Fo K mg "couples_beside" Ab ["cells"] (a 4) (d 4)
 F_qq:Fo K mg "beside" Ao ["cell","word"] (a 5) (d 5)
 F_qe:Fo K mg "_law_cell" Af ["_law_script","_law_k"] (a 6) (d 6)
 F_q6:Fo K mg "_law_cells" vB ["_law_floor_here"] (a 7) (d 7)
 F_q2:Fo K mg "is_whole_couple" zZ ["thing"] (a 8) (d 8)
 F_q8:Fo K mg "open_cells" Ac ["floor"] (a 9) (d 9)
 F_qk:Fo K mg "lets_see" Ai ["solids","one","other"] (a 10) (d 10)
 F_qa:Fo K mg "all_beside" vD ["cell"] (a 11) (d 11)
 F_qb:Fo K mg "steps_over" vE ["ground","cell"] (a 12) (d 12)
 F_q9:Fo K mg "_law_drawn" Ad ["_law_script","_law_k","_law_many"] (a 13) (d 13)
 F_qh:Fo K mg "_law_open" vH ["_law_floor_here"] (a 14) (d 14)
 F_qn:Fo K mg "is_cell" Am ["floor","thing"] (a 15) (d 15)
 F_qd:Fo K mg "ways_over" Ae ["ground","start"] (a 16) (d 16)
 F_q7:Fo K mg "_law_floor" vC ["_law_script","_law_at","_law_most"] (a 17) (d 17)
 F_q5:Fo K mg "_law_reached" vA ["_law_floor_here","_law_cell_here"] (a 18) (d 18)
 F_q1:Fo K mg "refuse_off_floor" zY ["floor","cell"] (a 19) (d 19)
 F_q0:Fo K mg "is_beside_unknown" u9 ["floor","known","cell"] (a 20) (d 20)
 F_qi:Fo K mg "is_solid" Ag ["floor","cell"] (a 21) (d 21)
 F_qc:Fo K mg "way_ahead" rS ["floor","walker"] (a 22) (d 22)
 F_q3:Fo K mg "refuse_not_open" Aa ["floor","cell"] (a 23) (d 23)
 F_qm:Fo K mg "stepped" Ak ["floor","cell","word"] (a 24) (d 24)
 F_qo:Fo K mg "toured" An ["floor","cell"] (a 25) (d 25)
 F_qf:Fo K mg "seen_from" vF ["floor","cell"] (a 26) (d 26)
 F_qr:Fo K mg "law" m9 ["_law_script"] (a 27) (d 27)
 z_isinstance:mg "isinstance"=none
 z_int:mg "int"=none
 z_bool:mg "bool"=none
 z_range:mg "range"=none
 z_dict:mg "dict"=none
 z_abs:mg "abs"=none
 z_zip:mg "zip"=none
 z_sorted:mg "sorted"=none
 z_tuple:mg "tuple"=none
 z_len:mg "len"=none
 z_set:mg "set"=none
 z_any:mg "any"=none
 z_min:mg "min"=none
 z_list:mg "list"=none
 tm_STEPS:mg "STEPS"=some (.ref (ta 0))
 tt_STEPS:kE K w (ta 0) hJ
 tl_STEPS:(ta 0 == Zm)=false
section
variable {P:J5}{w:J6}{K:PySem.W.Frag}{mg:Str->Option JZ}{base:Heap}{a:Nat->YP}{d:Nat->Zh}{ta:Nat->YP}(T:mT K mg a d w ta)
include T
theorem NN:aK P w K mg base aM 1 (a 0) (d 0) ["thing"] (aW K 1 o9):=by
 refine dJ (g:=Gg) (G:=o9) (N:=C5) (k:=0) rfl rfl rfl T.F_qj.F OC fun c A b s H E e=>?_
 exact(bN (cY (wL (Bs (T:="int") (.inr (.inr (.inl rfl))) rfl T.z_isinstance rfl T.z_int boot_int (by decide) (aC 0)) (vP (SU (Bs (T:="bool") (.inr (.inr (.inr (.inl rfl)))) rfl T.z_isinstance rfl T.z_bool boot_bool (by decide) (aC 0)))))))
theorem NK:aK P w K mg base aM 1 (a 1) (d 1) ["floor"] (aW K 1 n9):=by
 refine dJ (g:=A6) (G:=n9) (N:=zD) (k:=0) rfl rfl rfl T.F_qg.F BY fun c A b s H E e=>?_
 exact(bM (sH (i:=1) BY.nd aN)
  (bM (nE Yr rfl (sE rfl T.z_range (aH (bL bK (aC 0) aQ) aN rfl)) (dA (i:=2) BY.nd) (bN (Gv (i:=1) (iG rfl (fF (N':=Fj) (inner:=[none,some 2]) (aS vG) zD rfl rfl (by decide +kernel)) (g8 0) (sE rfl T.z_range (aH (bL bK (aC 0) aQ) aN rfl)) (fun _ _ _ _ _=>(dA (i:=0) WX)) (fun _ _ _ _ _=>p7) (fun _ _ _ _ _=>(eK (aH (aC 1) (aH (aC 0) aN rfl) rfl)))))))
  (bN (cY (aC 1)))))
theorem NT:aK P w K mg base aM 1 (a 2) (d 2) ["things"] (aW K 1 iE):=by
 refine dJ (g:=Gi) (G:=iE) (N:=uL) (k:=0) rfl rfl rfl T.F_qp.F Iy fun e A b s H E c=>?_
 exact(bN (cY (Bq (Pw rfl (nB c)) rfl T.z_dict DC.boot_dict (aH (iG rfl (fF (N':=Bf) (inner:=[none]) (aS rT) uL rfl rfl (by decide +kernel)) (g8 0) (gN (aC 0)) (fun _ _ _ _ _=>(dA (i:=0) Hf)) (fun _ _ _ _ _=>p7) (fun _ _ _ _ _=>(eK (aH (aC 0) (aH iX aN rfl) rfl)))) aN rfl))))
theorem NP:aK P w K mg base aM 1 (a 3) (d 3) ["one","other"] (aW K 2 sO):=by
 refine dJ (g:=A8) (G:=sO) (N:=C7) (k:=0) rfl rfl rfl T.F_ql.F i5 fun c A b s H E e=>?_
 exact(bM (dI (i:=2) i5.nd (j3 EI rfl T.z_abs boot_abs (aH (bE qP (bL bK (aC 1) aQ) (bL bK (aC 0) aQ)) aN rfl)))
  (bM (dI (i:=3) i5.nd (j3 EI rfl T.z_abs boot_abs (aH (bE qP (bL bK (aC 1) aQ) (bL bK (aC 0) aQ)) aN rfl)))
  (bM (dI (i:=4) i5.nd (Eo (cQ GV (bL bK (aC 1) aQ) (bL bK (aC 0) aQ) (eW _)) aQ (vQ wO aQ)))
  (bM (dI (i:=5) i5.nd (Eo (cQ GV (bL bK (aC 1) aQ) (bL bK (aC 0) aQ) (eW _)) aQ (vQ wO aQ)))
  (bM (dI (i:=6) i5.nd aQ)
  (bM (dI (i:=7) i5.nd aQ)
  (bM (sH (i:=8) i5.nd (aH (aC 0) aN rfl))
  (bM (By 900 Yr (mW (Bz (cQ qO (aC 6) (aC 2) (eW _)) (AJ (cQ qO (aC 7) (aC 3) (eW _))))) (bM (dI (i:=9) i5.nd (bE g9 (bE dB (bE g9 aQ (aC 6)) aQ) (aC 3)))
  (bM (dI (i:=10) i5.nd (bE g9 (bE dB (bE g9 aQ (aC 7)) aQ) (aC 2)))
  (bM (iH (cQ qN (aC 9) (aC 10) (eW _)) (bN (dI (i:=6) i5.nd (bE dB (aC 6) aQ))) iI)
  (bM (iH (cQ qN (aC 10) (aC 9) (eW _)) (bN (dI (i:=7) i5.nd (bE dB (aC 7) aQ))) iI)
  (bN (Bx (i:=8) (eK (aH (bE dB (bL bK (aC 0) aQ) (bE g9 (aC 4) (aC 6))) (aH (bE dB (bL bK (aC 0) aQ) (bE g9 (aC 5) (aC 7))) aN rfl) rfl)))))))))
  (bN (cY (aC 8)))))))))))
theorem Ny:aK P w K mg base aM 1 (a 4) (d 4) ["cells"] (aW K 1 o8):=by
 refine dJ (g:=A7) (G:=o8) (N:=CZ) (k:=0) rfl rfl rfl T.F_q4.F xL fun e A b s H E c=>?_
 exact(bM (sH (i:=1) xL.nd aN)
  (bM (nE Yr rfl (SZ rfl T.z_zip (aH (aC 0) (aH (Bt (aC 0) (Bw aQ) Bv) aN rfl) rfl)) (vS rfl (lS (dA (i:=2) xL.nd) (lS (dA (i:=3) xL.nd) vT))) (bN (iH (mW (vW (cQ (l4 (gJ c)) (bL bK (aC 2) aQ) (bL bK (aC 3) aQ) (eW _)) (vX (cQ (l4 (gJ c)) (bL bK (aC 2) aQ) (bL bK (aC 3) aQ) (eW _))))) (bN (Bx (i:=1) (Bq EK rfl T.z_tuple boot_tuple (aH (j3 (EJ (nB c)) rfl T.z_sorted boot_sorted (aH (@gM _ _ _ _ (aH (eK (aH (bL bK (aC 2) aQ) (aH (bL bK (aC 3) aQ) aN rfl) rfl)) (aH (eK (aH (bL bK (aC 3) aQ) (aH (bL bK (aC 2) aQ) aN rfl) rfl)) aN rfl) rfl)) aN rfl)) aN rfl)))) iI)))
  (bN (cY (aC 1)))))
theorem NU:aK P w K mg base aM 1 (a 5) (d 5) ["cell","word"] (aW K 2 jZ):=by
 refine dJ (g:=Ga) (G:=jZ) (N:=Db) (k:=0) rfl rfl rfl T.F_qq.F OE fun c A b s H E e=>?_
 exact(bN (cY (eK (aH (bE dB (bL bK (aC 0) aQ) (bL bK (Gk rfl T.tm_STEPS T.tt_STEPS (aC 1)) aQ)) (aH (bE dB (bL bK (aC 0) aQ) (bL bK (Gk rfl T.tm_STEPS T.tt_STEPS (aC 1)) aQ)) aN rfl) rfl))))
theorem NI:aK P w K mg base aM 1 (a 6) (d 6) ["_law_script","_law_k"] (aW K 2 sK):=by
 refine dJ (g:=FT) (G:=sK) (N:=C3) (k:=0) rfl rfl rfl T.F_qe.F Oy fun e A b s H E c=>?_
 exact(bM (iH (cQ (tT (gJ c)) (aC 0) (@gM _ _ _ _ aN) (eW _)) (bN (cY (bE g9 aQ (aC 1)))) iI)
  (bN (cY (bE dB (bL bK (aC 0) (bE nO (aC 1) (j3 wA rfl T.z_len PySem.boot_len (aH (aC 0) aN rfl)))) (bE g9 aQ (bE tU (aC 1) (j3 wA rfl T.z_len PySem.boot_len (aH (aC 0) aN rfl))))))))
theorem NA:aK P w K mg base aM 1 (a 7) (d 7) ["_law_floor_here"] (aW K 1 sL):=by
 refine dJ (g:=FU) (G:=sL) (N:=y8) (k:=0) rfl rfl rfl T.F_q6.F Ou fun c A b s H E e=>?_
 exact(bN (cY (iG rfl (fF (N':=Fb) (inner:=[none,some 0]) (aS vB) y8 rfl rfl (by decide +kernel)) (g8 0) (sE rfl T.z_range (aH (bE g9 (bL bK (aC 0) aQ) (bL bK (aC 0) aQ)) aN rfl)) (fun _ _ _ _ _=>(dA (i:=0) WP)) (fun _ _ _ _ _=>p7) (fun _ _ _ _ _=>(eK (aH (bE tU (aC 0) (bL bK (aC 1) aQ)) (aH (bE nO (aC 0) (bL bK (aC 1) aQ)) aN rfl) rfl))))))
theorem Nw(b:aK P w K mg base aM 1 (a 0) (d 0) ["thing"] (aW K 1 o9)):aK P w K mg base aM 2 (a 8) (d 8) ["thing"] (aW K 1 sQ):=by
 refine dJ (g:=Gh) (G:=sQ) (N:=CW) (k:=1) rfl rfl rfl T.F_q2.F Oq fun f A c s H E e=>?_
 exact(bM (iH (mW (Bz (vV (lU (Bs (T:="tuple") (.inr (.inl rfl)) rfl T.z_isinstance rfl T.z_tuple boot_tuple (by decide) (aC 0)))) (AJ (cQ (l4 (gJ e)) (j3 wA rfl T.z_len PySem.boot_len (aH (aC 0) aN rfl)) aQ (eW _))))) (bN (cY iX)) iI)
  (bN (cY (wL (bZ T.F_qj b e rfl (aH (bL bK (aC 0) aQ) aN rfl) fO) (vP (bZ T.F_qj b e rfl (aH (bL bK (aC 0) aQ) aN rfl) fO))))))
theorem NC(c:aK P w K mg base aM 1 (a 1) (d 1) ["floor"] (aW K 1 n9)):aK P w K mg base aM 2 (a 9) (d 9) ["floor"] (aW K 1 oC):=by
 refine dJ (g:=Fy) (G:=oC) (N:=C0) (k:=1) rfl rfl rfl T.F_q8.F Ov fun f A e s H E b=>?_
 exact(bN (cY (SW rfl (nB b) rfl T.z_sorted boot_sorted (R0 rfl (nB b) (Gw rfl (gJ b) rfl T.z_set boot_set (aH (bZ T.F_qg c b rfl (aH (aC 0) aN rfl) fO) aN rfl)) (Gw rfl (gJ b) rfl T.z_set boot_set (aH (bL bK (aC 0) aQ) aN rfl))))))
theorem NO(c:aK P w K mg base aM 1 (a 3) (d 3) ["one","other"] (aW K 2 sO))(e:aK P w K mg base aM 1 (a 4) (d 4) ["cells"] (aW K 1 o8)):aK P w K mg base aM 2 (a 10) (d 10) ["solids","one","other"] (aW K 3 sR):=by
 refine dJ (g:=A9) (G:=sR) (N:=C6) (k:=1) rfl rfl rfl T.F_qk.F t9 fun h A f s H E b=>?_
 exact(bM (dI (i:=3) t9.nd (bZ T.F_ql c b rfl (aH (aC 1) (aH (aC 2) aN rfl) rfl) ln2))
  (bM (nE Yr rfl (gN (Bt (aC 3) Bv (Bw (vQ wO aQ)))) (dA (i:=4) t9.nd) (bN (iH (cQ (tV (eF b)) (aC 4) (aC 0) (by with_unfolding_all rfl)) (bN (cY iX)) iI)))
  (bM (nE Yr rfl (gN (bZ T.F_q4 e b rfl (aH (aC 3) aN rfl) fO)) (vS rfl (lS (dA (i:=5) t9.nd) (lS (dA (i:=6) t9.nd) vT))) (bN (iH (mW (vW (cQ (tV (eF b)) (aC 5) (aC 0) (by with_unfolding_all rfl)) (vX (cQ (tV (eF b)) (aC 6) (aC 0) (by with_unfolding_all rfl))))) (bN (cY iX)) iI)))
  (bN (cY iX)))))
theorem NE(b:aK P w K mg base aM 1 (a 5) (d 5) ["cell","word"] (aW K 2 jZ)):aK P w K mg base aM 2 (a 11) (d 11) ["cell"] (aW K 1 sN):=by
 refine dJ (g:=FZ) (G:=sN) (N:=zA) (k:=1) rfl rfl rfl T.F_qa.F Ow fun f A c s H E e=>?_
 exact(bN (cY (iG rfl (fF (N':=Fd) (inner:=[none,some 0]) (aS vD) zA rfl rfl (by decide +kernel)) (g8 0) (Go rfl T.tm_STEPS T.tt_STEPS T.tl_STEPS) (fun _ _ _ _ _=>(dA (i:=0) WR)) (fun _ _ _ _ _=>p7) (fun _ _ _ _ _=>(bZ T.F_qq b e rfl (aH (aC 1) (aH (aC 0) aN rfl) rfl) ln2)))))
theorem NF(b:aK P w K mg base aM 1 (a 5) (d 5) ["cell","word"] (aW K 2 jZ)):aK P w K mg base aM 2 (a 12) (d 12) ["ground","cell"] (aW K 2 pC):=by
 refine dJ (g:=FB) (G:=pC) (N:=zB) (k:=1) rfl rfl rfl T.F_qb.F Ox fun f A c s H E e=>?_
 exact(bN (cY (iG rfl (fF (N':=Fe) (inner:=[none,some 1,some 0]) (aS vE) zB rfl rfl (by decide +kernel)) (g8 0) (Go rfl T.tm_STEPS T.tt_STEPS T.tl_STEPS) (fun _ _ _ _ _=>(dA (i:=0) WT)) (fun _ _ _ _ _=>(lV (cQ (tV (eF e)) (bZ T.F_qq b e rfl (aH (aC 1) (aH (aC 0) aN rfl) rfl) ln2) (aC 2) (by with_unfolding_all rfl)))) (fun _ _ _ _ _=>(eK (aH (aC 0) (aH (bZ T.F_qq b e rfl (aH (aC 1) (aH (aC 0) aN rfl) rfl) ln2) aN rfl) rfl))))))
theorem ND(b:aK P w K mg base aM 1 (a 6) (d 6) ["_law_script","_law_k"] (aW K 2 sK)):aK P w K mg base aM 2 (a 13) (d 13) ["_law_script","_law_k","_law_many"] (aW K 3 iD):=by
 refine dJ (g:=FV) (G:=iD) (N:=C1) (k:=1) rfl rfl rfl T.F_q9.F BX fun f A c s H E e=>?_
 exact(bM (dI (i:=3) BX.nd (bE nO (bE dB (bE g9 (bE nO (bZ T.F_qe b e rfl (aH (aC 0) (aH (aC 1) aN rfl) rfl) ln2) aQ) aQ) (bE g9 aQ (bE dB (aC 1) aQ))) aQ))
  (bM (dI (i:=3) BX.nd (bE nO (bE dB (bE g9 (aC 3) (aC 3)) (bE tU (aC 3) aQ)) aQ))
  (bN (cY (bE nO (bE tU (bE nO (bE dB (bE g9 (aC 3) (aC 3)) (bE tU (aC 3) aQ)) aQ) aQ) (aC 2))))))
theorem NL(b:aK P w K mg base aM 1 (a 7) (d 7) ["_law_floor_here"] (aW K 1 sL)):aK P w K mg base aM 2 (a 14) (d 14) ["_law_floor_here"] (aW K 1 kY):=by
 refine dJ (g:=FW) (G:=kY) (N:=zE) (k:=1) rfl rfl rfl T.F_qh.F Oz fun f A c s H E e=>?_
 exact(bN (cY (iG rfl (fF (N':=Fk) (inner:=[none,some 0]) (aS vH) zE rfl rfl (by decide +kernel)) (g8 0) (gN (bZ T.F_q6 b e rfl (aH (aC 0) aN rfl) fO)) (fun _ _ _ _ _=>(dA (i:=0) WY)) (fun _ _ _ _ _=>(lV (cQ (l5 (eF e)) (aC 0) (bL bK (aC 1) aQ) (by with_unfolding_all rfl)))) (fun _ _ _ _ _=>(aC 0)))))
theorem NR(b:aK P w K mg base aM 2 (a 8) (d 8) ["thing"] (aW K 1 sQ)):aK P w K mg base aM 3 (a 15) (d 15) ["floor","thing"] (aW K 2 kZ):=by
 refine dJ (g:=Ge) (G:=kZ) (N:=C9) (k:=2) rfl rfl rfl T.F_qn.F OD fun f A c s H E e=>?_
 exact(bM (iH (vV (lU (bZ T.F_q2 b e rfl (aH (aC 1) aN rfl) fO))) (bN (cY iX)) iI)
  (bN (cY (wL (En qN qO aQ (bL bK (aC 1) aQ) (bL bK (aC 0) aQ)) (vP (En qN qO aQ (bL bK (aC 1) aQ) (bL bK (aC 0) aQ)))))))
theorem NH(c:aK P w K mg base aM 2 (a 12) (d 12) ["ground","cell"] (aW K 2 pC)):aK P w K mg base aM 3 (a 16) (d 16) ["ground","start"] (aW K 2 sV):=by
 refine dJ (g:=FC) (G:=sV) (N:=C2) (k:=2) rfl rfl rfl T.F_qd.F mE fun f A e s H E b=>?_
 exact(bM (RY (i:=2) mE.nd (eF b) (aC 1) Gj)
  (bM (dI (i:=3) mE.nd (@gM _ _ _ _ (aH (aC 1) aN rfl)))
  (bM (By 900 Yr (cQ (l4 (gJ b)) (aC 3) (@gM _ _ _ _ aN) (eW _)) (bM (sH (i:=4) mE.nd aN)
  (bM (nE Yr rfl (gN (aC 3)) (dA (i:=5) mE.nd) (bN (nE Yr rfl (gN (bZ T.F_qb c b rfl (aH (aC 0) (aH (aC 5) aN rfl) rfl) ln2)) (vS rfl (lS (dA (i:=6) mE.nd) (lS (dA (i:=7) mE.nd) vT))) (bN (iH (cQ (Cv (eF b)) (aC 7) (aC 2) (by with_unfolding_all rfl)) (bM (RX (i:=2) (eF b) (aC 7) (bE GU (SV (i:=2) (eF b) (aC 5)) (aC 6)))
  (bN (Bx (i:=4) (aC 7)))) iI)))))
  (RZ 4 (bN (dI (i:=3) mE.nd (aC 4)))))))
  (bN (cY (aC 2))))))
theorem NB(b:aK P w K mg base aM 2 (a 13) (d 13) ["_law_script","_law_k","_law_many"] (aW K 3 iD)):aK P w K mg base aM 3 (a 17) (d 17) ["_law_script","_law_at","_law_most"] (aW K 3 o7):=by
 refine dJ (g:=A5) (G:=o7) (N:=y9) (k:=2) rfl rfl rfl T.F_q7.F pO fun f A e s H E c=>?_
 exact(bM (dI (i:=3) pO.nd (bE dB aQ (bZ T.F_q9 b c rfl (aH (aC 0) (aH (aC 1) (aH (aC 2) aN rfl) rfl) rfl) kK)))
  (bM (dI (i:=4) pO.nd (bE dB aQ (bZ T.F_q9 b c rfl (aH (aC 0) (aH (bE dB (aC 1) aQ) (aH (aC 2) aN rfl) rfl) rfl) kK)))
  (bM (dI (i:=5) pO.nd (bL bK (@gM _ _ _ _ (aH aQ (aH aQ (aH aQ (aH aQ (aH aQ aN rfl) rfl) rfl) rfl) rfl)) (bZ T.F_q9 b c rfl (aH (aC 0) (aH (bE dB (aC 1) aQ) (aH aQ aN rfl) rfl) rfl) kK)))
  (bM (sH (i:=6) pO.nd aN)
  (bM (nE Yr rfl (sE rfl T.z_range (aH (aC 3) aN rfl)) (dA (i:=7) pO.nd) (bN (Gv (i:=6) (iG rfl (fF (N':=Fc) (inner:=[none,some 7,some 0,some 5,some 1]) (aS vC) y9 rfl rfl (by decide +kernel)) (g8 0) (sE rfl T.z_range (aH (aC 4) aN rfl)) (fun _ _ _ _ _=>(dA (i:=0) WQ)) (fun _ _ _ _ _=>(lV (cQ (tT (gJ c)) (bZ T.F_q9 b c rfl (aH (aC 2) (aH (bE dB (bE dB (bE dB (aC 4) aQ) (bE g9 aQ (aC 1))) (aC 0)) (aH (aC 3) aN rfl) rfl) rfl) kK) aQ (eW _)))) (fun _ _ _ _ _=>(eK (aH (aC 1) (aH (aC 0) aN rfl) rfl)))))))
  (bN (cY (eK (aH (aC 3) (aH (aC 4) (aH (Bq EK rfl T.z_tuple boot_tuple (aH (aC 6) aN rfl)) aN rfl) rfl) rfl)))))))))
theorem Nz(b:aK P w K mg base aM 2 (a 14) (d 14) ["_law_floor_here"] (aW K 1 kY)):aK P w K mg base aM 3 (a 18) (d 18) ["_law_floor_here","_law_cell_here"] (aW K 2 sM):=by
 refine dJ (g:=FY) (G:=sM) (N:=y7) (k:=2) rfl rfl rfl T.F_q5.F kW fun f A e s H E c=>?_
 exact(bM (dI (i:=2) kW.nd (@gM _ _ _ _ (aH (aC 1) aN rfl)))
  (bM (dI (i:=3) kW.nd (@gM _ _ _ _ (aH (aC 1) aN rfl)))
  (bM (By 900 Yr (cQ (l4 (gJ c)) (aC 3) (@gM _ _ _ _ aN) (eW _)) (bM (RV (bL bK (aC 3) aQ) (vS rfl (lS (dA (i:=4) kW.nd) (lS (dA (i:=5) kW.nd) vT))))
  (bM (dI (i:=6) kW.nd (@gM _ _ _ _ (aH (eK (aH (aC 4) (aH (bE qP (aC 5) aQ) aN rfl) rfl)) (aH (eK (aH (bE dB (aC 4) aQ) (aH (aC 5) aN rfl) rfl)) (aH (eK (aH (aC 4) (aH (bE dB (aC 5) aQ) aN rfl) rfl)) (aH (eK (aH (bE qP (aC 4) aQ) (aH (aC 5) aN rfl) rfl)) aN rfl) rfl) rfl) rfl)))
  (bM (RW (i:=6) kW.nd rfl (fF (N':=E9) (inner:=[none,some 2,some 0]) (aS vA) y7 rfl rfl (by decide +kernel)) (g8 0) (gN (aC 6)) (fun _ _ _ _ _=>(dA (i:=0) WO)) (fun _ _ _ _ _=>(lV (mW (vW (cQ (yQ (eF c)) (aC 0) (bZ T.F_qh b c rfl (aH (aC 2) aN rfl) fO) (by with_unfolding_all rfl)) (vX (cQ (l5 (eF c)) (aC 0) (aC 1) (by with_unfolding_all rfl))))))) (fun _ _ _ _ _=>(aC 0)))
  (bM (dI (i:=2) kW.nd (bE dB (aC 2) (aC 6)))
  (bN (dI (i:=3) kW.nd (bE dB (Bt (aC 3) (Bw aQ) Bv) (aC 6)))))))))
  (bN (cY (aC 2))))))
theorem Nv(b:aK P w K mg base aM 3 (a 15) (d 15) ["floor","thing"] (aW K 2 kZ)):aK P w K mg base aM 4 (a 19) (d 19) ["floor","cell"] (aW K 2 sT):=by
 refine dJ (g:=FA) (G:=sT) (N:=CV) (k:=3) rfl rfl rfl T.F_q1.F Op fun f A c s H E e=>?_
 exact(bN (iH (vV (lU (bZ T.F_qn b e rfl (aH (aC 0) (aH (aC 1) aN rfl) rfl) ln2))) (bN vU) iI))
theorem Nu(b:aK P w K mg base aM 3 (a 15) (d 15) ["floor","thing"] (aW K 2 kZ))(c:aK P w K mg base aM 2 (a 11) (d 11) ["cell"] (aW K 1 sN)):aK P w K mg base aM 4 (a 20) (d 20) ["floor","known","cell"] (aW K 3 sP):=by
 refine dJ (g:=Gd) (G:=sP) (N:=y4) (k:=3) rfl rfl rfl T.F_q0.F Oo fun h A e s H E f=>?_
 exact(bN (cY (j3 (Pu rfl) rfl T.z_any SL.boot_any (aH (iG rfl (fF (N':=E5) (inner:=[none,some 0,some 1]) (aS u9) y4 rfl rfl (by decide +kernel)) (g8 0) (gN (bZ T.F_qa c f rfl (aH (aC 2) aN rfl) fO)) (fun _ _ _ _ _=>(dA (i:=0) WN)) (fun _ _ _ _ _=>p7) (fun _ _ _ _ _=>(wL (bZ T.F_qn b f rfl (aH (aC 1) (aH (aC 0) aN rfl) rfl) ln2) (vP (Br (Cv (eF f)) (aC 0) (aC 2) (by with_unfolding_all rfl)))))) aN rfl))))
theorem NM(b:aK P w K mg base aM 4 (a 19) (d 19) ["floor","cell"] (aW K 2 sT)):aK P w K mg base aM 5 (a 21) (d 21) ["floor","cell"] (aW K 2 oA):=by
 refine dJ (g:=Gf) (G:=oA) (N:=C4) (k:=4) rfl rfl rfl T.F_qi.F OA fun f A c s H E e=>?_
 exact(bM (Gu (bZ T.F_q1 b e rfl (aH (aC 0) (aH (aC 1) aN rfl) rfl) ln2))
  (bN (cY (Br (yQ (eF e)) (aC 1) (bL bK (aC 0) aQ) (by with_unfolding_all rfl)))))
theorem Nx(b:aK P w K mg base aM 5 (a 21) (d 21) ["floor","cell"] (aW K 2 oA)):aK P w K mg base aM 6 (a 23) (d 23) ["floor","cell"] (aW K 2 sS):=by
 refine dJ (g:=Fz) (G:=sS) (N:=CY) (k:=5) rfl rfl rfl T.F_q3.F Ot fun f A c s H E e=>?_
 exact(bN (iH (lU (bZ T.F_qi b e rfl (aH (aC 0) (aH (aC 1) aN rfl) rfl) ln2)) (bN vU) iI))
theorem NQ(b:aK P w K mg base aM 1 (a 5) (d 5) ["cell","word"] (aW K 2 jZ))(e:aK P w K mg base aM 5 (a 21) (d 21) ["floor","cell"] (aW K 2 oA))(c:aK P w K mg base aM 3 (a 15) (d 15) ["floor","thing"] (aW K 2 kZ)):aK P w K mg base aM 6 (a 24) (d 24) ["floor","cell","word"] (aW K 3 sU):=by
 refine dJ (g:=AA) (G:=sU) (N:=C8) (k:=5) rfl rfl rfl T.F_qm.F Ix fun j A f s H E h=>?_
 exact(bM (iH (R4 rfl T.tm_STEPS T.tt_STEPS T.tl_STEPS (aC 2) (by with_unfolding_all rfl)) (bN vU) iI)
  (bM (dI (i:=3) Ix.nd (bZ T.F_qq b h rfl (aH (aC 1) (aH (aC 2) aN rfl) rfl) ln2))
  (bM (iH (mW (Bz (vV (lU (bZ T.F_qn c h rfl (aH (aC 0) (aH (aC 3) aN rfl) rfl) ln2))) (AJ (lU (bZ T.F_qi e h rfl (aH (aC 0) (aH (aC 3) aN rfl) rfl) ln2))))) (bN vU) iI)
  (bN (cY (aC 3))))))
theorem NJ(f:aK P w K mg base aM 6 (a 23) (d 23) ["floor","cell"] (aW K 2 sS))(b:aK P w K mg base aM 1 (a 2) (d 2) ["things"] (aW K 1 iE))(e:aK P w K mg base aM 1 (a 1) (d 1) ["floor"] (aW K 1 n9))(c:aK P w K mg base aM 2 (a 10) (d 10) ["solids","one","other"] (aW K 3 sR)):aK P w K mg base aM 7 (a 26) (d 26) ["floor","cell"] (aW K 2 lP):=by
 refine dJ (g:=Az) (G:=lP) (N:=zC) (k:=6) rfl rfl rfl T.F_qf.F Iw fun l A j s H E h=>?_
 exact(bM (Gu (bZ T.F_q3 f h rfl (aH (aC 0) (aH (aC 1) aN rfl) rfl) ln2))
  (bM (dI (i:=2) Iw.nd (bZ T.F_qp b h rfl (aH (bL bK (aC 0) aQ) aN rfl) fO))
  (bN (cY (iG rfl (fF (N':=Fh) (inner:=[none,some 2,some 1]) (aS vF) zC rfl rfl (by decide +kernel)) (g8 0) (gN (bZ T.F_qg e h rfl (aH (aC 0) aN rfl) fO)) (fun _ _ _ _ _=>(dA (i:=0) WW)) (fun _ _ _ _ _=>(lV (lU (bZ T.F_qk c h rfl (aH (aC 1) (aH (aC 2) (aH (aC 0) aN rfl) rfl) rfl) kK)))) (fun _ _ _ _ _=>(aC 0)))))))
end
end My
namespace My
open PySem.Spec PySem.SeqAt L2 CL DL OB SD ZL SL EL DC KP ST TX TB EX
def nD:List D->Option (List (List Int))
 | []=>some []
 | d::r=>(cL d).bind fun k=>(nD r).bind fun a=>some (k::a)
def Ib(K:PySem.W.Frag):Sp:=fun b H Q _=>∃(F:YP->Prop) (ds:List D) (ks:List (List Int)),(∀ a,F a->H a≠none)/\Reps K F H [.list ds] b/\nD ds=some ks/\ks.Nodup/\ks.length<=1000 /\
 ∀ F' H' p l ep,aI F F' H H'->H' p=none->l.map (·.1)=ks->(∀ q∈l,bJ K H' q.2 (q.1.map V.int))->Q (.ref p) (aJ H' p (bI p (cX l) ep))
theorem Sx(ds:List D):∀(s0:Sl),lR (bG 0) eT (bV (aD (eV 0) (aD (eC (.bool true)) aG))) ds [s0]=some (ds.map fun d=>.tuple [d,.bool true]):=by
 induction ds with
 | nil=>intro s0;rfl
 | cons d ds a=>
  intro s0;unfold lR
  show Option.bind _ _=_
  rw [show bG 0 d [s0]=some [.dat d]from rfl,Qd,show eT [Sl.dat d]=some true from rfl,Qd,if_pos rfl,show bV (aD (eV 0) (aD (eC (.bool true)) aG)) [Sl.dat d]=some (.tuple [d,.bool true])from rfl,Qd,a];rfl
theorem II:∀{ds:List D}{ks:List (List Int)},nD ds=some ks->l6 (ds.map fun d=>.tuple [d,.bool true])=some (ks.map fun k=>(k,.bool true))/\ds.length=ks.length
 | [],_,h=>by cases h;exact⟨rfl,rfl⟩
 | d::r,_,h=>by
  obtain⟨k,e,h⟩:=aF h;obtain⟨ks,c,h⟩:=aF h;cases h;obtain⟨b,a⟩:=II c
  refine⟨?_,by rw [Qt,Qt,a]⟩
  rw [Qs];unfold l6
  have:tX (.tuple [d,.bool true])=some (k,.bool true):=by
   show(cL d).bind _=_
   rw [e];rfl
  rw [this,Qd,b];rfl
theorem N4(l:List (List Int))(k:List Int)(h:k∉l):gI (l.map fun k=>(gF k,J8 true)) k (.bool true)=(l++[k]).map fun k=>(gF k,J8 true):=by
 have b:eZ (l.map fun k=>(gF k,J8 true)) k=false:=by
  unfold eZ;rw [List.any_map,List.any_eq_false];intro x a q;have q:(cL (gF x) == some k)=true:=q;rw [Bu,beq_iff_eq]at q;exact h (QF q ▸ a)
 unfold gI;rw [b,if_neg QB,Q6];rfl
theorem Gq:∀(l acc:List (List Int)),(acc++l).Nodup->(l.map fun k=>(k,J8 true)).foldl (fun kvs p=>gI kvs p.1 p.2) (acc.map fun k=>(gF k,J8 true))=(acc++l).map fun k=>(gF k,J8 true)
 | [],acc,_=>by rw [QP];rfl
 | c::l,acc,h=>by
  have a:c∉acc:=by
   rw [YI]at h;exact fun q=>h.2.2 c q c Qg rfl
  rw [Qs,YL]
  show(l.map _).foldl _ (gI _ c (.bool true))=_
  rw [N4 acc c a,Gq l (acc++[c]) (by rw [QD];exact h),QD];rfl
theorem HD:∀ ks:List (List Int),lY (ks.map fun k=>(gF k,J8 true))=some ks
 | []=>rfl
 | k::ks=>by
  rw [Qs];unfold lY;rw [Bu,Qd,show eY (.bool true)=some true from rfl,Qd,if_pos rfl,HD ks];rfl
section
variable {P:J5}{w:J6}{K:PySem.W.Frag}{mg:Str->Option JZ}{base:Heap}{a:Nat->YP}{d:Nat->Zh}{ta:Nat->YP}(T:mT K mg a d w ta)
include T
theorem Wk:aK P w K mg base aM 1 (a 2) (d 2) ["things"] (Ib K):=by
 refine T.F_qp.F.ok Iy (fun n H Q E h=>?_) (fun N A g s H n Q E G h=>?_)
 ·obtain⟨F,b,f,z,R,_⟩:=h;rw [<- R.length];rfl
 ·obtain⟨F,b,f,z,R,M,t,y,c⟩:=h;obtain⟨q,o⟩:=II M
  have j:b.length<=1000:=by rw [o];exact y
  refine⟨_,xF (BM (wZ (Eh rfl (nB G)) rfl T.z_dict DC.boot_dict (aH (iG rfl (fF (N':=Bf) (inner:=[none]) (aS rT) uL rfl rfl (by decide +kernel)) (g8 0) (gN (aC 0)) (fun _ _ _ _ _=>(dA (i:=0) Hf)) (fun _ _ _ _ _=>p7) (fun _ _ _ _ _=>(eK (aH (aC 0) (aH iX aN rfl) rfl)))) aN rfl))),?_⟩
  refine⟨F,H,cR 1 [.list b],[.list (b.map fun d=>.tuple [d,.bool true])],xS z R,?_,fun l S U E1 O=>⟨l,_,_,E1.fz z,O,by rw [Qo];exact j,q,fun p W J I rd r x=>?_⟩⟩
  ·have B:c4 (c5 (cV (eV 0)) (bG 0) eT (bV (aD (eV 0) (aD (eC (.bool true)) aG))) [none]) (cR 1 [.list b])=some (.list (b.map fun d=>.tuple [d,.bool true])):=by
    unfold c4 c5;rw [show cV (eV 0) (cR 1 [.list b])=some b from rfl,Qd,show gP [none] (cR 1 [.list b])=[Sl.no]from rfl,Sx,Qd,if_pos (by rw [Qo];exact j)];rfl
   show(c4 _ _).bind _=_
   rw [B];rfl
  ·have e:p5 (f.map fun k=>(k,J8 true))=f.map fun k=>(gF k,J8 true):=Gq f [] (by simpa using t);rw [e]at rd;obtain⟨m,rfl,v,u⟩:=HF rd (HD f);exact c l S p m J E1 I v u
end
abbrev wS:Zv:=tI (top 29) 0
abbrev sY:Zv:=tI (top 29) 1
abbrev wV:Zv:=tI (top 29) 2
abbrev wU:Zv:=tI (top 29) 3
abbrev wT:Zv:=tI (top 29) 4
def Pq:List Str:=["self","floor","cell"]
def Bh:List Str:=["self","word","there","fresh"]
def Fv:List Str:=["cell","self"]
def pF:List Str:=["self"]
theorem W4:Fv.Nodup:=by decide +kernel
theorem zSV:bU Pq ["self","floor","cell"] (aS wS):=cN rfl (by decide +kernel)
theorem B9:bU Bh ["self","word"] (aS sY):=cN rfl (by decide +kernel)
theorem zSY:bU pF ["self"] (aS wV):=cN rfl (by decide +kernel)
theorem zSX:bU pF ["self"] (aS wU):=cN rfl (by decide +kernel)
theorem zSW:bU pF ["self"] (aS wT):=cN rfl (by decide +kernel)
structure qX(K:PySem.W.Frag)(mg:Str->Option JZ)(C:YP):Prop where
 cl:gA K C
 nK:iV K C "known"
 nF:iV K C "floor"
 nP:iV K C "path"
 mC:mg "Walker"=some (.ref C)
def KC:GS W3:=eU (Ay (rO aR (u7 0 BD) (OB.rP (lE kF (eC (.int 1))))))
def jY:GM W3:=kH 0 1 KC
def KB:GS W3:=eU (KF 0 (fun b=>b.2.1))
def pJ:GM W3:=kH 0 1 KB
def Kz:GS W3:=eU (KG 0 (fun b=>b.2.2))
def jH:GM W3:=kH 0 1 Kz
def BI:GS W3:=bT (dH 2 (mH sU (fL (sZ 0 BC) (fL (eX 0 jY aG) (fL (xP (eV 1)) jV)))))
 (bT (dH 3 (kA (rY (mH lP (fL (sZ 0 BC) (fL (xP (eV 2)) jV)))) 0 (Ef (rO (eJ true) (OB.rP (eV 0)) (u7 0 wW))) (eV 0) [none,some 0]))
 (bT (Kl 0 (fun b=>b.2.1) D4 (eV 2))
 (bT (CI 0 (fun b=>b.2.2) Ed (aY iE (aD (eV 3) aG)))
 (eU (xP (eV 3))))))
def jX:GM W3:=kH 0 4 BI
def lO:List D->Option W3
 | [f,c]=>(lP [f,c]).bind fun d=>match d with
  | .list b=>(nD b).bind fun a=>if a.Nodup/\a.length<=1000 then some (f,[c],a)else none
  | _=>none
 | _=>none
theorem rZ{B:Type}:∀(ρ:aA) (Ω:List B) (x:List D × List B),jV ρ Ω=some x->x.1.length=0:=fun _ _ _ h=>by cases h;rfl
theorem jW{B:Type}{n:Nat}{a:GX B D}{gr:GX B (List D)}(h:∀(ρ:aA) (Ω:List B) (x:List D × List B),gr ρ Ω=some x->x.1.length=n):∀(ρ:aA) (Ω:List B) (x:List D × List B),fL a gr ρ Ω=some x->x.1.length=n+1:=fun ρ Ω x q=>by
 obtain⟨y,_,q⟩:=aF q;obtain⟨z,e,q⟩:=aF q;cases q;rw [Qt,h _ _ _ e]
theorem Pj(v:V):dO "known" v []=[(("known":Str),v)]:=rfl
theorem Pk(v a:V):dO "floor" a [(("known":Str),v)]=[(("known":Str),v),("floor",a)]:=by
 unfold dO;rw [if_neg (by decide)];unfold dO;rfl
theorem Pl(a:YP)(b:V)(c:YP):dO "path" (.ref c) [(("known":Str),.ref a),("floor",b)]=lM a b c:=by
 unfold dO;rw [if_neg (by decide)];unfold dO;rw [if_neg (by decide)];unfold dO;rfl
section
variable {P:J5}{w:J6}{K:PySem.W.Frag}{mg:Str->Option JZ}{base:Heap}{a:Nat->YP}{d:Nat->Zh}{ta:Nat->YP}{C:YP}(T:mT K mg a d w ta)(B:qX K mg C)
include T B
theorem Wp(F:gB K "where" "Walker.where" wV f fd):aK P w K mg base aM 1 f fd ["self"] (eE (wK K C) 1 jY):=by
 refine rA (k:=wK K C) (j:=0) (g:=KC) (G:=jY) (N:=pF) (kk:=0) rfl rfl rfl F zSY fun b A a s H E c=>?_;exact fQ (iO (zS5 (Pp bK (Kf (i:=0) (j:=0) (by decide) B.cl B.nP Pn) (Kg (vQ wO aQ)))))
theorem Wo(F:gB K "walked" "Walker.walked" wU f fd):aK P w K mg base aM 1 f fd ["self"] (eE (wK K C) 1 pJ):=by
 refine rA (k:=wK K C) (j:=0) (g:=KB) (G:=pJ) (N:=pF) (kk:=0) rfl rfl rfl F zSX fun b A a s H E c=>?_;exact fQ (iO (zS6 (i:=0) (j:=0) (by decide) B.cl B.nP rfl (Zi rfl) (by decide) (by decide) rfl KA rfl T.z_list rfl rfl))
theorem Wm(F:gB K "knows" "Walker.knows" wT f fd):aK P w K mg base aM 1 f fd ["self"] (eE (wK K C) 1 jH):=by
 refine rA (k:=wK K C) (j:=0) (g:=Kz) (G:=jH) (N:=pF) (kk:=0) rfl rfl rfl F zSW fun c A a s H E b=>?_;exact fQ (iO (zS7 (i:=0) (j:=0) (by decide) B.cl B.nK rfl (Zi rfl) (by decide) (by decide) rfl Kv rfl (nB b) rfl T.z_sorted rfl T.z_list rfl rfl rfl rfl))
theorem Wn{p:YP}{r:Zh}(t:mL K C "where" p)(v:L2.Binds K r ["self"] [])(x:aK P w K mg base aM 1 p r ["self"] (eE (wK K C) 1 jY))
  (h:aK P w K mg base aM 6 (a 24) (d 24) ["floor","cell","word"] (aW K 3 sU)) (l:aK P w K mg base aM 7 (a 26) (d 26) ["floor","cell"] (aW K 2 lP)) (e:aK P w K mg base aM 1 (a 2) (d 2) ["things"] (aW K 1 iE))
  {f:YP}{q:Zh} (F:gB K "step" "Walker.step" sY f q):aK P w K mg base aM 8 f q ["self","word"] (eE (wK K C) 2 jX):=by
 refine rA (k:=wK K C) (j:=0) (g:=BI) (G:=jX) (N:=Bh) (kk:=7) rfl rfl rfl F B9 fun u A o s H E c=>?_
 exact cS (hO (i:=2) B9.nd (by decide) (tE h (c.mono (by decide)) rfl T.F_qm.m T.F_qm.F.kp T.F_qm.b (iU (KI (i:=0) (j:=0) (by decide) B.cl B.nF Ee) (iU (n6 (i:=0) (j:=0) (by decide) B.cl t (fun _ _ _ _=>⟨rfl,rfl⟩) x (c.mono (by decide)) v) (iU (dM (aC 1)) pW))) (jW (jW (jW rZ)))))
  (cS (CH (τ':=[(1,0)]) (n:=0) (i:=3) B9.nd (by decide) rfl (fF (N':=Fv) (inner:=[none,some 0]) (aS sY) Bh rfl rfl (by decide +kernel)) (by decide)
    (KO (tE l c rfl T.F_qf.m T.F_qf.F.kp T.F_qf.b (iU (KI (i:=0) (j:=0) (by decide) B.cl B.nF Ee) (iU (dM (aC 2)) pW)) (jW (jW rZ))))
    (fun _ _ _ _ _=>nU W4 rfl (Zi rfl)) (fun _ _ _ _ _=>zTe (Cv (eF c)) (Kg (aC 0)) (Kf (i:=1) (j:=0) (by decide) B.cl B.nK Pm) (by with_unfolding_all rfl)) (fun _ _ _ _ _=>aC 0))
  (cS (zS9 (i:=0) (j:=0) (by decide) B.cl B.nP rfl (by first | exact Zi rfl | exact Zd (Zi rfl)) (by decide) (by decide) rfl KA Ph (aC 2) rfl rfl rfl rfl rfl rfl)
  (cS (zTc (i:=0) (j:=0) (by decide) B.cl B.nK rfl (by first | exact Zi rfl | exact Zd (Zi rfl)) (by decide) (by decide) rfl (eF c) Kv Po (bZ T.F_qp e c rfl (aH (aC 3) aN rfl) fO) rfl rfl rfl rfl rfl rfl)
  (fQ (iO (dM (aC 3)))))))
end
end My
namespace My
open PySem.Spec PySem.SeqAt L2 CL DL OB SD ZL SL EL DC KP ST TX TB EX
section
variable {P:J5}{w:J6}{K:PySem.W.Frag}{mg:Str->Option JZ}{base:Heap}{a:Nat->YP}{d:Nat->Zh}{ta:Nat->YP}{C:YP}(T:mT K mg a d w ta)(B:qX K mg C)
include T B
theorem Wl(i:aK P w K mg base aM 1 (a 2) (d 2) ["things"] (Ib K))(W:aK P w K mg base aM 7 (a 26) (d 26) ["floor","cell"] (aW K 2 lP))(F:gB K "__init__" "Walker.__init__" wS f fd):aK P w K mg base aM 8 f fd ["self","floor","cell"] (rW (wK K C) C 2 lO):=by
 refine F.ok zSV (fun vs H Q E h=>?_) (fun a9 A Y s H vs Q E hr h=>?_)
 ·obtain⟨F,x,g,us,ds,b,rfl,v,_,_,_,r,_⟩:=h;rw [Qt,<- r.length,v];rfl
 obtain⟨F,x,g,us,ds,b,rfl,v,z,hx,nx,r,q,c⟩:=h;unfold lO at q
 split at q
 ·rename_i fl cl;obtain⟨dl,e1,q⟩:=aF q
  split at q
  ·rename_i cs;obtain⟨ks,e2,q⟩:=aF q;by_cases G:ks.Nodup/\ks.length<=1000
   ·rw [if_pos G]at q;cases q
    cases r with
    | @cons _ vf _ _ rf t=>
    cases t with
    | @cons _ vc _ _ rc t=>
     cases t
     refine⟨_,xE (BK (pv 0) (tY i (hr.mono (by decide)) rfl T.F_qp.m T.F_qp.F.kp T.F_qp.b .nil l7 (fS (tY W hr rfl T.F_qf.m T.F_qf.F.kp T.F_qf.b .nil l7 (fS (pv 1) (fS (pv 2) hE))) hE)) rfl) (xE (BK (pv 0) (pv 1) rfl) (xF (BK (pv 0) (CD (fS (pv 2) hE)) rfl))),?_⟩
     refine⟨_,rfl,_,rfl,F,[fl,cl],_,rfl,z,.cons rf (.cons rc .nil),e1,fun F2 H2 vl E2 R2=>?_⟩
     refine⟨F2,cs,ks,E2.fz z,.cons R2 .nil,e2,G.1,G.2,fun e H3 p l k E3 hp v hk=>?_⟩
     have E13:=E2.trans E3;have K3:cU K (fun a=>a=x) F e H H3:=cU.ext z E13;have a3:=E13.same _ _ hx;have E4:aI e e H3 (aJ H3 p (bI p (cX l) k)):=aI.fresh hp;have N:aJ H3 p (bI p (cX l) k) p=some (bI p (cX l) k):=cP;have o:=E4.same _ _ a3;have a7:=fun q hq=>(E4.stay (K:=K)).tp _ _ (hk q hq);have K4:cU K (fun a=>a=x) e e H3 (aJ H3 p (bI p (cX l) k)):=cU.ext K3.fz E4;have np:H p=none:=K3.lv p hp;have Z:¬ e p:=fun R=>K3.fz p R hp;generalize aJ H3 p (bI p (cX l) k)=U at *;have X:p≠x:=qK N o (by intro w;cases w)
     have j:¬ e x:=fun R=>(E13.new x R).elim nx fun w=>by rw [hx]at w;cases w.1
     refine⟨_,rfl,x,C,g,[],rfl,o,B.cl,B.nK,(by decide),?_⟩
     rw [Pj];have K5:cU K (fun a=>a=x) e e U (aJ U x (.ins C g [(("known":Str),.ref p)])):=nI K4.fz o qL.1 qL.2 j rfl;have M:aJ U x (.ins C g [(("known":Str),.ref p)]) x=some (.ins C g [(("known":Str),.ref p)]):=cP
     have a6:aJ U x (.ins C g [(("known":Str),.ref p)]) p=some (bI p (cX l) k):=by rw [aU X];exact N
     generalize aJ U x (.ins C g [(("known":Str),.ref p)])=S at *
     refine⟨_,rfl,_,rfl,x,C,g,_,rfl,M,B.cl,B.nF,(show 1<1000 by decide),?_⟩
     rw [Pk];have K6:cU K (fun a=>a=x) e e S (aJ S x (.ins C g [(("known":Str),.ref p),("floor",vf)])):=nI K5.fz M qL.1 qL.2 j rfl;have a2:aJ S x (.ins C g [(("known":Str),.ref p),("floor",vf)]) x=some (.ins C g [(("known":Str),.ref p),("floor",vf)]):=cP
     have a5:aJ S x (.ins C g [(("known":Str),.ref p),("floor",vf)]) p=some (bI p (cX l) k):=by rw [aU X];exact a6
     generalize aJ S x (.ins C g [(("known":Str),.ref p),("floor",vf)])=I at *
     refine⟨_,rfl,fJ (by show 1<=1000;decide),fun pc u=>?_⟩
     have E7:aI e e I (aJ I pc (.lst [vc])):=aI.fresh u;have K7:cU K (fun a=>a=x) e e I (aJ I pc (.lst [vc])):=cU.ext K6.fz E7;have n:=E7.same _ _ a2;have a4:=E7.same _ _ a5;have O:aJ I pc (.lst [vc]) pc=some (.lst [vc]):=cP;have a0:¬ e pc:=fun R=>K6.fz pc R u;have lc:H pc=none:=K3.lv pc (K4.lv pc (K5.lv pc (K6.lv pc u)));generalize aJ I pc (.lst [vc])=H7 at *;have xc:pc≠x:=qK O n (by intro w;cases w)
     refine⟨_,rfl,x,C,g,_,rfl,n,B.cl,B.nP,(show 2<1000 by decide),?_⟩
     rw [Pl];have K8:cU K (fun a=>a=x) e e H7 (aJ H7 x (.ins C g (lM p vf pc))):=nI K7.fz n qL.1 qL.2 j rfl;have J:∀ y:YP,y=x->∀ H:Hp,y=x ∨ H y=none:=fun y h _=>.inl h;have a8:=K7.trans K8 fun x h=>J x h _;have K58:=K5.trans (K6.trans a8 fun x h=>J x h _) fun x h=>J x h _;have K38:=K3.trans (K4.trans K58 fun x h=>J x h _) fun x h=>J x h _;refine c e _ (fun y=>y=x ∨ y=p ∨ y=pc) K38 (fun y h=>?_) ⟨p,pc,g,vf,[vc],l,k,⟨cP,rf.stay K38.st,by rw [aU xc];exact O,.cons (rc.stay K38.st) .nil,⟨by rw [aU X];exact a4,fun q hq=>K58.st.tp _ _ (a7 q hq),by rw [v];exact G.1,by rw [<- Qo (f:=(·.1)),v];exact G.2⟩,v,j,Z,a0⟩,fun _=>Iff.rfl⟩;rcases h with rfl | rfl | rfl
     ·exact .inl rfl
     ·exact .inr np
     ·exact .inr lc
   ·rw [if_neg G]at q;cases q
  ·cases q
 ·cases q
end
end My
namespace My
open PySem.Spec PySem.SeqAt L2 CL DL OB SD ZL SL EL DC KP ST TX TB EX MN
theorem GO(h:rK ρ=some ds):ds.length=0:=by cases h;rfl
theorem GN(h:∀ ρ ds,gr ρ=some ds->ds.length=n):∀(ρ:aA) (ds:List (Option D)),rJ ga gr ρ=some ds->ds.length=n+1:=fun ρ ds q=>by
 obtain⟨x,_,q⟩:=aF q;obtain⟨a,e,q⟩:=aF q;cases q;rw [Qt,h ρ a e]
theorem GP(h:∀ ρ ds,gr ρ=some ds->ds.length=n):∀(ρ:aA) (ds:List (Option D)),rL gr ρ=some ds->ds.length=n+1:=fun ρ ds q=>by
 obtain⟨a,e,q⟩:=aF q;cases q;rw [Qt,h ρ a e]
structure Fm(K:PySem.W.Frag)(C:YP)(n q:Str)(st:Zv)(ps:List Str)(a:YP)(d:Zh):Prop where
 F:gB K n q st a d
 m:mL K C n a
 b:L2.Binds K d ps []
structure zK(K:PySem.W.Frag)(C:YP)(b:Nat->YP)(e:Nat->Zh):Prop where
 M:Mk K C (b 0)
 Fi:gB K "__init__" "Walker.__init__" wS (b 0) (e 0)
 bi:L2.Binds K (e 0) ["self","floor","cell"] []
 step:Fm K C "step" "Walker.step" sY ["self","word"] (b 1) (e 1)
 «where»:Fm K C "where" "Walker.where" wV ["self"] (b 2) (e 2)
 walked:Fm K C "walked" "Walker.walked" wU ["self"] (b 3) (e 3)
 knows:Fm K C "knows" "Walker.knows" wT ["self"] (b 4) (e 4)
def uK:List Str:=["floor","walker","known","ground","ways","goals"]
theorem t8:bU uK ["floor","walker"] (aS rS):=cN rfl (by decide +kernel)
def Ff:List Str:=["cell","known"]
theorem WU:Ff.Nodup:=by decide +kernel
def Fg:List Str:=["cell","ways","floor","known"]
theorem WV:Fg.Nodup:=by decide +kernel
def AC:GS W3:=
  (bT (dH 2 (mH iE (fL (eX 0 jH aG) jV)))
  (bT (dH 3 (xP (aY iE (aD (c4 (c5 (cV (aY oC (aD (eV 0) aG))) (bG 0) (eB (aE (eJ false) (eV 0) (eV 1))) (eV 0) [none,some 2])) aG))))
  (bT (dH 4 (mH sV (fL (xP (eV 3)) (fL (eX 0 jY aG) jV))))
  (bT (dH 5 (kA (xP (uW (eV 4))) 0 (xP (eB (aY sP (aD (eV 2) (aD (eV 3) (aD (eV 0) aG)))))) (bV (aD (aY wH (aD (aE q8 (eV 1) (eV 0)) aG)) (aD (eV 0) aG))) [none,some 4,some 0,some 2]))
  (bT (gZ (xP (eB (aE fN (eV 5) (dG aG)))) (eU (xP (eC .none))) jM)
  (eU (xP (aE q8 (eV 4) (aE aR (aY sD (aD (eV 5) aG)) (eC (.int 1)))))))))))
def lN:GM W3:=kH 1 6 AC
def Da:List Str:=["floor","cell","walker","way","ahead","word"]
theorem n4:bU Da ["floor","cell"] (aS An):=cN rfl (by decide +kernel)
def AB:GS W3:=
  (bT (r0 2 0 lO (aD (eV 0) (aD (eV 1) aG)))
  (bT (dH 3 (xP (eC (.str ""))))
  (bT (dH 4 (oZ 0 lN (rJ (eV 0) (rL rK))))
  (bT (n8 (xP (eB (aE wI (eV 4) (eC .none)))) (bT (o6 (oQ (eV 4)) 5 (mJ (eX 0 jX (aD (eV 5) aG))))
  (bT (dH 3 (xP (aE j2 (eV 3) (eV 4))))
  (dH 4 (oZ 0 lN (rJ (eV 0) (rL rK)))))) 100)
  (eU (vN (fL (xP (eV 3)) (fL (eX 0 jH aG) jV))))))))
def pD:List D->Option D:=oP 6 AB
def oH:List Str:=["_law_script","_law_floor_here","_law_cells_here","_law_here","_law_words","_law_known","_law_walker","_law_word","_law_reached_here","_law_x","_law_y","_law_near","_law_again"]
theorem hF:bU oH ["_law_script"] (aS m9):=cN rfl (by decide +kernel)
def Fl:List Str:=["_law_cell_here","_law_floor_here"]
theorem WZ:Fl.Nodup:=by decide +kernel
def Fn:List Str:=["_law_cell_here","_law_known"]
theorem W0:Fn.Nodup:=by decide +kernel
def Fp:List Str:=["_law_cell_here","_law_reached_here"]
theorem W1:Fp.Nodup:=by decide +kernel
def Fq:List Str:=["_law_cell_here","_law_again"]
theorem W2:Fq.Nodup:=by decide +kernel
def rC:GS W3:=
  (bT (dH 1 (xP (aY o7 (aD (eV 0) (aD (eC (.int 0)) (aD (eC (.int 5)) aG))))))
  (bT (dH 2 (xP (aY kY (aD (eV 1) aG))))
  (bT (gZ (xP (eB (aE fN (eV 2) (dG aG)))) (eU (xP (eC (.bool true)))) jM)
  (bT (dH 3 (xP (aE aR (eV 2) (aY iD (aD (eV 0) (aD (eC (.int 61)) (aD (aY i9 (aD (eV 2) aG)) aG)))))))
  (bT (vO (xP (aY pD (aD (eV 1) (aD (eV 3) aG)))) (gY 2 (dC (bG 4) (dC (bG 5) gK))))
  (bT (r0 6 0 lO (aD (eV 1) (aD (eV 3) aG)))
  (bT (o6 (oQ (eV 4)) 7 (mJ (eX 0 jX (aD (eV 7) aG))))
  (bT (gZ (xB (o3 eQ (eX 0 jH aG) (xP (eV 5)))) (eU (xP (eC (.bool false)))) jM)
  (bT (dH 8 (xP (aY sM (aD (eV 1) (aD (eV 3) aG)))))
  (bT (yU (xP (cV (eV 8))) (gY 2 (dC (bG 9) (dC (bG 10) gK))) (bT (gZ (xP (eB (aE (dF true) (bV (aD (eV 9) (aD (eV 10) aG))) (eV 5)))) (eU (xP (eC (.bool false)))) jM)
  (bT (dH 11 (xP (dG (aD (bV (aD (eV 9) (aD (aE iR (eV 10) (eC (.int 1))) aG))) (aD (bV (aD (aE bX (eV 9) (eC (.int 1))) (aD (eV 10) aG))) (aD (bV (aD (eV 9) (aD (aE bX (eV 10) (eC (.int 1))) aG))) (aD (bV (aD (aE iR (eV 9) (eC (.int 1))) (aD (eV 10) aG))) aG)))))))
  (bT (dH 11 (kA (xP (cV (eV 11))) 0 (xP (fW (eB (g7 gU gW (eC (.int 0)) (aE aR (eV 0) (eC (.int 0))) (aE aR (eV 1) (eC (.int 0))))) (eB (g7 gU gW (eC (.int 0)) (aE aR (eV 0) (eC (.int 1))) (aE aR (eV 1) (eC (.int 1))))))) (eV 0) [none,some 1]))
  (gZ (xP (eB (aE eQ (c4 (c5 (cV (eV 11)) (bG 0) (eB (aE (dF true) (eV 0) (eV 1))) (eV 0) [none,some 5])) (dG aG)))) (eU (xP (eC (.bool false)))) jM)))))
  (bT (gZ (xB (o3 eQ (kA (rY (eX 0 pJ aG)) 0 (xP (eB (aE (dF true) (eV 0) (eV 1)))) (eV 0) [none,some 8]) (xP (dG aG)))) (eU (xP (eC (.bool false)))) jM)
  (bT (dH 12 (mH pD (fL (xP (eV 1)) (fL (eX 0 jY aG) jV))))
  (eU (xP (aE fN (c4 (c5 (cV (eV 8)) (bG 0) (eB (aE (dF true) (eV 0) (aE aR (eV 1) (eC (.int 1))))) (eV 0) [none,some 12])) (dG aG))))))))))))))))
def k6:List D->Option D:=oP 13 rC
section
variable {P:J5}{w:J6}{K:PySem.W.Frag}{mg:Str->Option JZ}{base:Heap}{a:Nat->YP}{d:Nat->Zh}{ta:Nat->YP}{C:YP}{b:Nat->YP}{e:Nat->Zh}(T:mT K mg a d w ta)(B:qX K mg C)(M:zK K C b e)
include T B M
theorem NG(l:aK P w K mg base aM 1 (a 2) (d 2) ["things"] (aW K 1 iE))(o:aK P w K mg base aM 3 (a 16) (d 16) ["ground","start"] (aW K 2 sV))(q:aK P w K mg base aM 4 (a 20) (d 20) ["floor","known","cell"] (aW K 3 sP))(p:aK P w K mg base aM 2 (a 9) (d 9) ["floor"] (aW K 1 oC))(f:aK P w K mg base aM 1 (b 4) (e 4) ["self"] (eE (wK K C) 1 jH))(c:aK P w K mg base aM 1 (b 2) (e 2) ["self"] (eE (wK K C) 1 jY)):aK P w K mg base aM 5 (a 22) (d 22) ["floor","walker"] (eE (wK K C) 2 lN):=by
 refine rA (k:=(wK K C)) (j:=1) (g:=AC) (G:=lN) (N:=uK) (kk:=4) rfl rfl rfl T.F_qc.F t8 fun t A r s H E h=>?_
 exact(cS (hO (i:=2) t8.nd (by decide) (tE l (h.mono (by decide)) rfl T.F_qp.m T.F_qp.F.kp T.F_qp.b (iU (n6 (i:=1) (j:=0) (by decide) B.cl M.knows.m (fun _ _ _ _=>⟨rfl,rfl⟩) f (h.mono (by decide)) M.knows.b) pW) (jW rZ)))
  (cS (hO (i:=3) t8.nd (by decide) (dM (bZ T.F_qp l h rfl (aH (iG rfl (fF (N':=Ff) (inner:=[none,some 2]) (aS rS) uK rfl rfl (by decide +kernel)) (g8 0) (gN (bZ T.F_q8 p h rfl (aH (aC 0) aN rfl) fO)) (fun _ _ _ _ _=>(dA (i:=0) WU)) (fun _ _ _ _ _=>(lV (cQ (tV (eF h)) (aC 0) (aC 1) (by with_unfolding_all rfl)))) (fun _ _ _ _ _=>(aC 0))) aN rfl) fO)))
  (cS (hO (i:=4) t8.nd (by decide) (tE o (h.mono (by decide)) rfl T.F_qd.m T.F_qd.F.kp T.F_qd.b (iU (dM (aC 3)) (iU (n6 (i:=1) (j:=0) (by decide) B.cl M.«where».m (fun _ _ _ _=>⟨rfl,rfl⟩) c (h.mono (by decide)) M.«where».b) pW)) (jW (jW rZ))))
  (cS (CH (i:=5) t8.nd (by decide) (τ':=[]) (n:=0) rfl (fF (N':=Fg) (inner:=[none,some 4,some 0,some 2]) (aS rS) uK rfl rfl (by decide +kernel)) (by decide) (BJ (SY (aC 4))) (fun _ _ _ _ _=>nU WV rfl (Zi rfl)) (fun _ _ _ _ _=>(mI (lU (bZ T.F_q0 q h rfl (aH (aC 2) (aH (aC 3) (aH (aC 0) aN rfl) rfl) rfl) kK)))) (fun _ _ _ _ _=>(eK (aH (j3 Px rfl T.z_len PySem.boot_len (aH (bL (DD (eF h)) (aC 1) (aC 0)) aN rfl)) (aH (aC 0) aN rfl) rfl))))
  (cS (pX (mI (cQ (tT (gJ h)) (aC 5) (@gM _ _ _ _ aN) (eW _))) (fQ (iO (dM Ep))) pY)
  (fQ (iO (dM (bL (DD (eF h)) (aC 4) (bL bK (j3 (Py rfl (nB h)) rfl T.z_min PyProof.Rows.boot_min (aH (aC 5) aN rfl)) aQ))))))))))
theorem NS (c:aK P w K mg base aM 1 (b 4) (e 4) ["self"] (eE (wK K C) 1 jH))(f:aK P w K mg base aM 8 (b 1) (e 1) ["self","word"] (eE (wK K C) 2 jX))(l:aK P w K mg base aM 8 (b 0) (e 0) ["self","floor","cell"] (rW (wK K C) C 2 lO))(o:aK P w K mg base aM 5 (a 22) (d 22) ["floor","walker"] (eE (wK K C) 2 lN)):aK P w K mg base aM 10 (a 25) (d 25) ["floor","cell"] (aW K 2 pD):=by
 refine Dv (k:=(wK K C)) (τ:=[(2,0)]) (g:=AB) (G:=pD) (N:=Da) (kk:=9) rfl rfl rfl T.F_qo.F n4 fun r A q s H E p=>?_
 exact(cS (Kj (i:=2) (n:=0) n4.nd (by decide) M.M l (p.mono (by decide)) rfl B.mC M.bi (aH (aC 0) (aH (aC 1) aN rfl) rfl) ln2)
  (cS (hO (i:=3) n4.nd (by decide) (dM Gj))
  (cS (hO (i:=4) n4.nd (by decide) (KJ (j:=0) o (p.mono (by decide)) rfl T.F_qc.m T.F_qc.F.kp T.F_qc.b (KQ (aC 0) (KS (i:=2) (by decide) KR)) (GN (GP (fun _ _ h=>GO h)))))
  (cS (zTd 100 Yr (mI (cQ WB (aC 4) Ep (eW _))) (cS (Ki (i:=5) Yr rfl n4.nd (by decide) (Gn (aC 4)) (fQ (Kh (KL (i:=2) (j:=0) (by decide) B.cl M.step.m (fun _ _ _ _=>⟨rfl,rfl⟩) f (p.mono (by decide)) M.step.b (aH (aC 5) aN rfl) fO))))
  (cS (hO (i:=3) n4.nd (by decide) (dM (bE GU (aC 3) (aC 4))))
  (fQ (hO (i:=4) n4.nd (by decide) (KJ (j:=0) o (p.mono (by decide)) rfl T.F_qc.m T.F_qc.F.kp T.F_qc.b (KQ (aC 0) (KS (i:=2) (by decide) KR)) (GN (GP (fun _ _ h=>GO h)))))))))
  (fQ (iO (zS8 (iU (dM (aC 3)) (iU (n6 (i:=2) (j:=0) (by decide) B.cl M.knows.m (fun _ _ _ _=>⟨rfl,rfl⟩) c (p.mono (by decide)) M.knows.b) pW)))))))))
theorem NV(u:aK P w K mg base aM 3 (a 17) (d 17) ["_law_script","_law_at","_law_most"] (aW K 3 o7))(r:aK P w K mg base aM 2 (a 14) (d 14) ["_law_floor_here"] (aW K 1 kY))(q:aK P w K mg base aM 10 (a 25) (d 25) ["floor","cell"] (aW K 2 pD))(v:aK P w K mg base aM 3 (a 18) (d 18) ["_law_floor_here","_law_cell_here"] (aW K 2 sM))(t:aK P w K mg base aM 2 (a 13) (d 13) ["_law_script","_law_k","_law_many"] (aW K 3 iD))(l:aK P w K mg base aM 1 (b 4) (e 4) ["self"] (eE (wK K C) 1 jH))(o:aK P w K mg base aM 8 (b 1) (e 1) ["self","word"] (eE (wK K C) 2 jX))(f:aK P w K mg base aM 1 (b 3) (e 3) ["self"] (eE (wK K C) 1 pJ))(h:aK P w K mg base aM 1 (b 2) (e 2) ["self"] (eE (wK K C) 1 jY))(p:aK P w K mg base aM 8 (b 0) (e 0) ["self","floor","cell"] (rW (wK K C) C 2 lO)):aK P w K mg base aM 11 (a 27) (d 27) ["_law_script"] (aW K 1 k6):=by
 refine Dv (k:=(wK K C)) (τ:=[(6,0)]) (g:=rC) (G:=k6) (N:=oH) (kk:=10) rfl rfl rfl T.F_qr.F hF fun y A x s H E c=>?_
 exact(cS (hO (i:=1) hF.nd (by decide) (dM (bZ T.F_q7 u c rfl (aH (aC 0) (aH aQ (aH aQ aN rfl) rfl) rfl) kK)))
  (cS (hO (i:=2) hF.nd (by decide) (dM (bZ T.F_qh r c rfl (aH (aC 1) aN rfl) fO)))
  (cS (pX (mI (cQ (tT (gJ c)) (aC 2) (@gM _ _ _ _ aN) (eW _))) (fQ (iO (dM iX))) pY)
  (cS (hO (i:=3) hF.nd (by decide) (dM (bL bK (aC 2) (bZ T.F_q9 t c rfl (aH (aC 0) (aH aQ (aH (j3 wA rfl T.z_len PySem.boot_len (aH (aC 2) aN rfl)) aN rfl) rfl) rfl) kK))))
  (cS (zTa (dM (bZ T.F_qo q c rfl (aH (aC 1) (aH (aC 3) aN rfl) rfl) ln2)) (KM rfl (yT (yS (i:=4) hF.nd (by decide)) (yT (yS (i:=5) hF.nd (by decide)) KN))))
  (cS (Kj (i:=6) (n:=0) hF.nd (by decide) M.M p (c.mono (by decide)) rfl B.mC M.bi (aH (aC 1) (aH (aC 3) aN rfl) rfl) ln2)
  (cS (Ki (i:=7) Yr rfl hF.nd (by decide) (Gn (aC 4)) (fQ (Kh (KL (i:=6) (j:=0) (by decide) B.cl M.step.m (fun _ _ _ _=>⟨rfl,rfl⟩) o (c.mono (by decide)) M.step.b (aH (aC 7) aN rfl) fO))))
  (cS (pX (Kk (l4 (gJ c)) (n6 (i:=6) (j:=0) (by decide) B.cl M.knows.m (fun _ _ _ _=>⟨rfl,rfl⟩) l (c.mono (by decide)) M.knows.b) (dM (aC 5)) (eW _)) (fQ (iO (dM iX))) pY)
  (cS (hO (i:=8) hF.nd (by decide) (dM (bZ T.F_q5 v c rfl (aH (aC 1) (aH (aC 3) aN rfl) rfl) ln2)))
  (cS (zTb Yr rfl (BJ (gN (aC 8))) (KM rfl (yT (yS (i:=9) hF.nd (by decide)) (yT (yS (i:=10) hF.nd (by decide)) KN))) (cS (pX (mI (cQ (l5 (eF c)) (eK (aH (aC 9) (aH (aC 10) aN rfl) rfl)) (aC 5) (by with_unfolding_all rfl))) (fQ (iO (dM iX))) pY)
  (cS (hO (i:=11) hF.nd (by decide) (dM (@gM _ _ _ _ (aH (eK (aH (aC 9) (aH (bE qP (aC 10) aQ) aN rfl) rfl)) (aH (eK (aH (bE dB (aC 9) aQ) (aH (aC 10) aN rfl) rfl)) (aH (eK (aH (aC 9) (aH (bE dB (aC 10) aQ) aN rfl) rfl)) (aH (eK (aH (bE qP (aC 9) aQ) (aH (aC 10) aN rfl) rfl)) aN rfl) rfl) rfl) rfl))))
  (cS (CH (i:=11) hF.nd (by decide) (τ':=[]) (n:=0) rfl (fF (N':=Fl) (inner:=[none,some 1]) (aS m9) oH rfl rfl (by decide +kernel)) (by decide) (BJ (gN (aC 11))) (fun _ _ _ _ _=>nU WZ rfl (Zi rfl)) (fun _ _ _ _ _=>(mI (mW (vW (Gx qN qO aQ (bL bK (aC 0) aQ) (bL bK (aC 1) aQ)) (vX (Gx qN qO aQ (bL bK (aC 0) aQ) (bL bK (aC 1) aQ))))))) (fun _ _ _ _ _=>(aC 0)))
  (fQ (pX (mI (cQ (l4 (gJ c)) (iG rfl (fF (N':=Fn) (inner:=[none,some 5]) (aS m9) oH rfl rfl (by decide +kernel)) (g8 0) (gN (aC 11)) (fun _ _ _ _ _=>(dA (i:=0) W0)) (fun _ _ _ _ _=>(lV (cQ (l5 (eF c)) (aC 0) (aC 1) (by with_unfolding_all rfl)))) (fun _ _ _ _ _=>(aC 0))) (@gM _ _ _ _ aN) (eW _))) (fQ (iO (dM iX))) pY))))))
  (cS (pX (Kk (l4 (gJ c)) (zS4 (τ':=[]) (n:=0) rfl (fF (N':=Fp) (inner:=[none,some 8]) (aS m9) oH rfl rfl (by decide +kernel)) (by decide) (KO (n6 (i:=6) (j:=0) (by decide) B.cl M.walked.m (fun _ _ _ _=>⟨rfl,rfl⟩) f (c.mono (by decide)) M.walked.b)) (fun _ _ _ _ _=>nU W1 rfl (Zi rfl)) (fun _ _ _ _ _=>(mI (cQ (l5 (eF c)) (aC 0) (aC 1) (by with_unfolding_all rfl)))) (fun _ _ _ _ _=>(aC 0))) (dM (@gM _ _ _ _ aN)) (eW _)) (fQ (iO (dM iX))) pY)
  (cS (hO (i:=12) hF.nd (by decide) (tE q (c.mono (by decide)) rfl T.F_qo.m T.F_qo.F.kp T.F_qo.b (iU (dM (aC 1)) (iU (n6 (i:=6) (j:=0) (by decide) B.cl M.«where».m (fun _ _ _ _=>⟨rfl,rfl⟩) h (c.mono (by decide)) M.«where».b) pW)) (jW (jW rZ))))
  (fQ (iO (dM (Br (tT (gJ c)) (iG rfl (fF (N':=Fq) (inner:=[none,some 12]) (aS m9) oH rfl rfl (by decide +kernel)) (g8 0) (gN (aC 8)) (fun _ _ _ _ _=>(dA (i:=0) W2)) (fun _ _ _ _ _=>(lV (cQ (l5 (eF c)) (aC 0) (bL bK (aC 1) aQ) (by with_unfolding_all rfl)))) (fun _ _ _ _ _=>(aC 0))) (@gM _ _ _ _ aN) (eW _)))))))))))))))))
end
end My
namespace My
open PySem.SeqAt L2 DL SD SL EL DC
abbrev C:=Int × Int
def aB(c:C):D:=.tuple [.int c.1,.int c.2]
theorem VO(ds:List D):jS "tuple" (.tuple ds)=true:=id rfl
theorem VN(ds:List D):jS "list" (.list ds)=true:=id rfl
theorem VL(b:Bool):jS "bool" (.bool b)=true:=id rfl
theorem VM(i:Int):jS "int" (.int i)=true:=id rfl
theorem M1(a:D)(r:List D):aR (.tuple (a::r)) (.int 0)=some a:=by
 show L2.atI (a::r) 0=some a
 unfold L2.atI L2.ixN;rw [if_pos (by lia),if_pos (by rw [Qt];lia)];rfl
theorem uX(a b:D)(r:List D):aR (.tuple (a::b::r)) (.int 1)=some b:=by
 show L2.atI (a::b::r) 1=some b
 unfold L2.atI L2.ixN;rw [if_pos (by lia),if_pos (by rw [Qt,Qt];lia)];rfl
theorem M4(a b c:D)(r:List D):aR (.tuple (a::b::c::r)) (.int 2)=some c:=by
 show L2.atI (a::b::c::r) 2=some c
 unfold L2.atI L2.ixN;rw [if_pos (by lia),if_pos (by rw [Qt,Qt,Qt];lia)];rfl
theorem M2(a:D)(r:List D):aR (.list (a::r)) (.int 0)=some a:=M1 a r
theorem M3(a b:D)(r:List D):aR (.list (a::b::r)) (.int 1)=some b:=uX a b r
theorem M5(a b c:D)(r:List D):aR (.list (a::b::c::r)) (.int 2)=some c:=M4 a b c r
theorem M6(a b c d e:D):aR (.list [a,b,c,d,e]) (.int 3)=some d:=id rfl
theorem M7(a b c d e:D):aR (.list [a,b,c,d,e]) (.int 4)=some e:=id rfl
theorem L1(i j:Int):bX (.int i) (.int j)=some (.int (i+j)):=id rfl
theorem OJ(i j:Int):iR (.int i) (.int j)=some (.int (i-j)):=id rfl
theorem Nj(i j:Int):gW (.int i) (.int j)=some (.bool (decide (i<j))):=id rfl
theorem Na(i j:Int):gU (.int i) (.int j)=some (.bool (decide (i<=j))):=id rfl
theorem MS(i j:Int):uT (.int i) (.int j)=some (.bool (decide (j<i))):=id rfl
theorem MQ(i j:Int):Mw (.int i) (.int j)=some (.bool (decide (j<=i))):=id rfl
theorem MG(i j:Int):fN (.int i) (.int j)=some (.bool (i == j)):=id rfl
theorem No(i j:Int):eQ (.int i) (.int j)=some (.bool (!(i == j))):=id rfl
theorem Np(i:Int):kF (.int i)=some (.int (-i)):=id rfl
theorem L0(i:Int):qY [.int i]=some (.int (if i<0 then -i else i)):=id rfl
theorem HP(l:List D):i9 [.list l]=some (.int l.length):=id rfl
theorem Nc(l:List D):i9 [.tuple l]=some (.int l.length):=id rfl
theorem zSz(l:List D):p3 [.list l]=some (.tuple l):=id rfl
theorem zSA(l:List D):p3 [.tuple l]=some (.tuple l):=id rfl
theorem T4(l:List D):El [.list l]=some (.list l):=id rfl
theorem T5(l:List D):El [.tuple l]=some (.list l):=id rfl
theorem Mn:(false=true)=False:=by simp
theorem Mo:(true=true)=True:=by simp
theorem j7(h:lZ i j=true):cZ (.int i) (.int j)=some (.int (i * j)):=by
 show(if lZ i j=true then _ else _)=_
 rw [if_pos h]
theorem AU(h:qM i j=true):k4 (.int i) (.int j)=some (.int (i / j)):=by
 show(if qM i j=true then _ else _)=_
 rw [if_pos h]
theorem nN(h:0<j):iB (.int i) (.int j)=some (.int (i % j)):=by
 show(if decide (0<j)=true then _ else _)=_
 rw [if_pos (decide_eq_true h)]
theorem lG(b:-18446744073709551616<i)(a:i<18446744073709551616):lZ i j=true:=by
 unfold lZ;rw [decide_eq_true b,decide_eq_true a];rfl
theorem DM(b:-18446744073709551616<j)(a:j<18446744073709551616):lZ i j=true:=by
 unfold lZ;rw [decide_eq_true b,decide_eq_true a];simp
theorem zR(b:0<j)(a:j<1073741824):qM i j=true:=by
 unfold qM;rw [decide_eq_true b,decide_eq_true a];rfl
section
variable {α β:Type}
theorem sB(item:α->D)(p:α->Bool)(f:α->D)(I:aA->Prop):∀{xs:List α}{ρ:aA},I ρ->
  (∀ a∈xs,∀ ρ,I ρ->∃ ρ',s (item a) ρ=some ρ'/\I ρ'/\t ρ'=some (p a)/\(p a=true->ge ρ'=some (f a)))->lR s t ge (xs.map item) ρ=some ((xs.filter p).map f)
 | [],_,_,_=>rfl
 | x::xs,ρ,h0,h=>by
  obtain⟨ρ',i,c,g,e⟩:=h x Qg ρ h0;have b:=sB item p f I c fun y d=>h y (Qf _ d);rw [Qs];unfold lR;rw [i,Qd,g,Qd]
  cases q:p x with
  | true=>rw [if_pos rfl,e q,Qd,b,List.filter_cons_of_pos q];rfl
  | false=>rw [if_neg QB,b,List.filter_cons_of_neg (by rw [q];exact QB)]
theorem HL{gi:aA->Option (List D)}{s:D->aA->Option aA}{t:aA->Option Bool}{ge:aA->Option D}{inner:List (Option Nat)}{ρ:aA}{xs:List α}(item:α->D)(p:α->Bool)(f:α->D)(I:aA->Prop)(c:gi ρ=some (xs.map item))(b:xs.length<=1000)(d:I (gP inner ρ))
  (h:∀ a∈xs,∀ ρ,I ρ->∃ ρ',s (item a) ρ=some ρ'/\I ρ'/\t ρ'=some (p a)/\(p a=true->ge ρ'=some (f a))):c4 (c5 gi s t ge inner) ρ=some (.list ((xs.filter p).map f)):=by
 have q:=sB item p f I d h;unfold c4 c5;rw [c,Qd,q,Qd,if_pos (by rw [Qo];exact QH (Q0 _ _) b)];rfl
theorem iZ{gi:aA->Option (List D)}{s:D->aA->Option aA}{t:aA->Option Bool}{ge:aA->Option D}{inner:List (Option Nat)}{ρ:aA}{xs:List α}{out:List D}(item:α->D)(p:α->Bool)(f:α->D)(I:aA->Prop)(d:gi ρ=some (xs.map item))(c:xs.length<=1000)(e:I (gP inner ρ))
  (h:∀ a∈xs,∀ ρ,I ρ->∃ ρ',s (item a) ρ=some ρ'/\I ρ'/\t ρ'=some (p a)/\(p a=true->ge ρ'=some (f a))) (b:(xs.filter p).map f=out):c4 (c5 gi s t ge inner) ρ=some (.list out):=by
 rw [<- b];exact HL item p f I d c e h
theorem AW(l:List α):l.filter (fun _=>true)=l:=by induction l with
 | nil=>rfl
 | cons a l b=>simp [b]
theorem x5(item:α->D)(env:β->aA)(step:β->α->β)(P:Nat->β->Prop)(n:Nat):∀(xs:List α) (i:Nat) (b:β),i+xs.length<=n->P i b->
  (∀ a∈xs,∀ i b,i<n->P i b->(∃ ρ1,s (item a) (env b)=some ρ1/\g ρ1=some (.nx (env (step b a))))/\P (i+1) (step b a))->fX s g (xs.map item) (env b)=some (.nx (env (xs.foldl step b)))
 | [],_,b,_,_,_=>rfl
 | x::xs,i,b,hi,hp,h=>by
  rw [Qt]at hi;obtain⟨⟨ρ1,f,e⟩,c⟩:=h x Qg i b (by lia) hp;rw [Qs];unfold fX;rw [f,Qd,e,Qd];exact x5 item env step P n xs (i+1) _ (by lia) c fun a d=>h a (Qf _ d)
theorem A3(item:α->D)(I:aA->Prop)(p:α->Bool)(d:D):∀(xs:List α) (ρ:aA),I ρ->
  (∀ a∈xs,∀ ρ,I ρ->∃ ρ1,s (item a) ρ=some ρ1/\if p a=true then g ρ1=some (.rt d)else ∃ ρ2,g ρ1=some (.nx ρ2)/\I ρ2)->
  if xs.any p=true then fX s g (xs.map item) ρ=some (.rt d)else ∃ ρ',fX s g (xs.map item) ρ=some (.nx ρ')/\I ρ'
 | [],ρ,h0,_=>by rw [if_neg (by simp)];exact⟨ρ,rfl,h0⟩
 | x::xs,ρ,h0,h=>by
  obtain⟨ρ1,f,b⟩:=h x Qg ρ h0;rw [Qs,JD];unfold fX;rw [f,Qd]
  cases q:p x with
  | true=>
   rw [q,if_pos rfl]at b;rw [Bool.true_or,if_pos rfl,b];rfl
  | false=>
   rw [q,if_neg QB]at b;obtain⟨ρ2,b,c⟩:=b;rw [Bool.false_or,b,Qd];exact A3 item I p d xs ρ2 c fun a e=>h a (Qf _ e)
end
theorem Il(h:Nat)(a:h<1000):oV [.int h]=some ((Za h).map fun(k:Nat)=>.int (k:Int)):=by
 show(if -4611686018427387904<=(h:Int)/\(h:Int)<4611686018427387904 then some ((Za (h:Int).toNat).map fun(k:Nat)=>J9 (0+(k:Int)))else none)=_
 rw [if_pos ⟨by lia,by lia⟩,JE];congr 2
 funext k
 rw [Int.zero_add]
section
variable {g g1 g2:aA->Option aV}{t u:aA->Option Bool}{ga gb gc:aA->Option D}{gr:aA->Option (List D)}{ρ:aA}{d:D}
theorem Rz:bC g1 g2 ρ=(g1 ρ).bind fun o=>match o with | .nx ρ'=>g2 ρ' | o=>some o:=id rfl
theorem RB:fA ρ=some (.nx ρ):=id rfl
theorem Ry:cH ga ρ=(ga (ρ.map frz)).bind fun d=>some (.rt d):=id rfl
theorem RA(i:Nat):cE i ga ρ=(ga ρ).bind fun d=>some (.nx (ρ.set i (.dat d))):=id rfl
theorem Rx(i:Nat):lK i gr ρ=(gr ρ).bind fun ds=>if ds.length<=1000 then some (.nx (ρ.set i (.own ds)))else none:=id rfl
theorem Ro(i:Nat):rQ i g ρ=g (x6 i ρ):=id rfl
theorem Ma:dV t g1 g2 ρ=(t (ρ.map frz)).bind fun b=>if b=true then g1 ρ else g2 ρ:=id rfl
theorem Rm:pN ga ρ=(ga ρ).bind fun _=>some (.nx ρ):=id rfl
theorem Rg(i:Nat):kN i ga ρ=match ρ[i]? with
 | some (.own ds)=>(ga ρ).bind fun d=>if ds.length<1000 then some (.nx (ρ.set i (.own (ds++[d]))))else none
 | _=>none:=id rfl
theorem Rh(s:D->aA->Option aA):oW ga s ρ=(ga ρ).bind fun d=>(s d ρ).bind fun ρ'=>some (.nx ρ'):=id rfl
theorem Rn(gi:aA->Option (List D))(s:D->aA->Option aA):gX gi s g ρ=(gi ρ).bind fun xs=>fX s g xs ρ:=id rfl
theorem L8(i:Nat):eV i ρ=match ρ[i]? with | some (.dat d)=>some d | _=>none:=id rfl
theorem L6:eC d ρ=some d:=id rfl
theorem Mf(f:D->D->Option D):aE f ga gb ρ=(ga ρ).bind fun x=>(gb ρ).bind fun y=>f x y:=id rfl
theorem Mj(f:D->Option D):lE f ga ρ=(ga ρ).bind f:=id rfl
theorem Ri(G:List D->Option D):aY G gr ρ=(gr ρ).bind G:=id rfl
theorem Rl:aD ga gr ρ=(ga ρ).bind fun x=>(gr ρ).bind fun xs=>some (x::xs):=id rfl
theorem Rt:aG ρ=some []:=id rfl
theorem PF:bV gr ρ=(gr ρ).bind fun xs=>if xs.length<=1000 then some (.tuple xs)else none:=id rfl
theorem Rr:dG gr ρ=(gr ρ).bind fun xs=>if xs.length<=1000 then some (.list xs)else none:=id rfl
theorem L5:eB ga ρ=(ga ρ).bind eY:=id rfl
theorem Ru:lD t ρ=(t ρ).bind fun b=>some (!b):=id rfl
theorem Re:fW t u ρ=(t ρ).bind fun b=>if b=true then u ρ else some false:=id rfl
theorem Mh:mX t u ρ=(t ρ).bind fun b=>if b=true then some true else u ρ:=id rfl
theorem Rf:j4 ga gb ρ=(ga ρ).bind fun x=>(eY x).bind fun c=>if c=true then gb ρ else some (.bool false):=id rfl
theorem Rw:MD ga gb ρ=(ga ρ).bind fun x=>(eY x).bind fun c=>if c=true then some (.bool true)else gb ρ:=id rfl
theorem Rv:AM ga ρ=(ga ρ).bind fun x=>(eY x).bind fun c=>some (.bool (!c)):=id rfl
theorem Rq:uU t ga gb ρ=(t ρ).bind fun b=>if b=true then ga ρ else gb ρ:=id rfl
theorem Mb(T:String):q9 T ga ρ=(ga ρ).bind fun d=>if kT d=true then none else some (.bool (jS T d)):=id rfl
theorem Rj(h h':D->D->Option D):g7 h h' ga gb gc ρ=(ga ρ).bind fun x=>(gb ρ).bind fun y=>(h x y).bind fun z=>(eY z).bind fun k=>if k=true then(gc ρ).bind fun c=>h' y c else some (.bool false):=id rfl
theorem Mc:kL ρ=some none:=id rfl
theorem Me:oE ga ρ=(ga ρ).bind fun d=>(uR d).bind fun i=>some (some i):=id rfl
theorem Mi(a b:aA->Option (Option Int)):kG ga a b ρ=(ga ρ).bind fun d=>(a ρ).bind fun l=>(b ρ).bind fun h=>Dt d l h:=id rfl
theorem Rs(i:Nat):bG i d ρ=some (ρ.set i (.dat d)):=id rfl
theorem PH:gK [] ρ=some ρ:=id rfl
theorem L7:eT ρ=some true:=id rfl
theorem L9(n:Nat)(ds:List D):cM n g ds=match g (cR n ds)with | some (.rt d)=>some d | some (.nx _)=>some .none | _=>none:=id rfl
theorem RC(n:Nat)(ds:List D):cR n ds=ds.map .dat++Z0 (n-ds.length) .no:=id rfl
theorem Sn:frz (.dat d)=.dat d:=id rfl
theorem So:frz .no=.no:=id rfl
theorem RE(ds:List D):frz (.own ds)=.dat (.list ds):=id rfl
theorem Ml(b:Bool):eY (.bool b)=some b:=id rfl
theorem Mm(i:Int):uR (.int i)=some i:=id rfl
theorem OF(l:List D):jF (.list l)=some l:=id rfl
theorem OG(l:List D):jF (.tuple l)=some l:=id rfl
theorem MC(l:List D):kT (.tuple l)=false:=id rfl
theorem MB(l:List D):kT (.list l)=false:=id rfl
theorem Mz(i:Int):kT (.int i)=false:=id rfl
theorem Mx(b:Bool):kT (.bool b)=false:=id rfl
end
section
variable {α β:Type}(a:α)(l m:List α)(n:Nat)(f:α->β)
theorem LF:(a::l)[0]?=some a:=id rfl
theorem LG:(a::l)[n+1]?=l[n]?:=id rfl
theorem LJ:(a::l).map f=f a::l.map f:=id rfl
theorem LK:([]:List α).map f=[]:=id rfl
theorem LH:(a::l).length=l.length+1:=id rfl
theorem LI:([]:List α).length=0:=id rfl
theorem LE:(a::l)++m=a::(l++m):=id rfl
theorem LL:[]++m=m:=id rfl
theorem LO(b:α):(a::l).set 0 b=b::l:=id rfl
theorem LP(b:α):(a::l).set (n+1) b=a::l.set n b:=id rfl
theorem LM:Z0 0 a=[]:=id rfl
theorem LN:Z0 (n+1) a=a::Z0 n a:=id rfl
theorem LT(k:α->Option β):(some a).bind k=k a:=id rfl
end
theorem Pz(c:C):aR (aB c) (.int 0)=some (.int c.1):=id rfl
theorem PB(c:C):aR (aB c) (.int 1)=some (.int c.2):=id rfl
theorem PD(c:C):jS "tuple" (aB c)=true:=id rfl
theorem PC(c:C):kT (aB c)=false:=id rfl
theorem Sq(c:C):i9 [aB c]=some (.int 2):=id rfl
theorem Sr(x y:Int):Ue [.int x,.int y]=aB (x,y):=id rfl
theorem zSL(i j:Nat)(c:C)(ρ:aA):gY 2 (dC (bG i) (dC (bG j) gK)) (aB c) ρ=some ((ρ.set i (.dat (.int c.1))).set j (.dat (.int c.2))):=id rfl
def tM{c:Type}(a:c->Bool)(step:c->c):Nat->c->Option c
 | 0,_=>none
 | n+1,b=>if a b=true then tM a step n (step b)else some b
theorem Kx{d:Type}(env:d->aA)(a:d->Bool)(step:d->d)(P:Nat->d->Prop)(e:∀ n b,P n b->t ((env b).map frz)=some (a b))
  (f:∀ n b,P (n+1) b->a b=true->g (env b)=some (.nx (env (step b)))/\P n (step b)):∀ n b b',P n b->tM a step n b=some b'->i6 t g n (env b)=some (.nx (env b'))
 | 0,_,_,_,h=>by cases h
 | n+1,b,b',p,h=>by
  unfold tM at h;unfold i6;rw [e _ b p,Qd];by_cases c:a b=true
  ·rw [if_pos c]at h ⊢;obtain⟨j,i⟩:=f n b p c;rw [j,Qd];exact Kx env a step P e f n _ b' i h
  ·rw [if_neg c]at h ⊢;cases h;rfl
theorem bP(h:g1 ρ=some (.nx ρ'))(a:g2 ρ'=r):bC g1 g2 ρ=r:=by
 unfold bC;rw [h];exact a
theorem BW(h:g1 ρ=some (.rt d)):bC g1 g2 ρ=some (.rt d):=by
 unfold bC;rw [h];rfl
theorem dQ(h:g (cR n ds)=some (.rt d)):cM n g ds=some d:=by
 unfold cM;rw [h]
theorem n0(b:gi ρ=some xs)(a:fX s g xs ρ=r):gX gi s g ρ=r:=by
 unfold gX;rw [b];exact a
theorem n3(h:t (ρ.map frz)=some b)(c:b=true->g1 ρ=r)(a:b=false->g2 ρ=r):dV t g1 g2 ρ=r:=by
 unfold dV;rw [h]
 cases b with
 | true=>exact c rfl
 | false=>exact a rfl
theorem dS(h:ga (ρ.map frz)=some d):cH ga ρ=some (.rt d):=by
 unfold cH;rw [h];rfl
theorem e9(h:ga ρ=some d):cE i ga ρ=some (.nx (ρ.set i (.dat d))):=by
 unfold cE;rw [h];rfl
theorem bO(h:gr ρ=some ds)(a:G ds=r):aY G gr ρ=r:=by
 unfold aY;rw [h];exact a
theorem Is(d:gr ρ=some [.int (n:Nat)])(b:n<1000)(c:fX s g ((Za n).map fun(k:Nat)=>.int (k:Int)) ρ=r):gX (jK gr) s g ρ=r:=by
 show((gr ρ).bind oV).bind (fun a=>fX s g a ρ)=r
 rw [d,Qd,Il n b,Qd];exact c
theorem Cd{gr:aA->Option (List D)}{ρ:aA}{n:Nat}(b:gr ρ=some [.int (n:Nat)])(a:n<1000):jK gr ρ=some ((Za n).map fun(k:Nat)=>.int (k:Int)):=by
 show(gr ρ).bind oV=_
 rw [b,Qd,Il n a]
theorem oo(c:ga ρ=some x)(b:gb ρ=some y)(a:f x y=r):aE f ga gb ρ=r:=by
 unfold aE;rw [c,Qd,b];exact a
theorem oB(h:ga ρ=some (.bool b)):eB ga ρ=some b:=by
 unfold eB;rw [h];rfl
theorem BU(c:ρ[i]?=some (.own ds))(b:ga ρ=some d)(a:ds.length<1000):kN i ga ρ=some (.nx (ρ.set i (.own (ds++[d])))):=by
 unfold kN;rw [c]
 show(ga ρ).bind _=_
 rw [b,Qd,if_pos a]
theorem XM(h:ga ρ=some d):pN ga ρ=some (.nx ρ):=by
 unfold pN;rw [h];rfl
theorem fR(h:ga ρ=some d)(a:gr ρ=some ds):aD ga gr ρ=some (d::ds):=by
 unfold aD;rw [h,Qd,a];rfl
theorem gR(h:t (ρ.map frz)=some false):dV t g1 fA ρ=some (.nx ρ):=by
 unfold dV;rw [h];rfl
theorem oN(h:t ρ=some b):lD t ρ=some (!b):=by
 unfold lD;rw [h];rfl
theorem u4(h:t ρ=some true)(a:u ρ=r):fW t u ρ=r:=by
 unfold fW;rw [h];exact a
theorem uZ(h:t ρ=some false):fW t u ρ=some false:=by
 unfold fW;rw [h];rfl
theorem FL(h:g (cR n ds)=some (.nx ρ)):cM n g ds=some .none:=by
 unfold cM;rw [h]
theorem DK(h:ga ρ=some (.bool true))(a:gb ρ=r):j4 ga gb ρ=r:=by
 unfold j4;rw [h];exact a
theorem rM(b:ga ρ=some x)(a:gb ρ=some y):bV (aD ga (aD gb aG)) ρ=some (.tuple [x,y]):=by
 unfold bV;rw [fR b (fR a rfl)];rfl
theorem Nt(h:t ρ=some false)(a:u ρ=r):mX t u ρ=r:=by
 unfold mX;rw [h];exact a
theorem XL(h:ga ρ=some d)(a:s d ρ=some ρ'):oW ga s ρ=some (.nx ρ'):=by
 unfold oW;rw [h,Qd,a];rfl
theorem Nr(h:ga ρ=some (.bool false)):j4 ga gb ρ=some (.bool false):=by
 unfold j4;rw [h];rfl
theorem lX(b:ga ρ=some d)(a:jF d=some l):cV ga ρ=some l:=by
 show(ga ρ).bind jF=_
 rw [b,Qd,a]
theorem MV{c:Type}{_:Decidable True}(a b:c):(if True then a else b)=a:=if_pos trivial
theorem MU{c:Type}{_:Decidable False}(a b:c):(if False then a else b)=b:=if_neg id
theorem Rp(i:Nat)(ρ:aA):x6 i ρ=match ρ[i]? with
 | some (.own ds)=>ρ.set i (.dat (.list ds))
 | _=>ρ:=id rfl
def Du:=J1 @MV (J1 @MU (J1 @Rp (J1 @Rz (J1 @RB (J1 @Ry (J1 @RA (J1 @Rx (J1 @Ro (J1 @Ma (J1 @Rm (J1 @Rg (J1 @Rh (J1 @Rn (J1 @L8 (J1 @L6 (J1 @Mf (J1 @Mj (J1 @Ri (J1 @Rl (J1 @Rt (J1 @PF (J1 @Rr (J1 @L5 (J1 @Ru (J1 @Re (J1 @Mh (J1 @Rf (J1 @Rw (J1 @Rv (J1 @Rq (J1 @Mb (J1 @Rj (J1 @Mc (J1 @Me (J1 @Mi (J1 @Rs (J1 @PH (J1 @L7 (J1 @L9 (J1 @RC (J1 @Sn (J1 @So (J1 @RE (J1 @Ml (J1 @Mm (J1 @OF (J1 @OG (J1 @MC (J1 @MB (J1 @Mz (J1 @Mx (J1 @VO (J1 @VN (J1 @VL (J1 @VM (J1 @Pz (J1 @PB (J1 @PD (J1 @PC (J1 @Sq (J1 @Sr (J1 @zSL (J1 @M2 (J1 @M3 (J1 @M5 (J1 @M6 (J1 @M7 (J1 @L1 (J1 @OJ (J1 @Nj (J1 @Na (J1 @MS (J1 @MQ (J1 @MG (J1 @No (J1 @Np (J1 @L0 (J1 @HP (J1 @Nc (J1 @zSz (J1 @zSA (J1 @T4 (J1 @T5 (J1 @Mn (J1 @Mo (J1 @LF (J1 @LG (J1 @LJ (J1 @LK (J1 @LH (J1 @LI (J1 @LE (J1 @LL (J1 @LO (J1 @LP (J1 @LM (J1 @LN (J1 @LT (J1 @Ys (J1 @UF (@Qm)))))))))))))))))))))))))))))))))))))))))))))))))))))))))))))))))))))))))))))))))))))))))))))))))))))
theorem dn:type_of% Du:=Du
end My
namespace My
open PySem.SeqAt L2 DL SD SL EL DC
abbrev fB:=List Int
def m7(p:fB):List fB->List fB
 | []=>[p]
 | q::r=>if HT.lexLt q p=true then q::m7 p r else p::q::r
def iL:List fB->List fB
 | []=>[]
 | p::r=>m7 p (iL r)
def fK(k:fB):KD:=(k,e7 k)
theorem Hq(p:fB):∀ l:List fB,jR (fK p) (l.map fK)=(m7 p l).map fK
 | []=>rfl
 | q::r=>by
  show(if HT.lexLt q p=true then fK q::jR (fK p) (r.map fK)else fK p::fK q::r.map fK)=(if HT.lexLt q p=true then q::m7 p r else p::q::r).map fK
  split
  ·rw [Hq p r];rfl
  ·rfl
theorem BZ:∀ l:List fB,fT (l.map fK)=(iL l).map fK
 | []=>rfl
 | p::r=>by
  show jR (fK p) (fT (r.map fK))=(m7 p (iL r)).map fK
  rw [BZ r,Hq]
theorem Hr(p:fB):∀ l:List fB,(m7 p l).Perm (p::l)
 | []=>.refl _
 | q::r=>by
  unfold m7;split
  ·exact((Hr p r).cons q).trans (.swap _ _ _)
  ·exact .refl _
theorem B0:∀ l:List fB,(iL l).Perm l
 | []=>.refl _
 | p::r=>(Hr p (iL r)).trans ((B0 r).cons p)
theorem zSg(l:List fB):(iL l).Pairwise fun a b=>HT.lexLt b a=false:=by
 have:=uC (l.map fK)
 rw [BZ,Ym]at this;exact this
theorem Em:∀ l:List fB,l.Nodup->dd l=l
 | [],_=>rfl
 | k::r,h=>by
  obtain⟨b,a⟩:=Yp.mp h;unfold dd;rw [if_neg b,Em r a]
theorem G2:∀{k m:fB},k.length=m.length->fH (k.map J9) (m.map J9)=true
 | [],[],_=>rfl
 | x::k,y::m,h=>by
  show(iK (.int x) (.int y) && fH (k.map J9) (m.map J9))=true
  rw [G2 (by simpa using h)];rfl
 | [],_::_,h=>by cases h
 | _::_,[],h=>by cases h
theorem FJ:∀ k:fB,fG (k.map J9)=some k
 | []=>rfl
 | x::k=>by
  have:=FJ k
  show(some [x]).bind (fun a=>(fG (k.map J9)).bind fun b=>some (a++b))=_
  rw [this];rfl
theorem Ir(b:d0≠[]):∀{l:List fB},(∀ k∈l,k.length=d0.length)->eO (d0.map J9) (l.map e7)=some (l.map fK)
 | [],_=>rfl
 | k::l,h=>by
  have a:=h k Qg
  have c:jT (d0.map J9) (e7 k)=some k:=by
   cases k with
   | nil=>exact absurd (Ju a.symm) b
   | cons x k=>
    show(if fH (d0.map J9) ((x::k).map J9)=true then fG ((x::k).map J9)else none)=_
    rw [if_pos (G2 a.symm),FJ]
  show(jT (d0.map J9) (e7 k)).bind _=_
  rw [c,Qd,Ir b fun k a=>h k (Qf _ a)];rfl
theorem sW(h:∀ k∈l,k.length=2)(d:l.length<=63):k5 [.list (l.map e7)]=some (.list ((iL l).map e7)):=by
 cases l with
 | nil=>rfl
 | cons a b=>
  have c:a.length=2:=h a Qg;have f:=Ir (d0:=a) (fun q=>by rw [q]at c;cases c) (l:=a::b) fun k e=>(h k e).trans c.symm
  show(if(b.map e7).length<1000 then(eO (a.map J9) ((a::b).map e7)).bind fun l=>some (ZO ((fT l).map (·.2)))else none)=_
  rw [if_pos (by rw [Qo];simp only [Qt]at d;lia),f]
  show some (ZO ((fT ((a::b).map fK)).map (·.2)))=_
  rw [BZ,Yj];rfl
def row(c:C):fB:=[c.1,c.2]
def m8(a b:C):Bool:=HT.lexLt (row a) (row b)
theorem qF(a b:C):m8 a b=true ↔ a.1<b.1 ∨ (a.1=b.1/\a.2<b.2):=by
 unfold m8 row;rw [HT.lexLt_cons];by_cases h:a.1=b.1
 ·rw [if_pos h,HT.lexLt_cons];by_cases c:a.2=b.2
  ·rw [if_pos c];simp [HT.lexLt];lia
  ·rw [if_neg c];simp;lia
 ·rw [if_neg h];simp;lia
def Up(l:List C):Prop:=l.Pairwise fun a b=>m8 a b=true
theorem B8:∀{l m:List C},Up l->Up m->(∀ c,c∈l ↔ c∈m)->l=m
 | [],[],_,_,_=>rfl
 | [],b::m,_,_,h=>nomatch (h b).mpr Qg
 | a::l,[],_,_,h=>nomatch (h a).mp Qg
 | a::l,b::m,h1,h2,h=>by
  obtain⟨a1,g⟩:=Yt.mp h1;obtain⟨b1,f⟩:=Yt.mp h2
  have d:∀ c:C,m8 c c=true->False:=fun c q=>by rw [qF]at q;lia
  have e:a=b:=by
   rcases Qq.mp ((h a).mp Qg)with q | q
   ·exact q
   ·rcases Qq.mp ((h b).mpr Qg)with r | r
    ·exact r.symm
    ·have x:=b1 a q;have y:=a1 b r;rw [qF]at x y;lia
  subst e;congr 1;refine B8 g f fun c=>⟨fun q=>?_,fun q=>?_⟩
  ·rcases Qq.mp ((h c).mp (Qf _ q))with r | r
   ·subst r;exact(d _ (a1 _ q)).elim
   ·exact r
  ·rcases Qq.mp ((h c).mpr (Qf _ q))with r | r
   ·subst r;exact(d _ (b1 _ q)).elim
   ·exact r
theorem pT(h:Up l):l.Nodup:=h.imp fun{a b} q e=>by subst e;rw [qF]at q;lia
theorem zSf{l:List C}(k:l.Nodup):∃ m:List C,iL (l.map row)=m.map row/\Up m/\∀ c,c∈m ↔ c∈l:=by
 obtain⟨m,o⟩:∃ m:List C,m=(iL (l.map row)).map fun r=>(r.getD 0 0,r.getD 1 0):=⟨_,rfl⟩;have f:∀ r,r∈iL (l.map row) ↔ r∈l.map row:=fun r=>(B0 _).mem_iff
 have e:iL (l.map row)=m.map row:=by
  rw [o,Yj]
  conv=>lhs;rw [<- List.map_id (iL (l.map row))]
  refine List.map_congr_left fun r j=>?_;obtain⟨c,_,rfl⟩:=QT.mp ((f r).mp j);rfl
 have inj:∀ a b:C,row a=row b->a=b:=fun a b q=>by
  unfold row at q
  injection q with q1 q2
  injection q2 with q2 _
  exact Jm q1 q2
 have i:∀ c,c∈m ↔ c∈l:=fun c=>by
  constructor
  ·intro h
   have:row c∈l.map row:=(f _).mp (by rw [e];exact JR h)
   obtain⟨d,g,q⟩:=QT.mp this;rw [<- inj _ _ q];exact g
  ·intro h
   have:row c∈m.map row:=by rw [<- e];exact(f _).mpr (JR h)
   obtain⟨d,g,q⟩:=QT.mp this;rw [<- inj _ _ q];exact g
 refine⟨m,e,?_,i⟩
 have s:=zSg (l.map row)
 have n:(iL (l.map row)).Nodup:=(B0 _).nodup_iff.mpr (by
  rw [UT,Ym]
  exact k.imp fun{a b} q r=>q (inj _ _ r))
 rw [e]at s n;rw [Ym]at s;rw [UT,Ym]at n
 refine(s.and n).imp fun{a b} h=>?_
 cases q:m8 a b with
 | true=>rfl
 | false=>exact absurd (tO _ _ q h.1) h.2
theorem BT(l:List C):(l.map row).map e7=l.map aB:=by rw [Yj];rfl
theorem Ia{l m:List C}(a:l.Nodup)(d:l.length<=63)(b:Up m)(h:∀ c,c∈m ↔ c∈l):k5 [.list (l.map aB)]=some (.list (m.map aB)):=by
 rw [<- BT l,sW (fun k e=>by obtain⟨c,_,rfl⟩:=QT.mp e;rfl) (by rw [Qo];exact d)];obtain⟨j,i,g,f⟩:=zSf a;rw [i,BT,B8 g b fun c=>(f c).trans (h c).symm]
def cells(w h:Nat):List C:=(Za w).flatMap fun(x:Nat)=>(Za h).map fun(y:Nat)=>((x:Int),(y:Int))
def cG(w h:Nat)(c:C):Bool:=decide (0<=c.1) && decide (c.1<w) && decide (0<=c.2) && decide (c.2<h)
theorem x8:cG w h c=true ↔ 0<=c.1/\c.1<w/\0<=c.2/\c.2<h:=by
 unfold cG;simp only [QW,decide_eq_true_eq];constructor
 ·intro q;exact⟨q.1.1.1,q.1.1.2,q.1.2,q.2⟩
 ·intro q;exact⟨⟨⟨q.1,q.2.1⟩,q.2.2.1⟩,q.2.2.2⟩
theorem j6:c∈cells w h ↔ cG w h c=true:=by
 unfold cells;rw [List.mem_flatMap,x8];constructor
 ·rintro⟨x,g,i⟩
  obtain⟨y,f,rfl⟩:=QT.mp i
  exact⟨Jf _,Jp.mpr (QU.mp g),Jf _,Jp.mpr (QU.mp f)⟩
 ·rintro⟨b,e,a,d⟩
  exact⟨c.1.toNat,QU.mpr ((Vj b).mpr e),QT.mpr ⟨c.2.toNat,QU.mpr ((Vj a).mpr d),Jm (JT b) (JT a)⟩⟩
theorem zST(h:Nat)(x:Nat):Up ((Za h).map fun(y:Nat)=>((x:Int),(y:Int))):=by
 unfold Up;rw [Ym];refine List.pairwise_lt_range.imp fun{a b} q=>?_;rw [qF];dsimp only;lia
theorem pQ(w h:Nat):Up (cells w h):=by
 unfold Up cells;rw [List.pairwise_flatMap]
 refine⟨fun x _=>zST h x,List.pairwise_lt_range.imp fun{a b} q c hc d hd=>?_⟩
 obtain⟨y,_,rfl⟩:=QT.mp hc;obtain⟨z,_,rfl⟩:=QT.mp hd;rw [qF];dsimp only;lia
theorem pS(h:Up l)(p:C->Bool):Up (l.filter p):=List.Pairwise.filter p h
theorem Lc(h:Nat):∀ l:List Nat,(l.map fun _=>h).sum=l.length * h
 | []=>by simp
 | _::l=>by rw [Qs,List.sum_cons,Lc h l,Qt,Nat.succ_mul,Nat.add_comm]
theorem lQ(w h:Nat):(cells w h).length=w * h:=by
 unfold cells;rw [List.length_flatMap];simp only [Qo,Yn];rw [Lc,Yn]
end My
namespace My
open PySem.SeqAt L2 DL SD SL EL DC
def yR(b a:Int):Nat->Int->Int->Option (List C)
 | 0,_,_=>none
 | n+1,gx,gy=>if gx<b ∨ gy<a then
   (yR b a n (if(2 * gx+1) * a<=(2 * gy+1) * b then gx+1 else gx) (if(2 * gy+1) * b<=(2 * gx+1) * a then gy+1 else gy)).bind fun r=>
    some ((if(2 * gx+1) * a<=(2 * gy+1) * b then gx+1 else gx,if(2 * gy+1) * b<=(2 * gx+1) * a then gy+1 else gy)::r)
  else some []
def dN(i:Int):Int:=if i<0 then -i else i
def eL(a:Int):Int:=if 0<a then 1 else -1
def zX(a b:Int):Option (List C):=(yR (dN a) (dN b) 900 0 0).bind fun c=>some ((0,0)::c.map fun g=>(eL a * g.1,eL b * g.2))
def eS(a b:Int):List C:=(zX a b).getD []
def sub(d:C)(g:C):C:=(g.1-d.1,g.2-d.2)
def add(d:C)(g:C):C:=(d.1+g.1,d.2+g.2)
def lF:List C->List C->Bool
 | [],[]=>true
 | a::l,b::m=>a.1 == b.1 && a.2 == b.2 && lF l m
 | _,_=>false
theorem p8:∀{l m:List C},lF l m=true->l=m
 | [],[],_=>rfl
 | a::l,b::m,h=>by
  unfold lF at h;simp only [QW,beq_iff_eq]at h;rw [p8 h.2,Jm h.1.1 h.1.2]
 | [],_::_,h=>by cases h
 | _::_,[],h=>by cases h
def Dr(a b:Int):Bool:=match zX a b with
 | some ((0,0)::st)=>decide (st.length<=8) && lF (eS (-a) (-b)) ((((0,0)::st).reverse).map (sub (a,b))) && lF (eS (-a) b) (((0,0)::st).map fun g=>(-g.1,g.2)) && lF (eS b a) (((0,0)::st).map fun g=>(g.2,g.1))
   && lF ((((0,0)::st).dropLast++[(a,b)])) ((0,0)::st) && ((0,0)::st).all (fun g=>decide (0<=eL a * g.1) && decide (eL a * g.1<=dN a) && decide (0<=eL b * g.2) && decide (eL b * g.2<=dN b))
 | _=>false
def u8:List Int:=[-4,-3,-2,-1,0,1,2,3,4]
theorem Sv:(u8.all fun a=>u8.all fun b=>Dr a b)=true:=by decide +kernel
theorem Hb(h:-4<=a)(h':a<=4):a∈u8:=by
 have k:∀ n:Fin 9,((n.val:Int)-4)∈u8:=by decide
 have e:(((a+4).toNat:Nat):Int)-4=a:=by lia
 have:=k ⟨(a+4).toNat,by lia⟩
 rw [e]at this;exact this
structure EZ(a b:Int):Prop where
 some:zX a b=some (eS a b)
 len:(eS a b).length<=9
 first:∃ st,eS a b=(0,0)::st
 back:eS (-a) (-b)=(eS a b).reverse.map (sub (a,b))
 mir:eS (-a) b=(eS a b).map fun g=>(-g.1,g.2)
 flip:eS b a=(eS a b).map fun g=>(g.2,g.1)
 last:(eS a b).dropLast++[(a,b)]=eS a b
 box:∀ g∈eS a b,0<=eL a * g.1/\eL a * g.1<=dN a/\0<=eL b * g.2/\eL b * g.2<=dN b
theorem T3(j:-4<=a)(f:a<=4)(i:-4<=b)(d:b<=4):EZ a b:=by
 have c:=Yi.mp (Yi.mp Sv a (Hb j f)) b (Hb i d);unfold Dr at c
 split at c
 ·rename_i st e
  have r:eS a b=(0,0)::st:=by unfold eS;rw [e];rfl
  simp only [QW,decide_eq_true_eq]at c;obtain⟨⟨⟨⟨⟨p,o⟩,n⟩,m⟩,l⟩,k⟩:=c
  refine⟨by rw [e,r],by rw [r,Qt];lia,⟨st,r⟩,by rw [r];exact p8 o,by rw [r];exact p8 n,by rw [r];exact p8 m,by rw [r];exact p8 l,fun g h=>?_⟩
  rw [r]at h
  have:=Yi.mp k g h
  simp only [QW,decide_eq_true_eq]at this
  exact⟨this.1.1.1,this.1.1.2,this.1.2,this.2⟩
 ·cases c
def gE(g h:C):Bool := !(g.1 == h.1) && !(g.2 == h.2)
def nV(S:C->Bool):List C->Bool
 | g::h::r=>(!gE g h || !(S (g.1,h.2) && S (h.1,g.2))) && nV S (h::r)
 | _=>true
theorem zRm(S:C->Bool)(g h:C)(r:List C):nV S (g::h::r)=((!gE g h || !(S (g.1,h.2) && S (h.1,g.2))) && nV S (h::r)):=rfl
def line(a b:C):List C:=(eS (b.1-a.1) (b.2-a.2)).map (add a)
def clear(S:C->Bool)(a b:C):Bool:=(line a b).dropLast.all (fun c => !S c) && nV S (line a b)
structure qT(a b:C):Prop where
 x0:-4<=b.1-a.1
 x1:b.1-a.1<=4
 y0:-4<=b.2-a.2
 y1:b.2-a.2<=4
theorem qT.ok(n:qT a b):EZ (b.1-a.1) (b.2-a.2):=T3 n.x0 n.x1 n.y0 n.y1
def yN:List C:=[(0,0),(1,0),(-1,0),(0,1),(0,-1)]
theorem W6:(yN.all fun d=>(eS d.1 d.2).dropLast.all (fun g=>g.1 == 0 && g.2 == 0) && lF (eS d.1 d.2) (if d.1 == 0 && d.2 == 0 then [(0,0)]else [(0,0),d]))=true:=by decide +kernel
theorem EN(h:dN (b.1-a.1)+dN (b.2-a.2)<2)(hs:S a=false):clear S a b=true:=by
 have i:((b.1-a.1,b.2-a.2):C)∈yN:=by
  unfold dN at h
  have:(b.1-a.1=0/\b.2-a.2=0) ∨ (b.1-a.1=1/\b.2-a.2=0) ∨ (b.1-a.1=-1/\b.2-a.2=0) ∨ (b.1-a.1=0/\b.2-a.2=1) ∨ (b.1-a.1=0/\b.2-a.2=-1):=by
   split at h <;> split at h <;> lia
  unfold yN
  rcases this with⟨p,q⟩ | ⟨p,q⟩ | ⟨p,q⟩ | ⟨p,q⟩ | ⟨p,q⟩ <;> rw [p,q] <;> decide
 have c:=Yi.mp W6 _ i;rw [QW]at c;have e:=p8 c.2;have j:=c.1;have d:add a (0,0)=a:=Jm (by show a.1+0=a.1;lia) (by show a.2+0=a.2;lia);unfold clear line;dsimp only at e;by_cases z:((b.1-a.1 == 0) && (b.2-a.2 == 0))=true
 ·rw [if_pos z]at e;rw [e]
  simp [nV]
 ·rw [if_neg z]at e;rw [e]
  have g:gE (add a (0,0)) (add a (b.1-a.1,b.2-a.2))=false:=by
   rw [d];unfold gE add;dsimp only;have f:=i;unfold yN at f;simp only [Qq,JP,or_false,Prod.mk.injEq]at f
   rcases f with⟨p,q⟩ | ⟨p,q⟩ | ⟨p,q⟩ | ⟨p,q⟩ | ⟨p,q⟩ <;> rw [p,q] <;> simp
  rw [d]at g;simp only [Qs,List.map_nil,List.dropLast,nV,d]
  simp [hs,g]
end My
namespace My
open PySem.SeqAt L2 DL SD SL EL DC
def c8(ns:List Int):D:=.list (ns.map J9)
theorem yB:∀ ns:List Int,Zg (ns.map J9)=true/\Zs (ns.map J9)=0
 | []=>⟨rfl,rfl⟩
 | _::r=>⟨by simp [Zg,ZP,(yB r).1],by simp [Zs,UI,(yB r).2]⟩
theorem Xj(ns:List Int):Zz (c8 ns)=true:=by
 simp [Zz,c8,ZP,UI,(yB ns).1,(yB ns).2]
theorem PK(b:0<=i)(a:i<ns.length):∃ r,aR (c8 ns) (.int i)=some (.int r):=by
 show ∃ r,L2.atI (ns.map J9) i=some (.int r)
 unfold L2.atI L2.ixN;rw [Qo,if_pos b,if_pos a]
 have:i.toNat<ns.length:=by lia
 exact⟨ns[i.toNat],by simp [this]⟩
theorem Ss(ns:List Int)(l:ns.length<=63)(k:Int):∃ r,sK [c8 ns,.int k]=some (.int r):=by
 cases ns with
 | nil=>
  have e:fN (c8 []) (.list [])=some (.bool true):=rfl;have m:cZ (.int 7) (.int k)=some (.int (7 * k)):=j7 (lG (by decide) (by decide))
  exact⟨7 * k,dQ (BW (n3 (b:=true) rfl (fun _=>dS (oo rfl rfl m)) fun z=>by cases z))⟩
 | cons n ns=>
  have c:(0:Int)<((n::ns).length:Int):=by rw [Qt];lia
  have e:fN (c8 (n::ns)) (.list [])=some (.bool false):=by
   unfold fN;rw [Xj];rfl
  have d:i9 [c8 (n::ns)]=some (.int ((n::ns).length:Int)):=by
   show some (J9 (((n::ns).map J9).length:Int))=_
   rw [Qo]
  obtain⟨r,j⟩:=PK (ns:=n::ns) (i:=k % ((n::ns).length:Int)) (Vf _ (by lia)) (JA _ c)
  have a:((n::ns).length:Int)<1073741824:=by lia
  generalize ((n::ns).length:Int)=L at *;generalize c8 (n::ns)=S at *;have h:=nN (i:=k) c;have g:=AU (i:=k) (zR c a);have f:cZ (.int 6553) (.int (k / L))=some (.int (6553 * (k / L))):=j7 (lG (by decide) (by decide))
  exact⟨r+6553 * (k / L),dQ (bP (gR (oB (oo rfl rfl e))) (dS (oo (oo rfl (oo rfl (bO rfl d) h) j) (oo rfl (oo rfl (bO rfl d) g) f) rfl)))⟩
def dr(ns:List Int)(k m:Int):Int:=match iD [c8 ns,.int k,.int m]with
 | some (.int r)=>r
 | _=>0
theorem sF(ns:List Int)(q:ns.length<=63)(k m:Int)(d:0<m):iD [c8 ns,.int k,.int m]=some (.int (dr ns k m))/\0<=dr ns k m/\dr ns k m<m:=by
 have key:∃ r,iD [c8 ns,.int k,.int m]=some (.int r)/\0<=r/\r<m:=by
  obtain⟨c,s⟩:=Ss ns q k;obtain⟨u,b⟩:∃ u,u=((c % 2147483563) * 69069+104723 * (k+1)) % 2147483563:=⟨_,rfl⟩
  have p:0<=u:=by rw [b];exact Vf _ (by decide)
  have o:u<2147483563:=by rw [b];exact JA _ (by decide)
  obtain⟨v,a⟩:∃ v,v=(u * u+u / 3) % 2147483399:=⟨_,rfl⟩
  have n:0<=v:=by rw [a];exact Vf _ (by decide)
  have l:v<2147483399:=by rw [a];exact JA _ (by decide)
  have a1:iB (.int ((c % 2147483563) * 69069+104723 * (k+1))) (.int 2147483563)=some (.int u):=by rw [b];exact nN (by decide)
  have B:iB (.int c) (.int 2147483563)=some (.int (c % 2147483563)):=nN (by decide);have A:cZ (.int (c % 2147483563)) (.int 69069)=some (.int (c % 2147483563 * 69069)):=j7 (DM (by decide) (by decide));have z:cZ (.int 104723) (.int (k+1))=some (.int (104723 * (k+1))):=j7 (lG (by decide) (by decide));have y:cZ (.int u) (.int u)=some (.int (u * u)):=j7 (lG (Int.lt_of_lt_of_le (by decide) p) (Int.lt_trans o (by decide)));have f:∀ i j:Int,0<j->j<1073741824->k4 (.int i) (.int j)=some (.int (i / j)):=fun i j h e=>AU (zR h e)
  have x:iB (.int (u * u+u / 3)) (.int 2147483399)=some (.int v):=by rw [a];exact nN (by decide)
  have w:cZ (.int v) (.int v)=some (.int (v * v)):=j7 (lG (Int.lt_of_lt_of_le (by decide) n) (Int.lt_trans l (by decide)))
  refine⟨(v * v+v / 7) % 2147483647 / 11 % m,?_,Vf _ (Int.ne_of_gt d),JA _ d⟩
  exact dQ (bP (e9 (oo (oo (oo (oo (bO rfl s) rfl B) rfl A) (oo rfl rfl z) rfl) rfl a1)) (bP (e9 (oo (oo (oo rfl rfl y) (oo rfl rfl (f _ _ (by decide) (by decide))) rfl) rfl x)) (dS (oo (oo (oo (oo (oo rfl rfl w) (oo rfl rfl (f _ _ (by decide) (by decide))) rfl) rfl (nN (by decide))) rfl (f _ _ (by decide) (by decide))) rfl (nN d)))))
 obtain⟨r,g,e,t⟩:=key
 have:dr ns k m=r:=by unfold dr;rw [g]
 rw [this]
 exact⟨g,e,t⟩
def mG(w h:Nat)(W:C->Bool):D:=.tuple (((cells w h).filter W).map aB)
def aX(w h:Nat)(W:C->Bool):D:=.tuple [.int w,.int h,mG w h W]
theorem MI(w h:Nat)(W:C->Bool):aR (aX w h W) (.int 2)=some (mG w h W):=id rfl
theorem Si(w h:Nat)(p:Nat->Nat->Bool):((Za w).flatMap fun(x:Nat)=>((Za h).filter (p x)).map fun(y:Nat)=>((x:Int),(y:Int)))=(cells w h).filter fun c=>p c.1.toNat c.2.toNat:=by
 unfold cells;rw [List.filter_flatMap];congr 1
 funext x
 rw [List.filter_map];rfl
theorem GG(c:ρ[i]?=some (.own ds))(b:ga ρ=some (.list es))(a:ds.length+es.length<=1000):oX i ga ρ=some (.nx (ρ.set i (.own (ds++es)))):=by
 unfold oX;rw [c]
 show(ga ρ).bind _=_
 rw [b]
 show(if ds.length+es.length<=1000 then _ else _)=_
 rw [if_pos a]
theorem AZ{b:Type}(f:Nat->List b):∀(l:List Nat) (acc:List b),l.foldl (fun a x=>a++f x) acc=acc++l.flatMap f
 | [],acc=>by simp
 | x::l,acc=>by rw [YL,AZ f l,List.flatMap_cons,QD]
theorem A0{c:Type}(f:Nat->List c)(g:Nat->Sl):∀(l:List Nat) (acc:List c) (s:Sl),l.foldl (fun(b:List c × Sl) x=>(b.1++f x,g x)) (acc,s)=(l.foldl (fun a x=>a++f x) acc,l.foldl (fun _ x=>g x) s)
 | [],acc,s=>rfl
 | x::l,acc,s=>by rw [YL,YL,YL];exact A0 f g l _ _
def BP(q:Int):Int:=if q=0 then 2 else if q=1 then 3 else if q=2 then 3 else if q=3 then 5 else 9
theorem Xx(q:Int)(b:0<=q)(a:q<5):aR (.list [.int 2,.int 3,.int 3,.int 5,.int 9]) (.int q)=some (.int (BP q))/\0<BP q:=by
 obtain⟨n,rfl⟩:=Int.eq_ofNat_of_zero_le b;rcases n with _ | _ | _ | _ | _ | n
 ·exact⟨rfl,by decide⟩
 ·exact⟨rfl,by decide⟩
 ·exact⟨rfl,by decide⟩
 ·exact⟨rfl,by decide⟩
 ·exact⟨rfl,by decide⟩
 ·exact absurd a (by lia)
theorem Sk(ns:List Int)(o:ns.length<=63)(a:Int)(m:Nat)(O:0<m)(l:m<=5):∃(w h:Nat) (W:C->Bool),o7 [c8 ns,.int a,.int m]=some (aX w h W)/\1<=w/\w<=m/\1<=h/\h<=m:=by
 have z:(0:Int)<m:=Jp.mpr O;obtain⟨e1,F,E⟩:=sF ns o a m z;obtain⟨e2,U,T⟩:=sF ns o (a+1) m z;obtain⟨e3,I,H⟩:=sF ns o (a+2) 5 (by decide);obtain⟨Z,G⟩:=Xx _ I H;generalize dr ns a m=dw at *;generalize dr ns (a+1) m=dh at *;generalize BP (dr ns (a+2) 5)=g at *;have one:∀{x:Int},0<=x->x<m->∃ w:Nat,1+x=w/\1<=w/\w<=m:=fun{x} g1 g2=>⟨(1+x).toNat,by lia,by lia,by lia⟩;obtain⟨w,K,B,u⟩:=one F E;obtain⟨h,Q,S,A⟩:=one U T;clear one;have r:w<=5:=QH u l;have q:h<=5:=QH A l
 refine⟨w,h,fun c=>dr ns (a+3+8 * (c.1.toNat:Int)+(c.2.toNat:Int)) g == 0,?_,B,u,S,A⟩
 refine dQ ?_;unfold A5;rw [show cR 8 [c8 ns,.int a,.int m]=[.dat (c8 ns),.dat (.int a),.dat (.int m),.no,.no,.no,.no,.no]from rfl];refine bP (e9 (d:=.int (w:Int)) (oo rfl (bO rfl e1) (by rw [<- K];rfl))) (bP (e9 (d:=.int (h:Int)) (oo rfl (bO rfl e2) (by rw [<- Q];rfl))) (bP (e9 (oo rfl (bO rfl e3) Z)) (bP (ρ':=[.dat (c8 ns),.dat (.int a),.dat (.int m),.dat (.int w),.dat (.int h),.dat (.int g),.own [],.no]) rfl ?_)));obtain⟨f,p⟩:∃ f:Nat->List C,f=fun(x:Nat)=>((Za h).filter fun(y:Nat)=>dr ns (a+3+8 * (x:Int)+(y:Int)) g == 0).map fun(y:Nat)=>((x:Int),(y:Int)):=⟨_,rfl⟩
 have X:∀ x,(f x).length<=5:=fun x=>by
  rw [p,Qo];refine QH (Q0 _ _) ?_;rw [Yn];exact q
 refine bP (Is (n:=w) rfl (YZ r (by decide)) (x5 (fun(k:Nat)=>.int (k:Int)) (fun(b:List C × Sl)=>[.dat (c8 ns),.dat (.int a),.dat (.int m),.dat (.int w),.dat (.int h),.dat (.int g),.own (b.1.map aB),b.2])
  (fun b x=>(b.1++f x,.dat (.int (x:Int)))) (fun i b=>b.1.length<=5 * i) 5 (Za w) 0 ([],.no) (by rw [Yn,Q7];exact r) (Qk _) fun x hx i b hi N=>?_)) ?_
 ·obtain⟨j,s7⟩:=b;have M:j.length<=5 * i:=N;have R:=X x
  refine⟨⟨[.dat (c8 ns),.dat (.int a),.dat (.int m),.dat (.int w),.dat (.int h),.dat (.int g),.own (j.map aB),.dat (.int (x:Int))],rfl,?_⟩,by show(j++f x).length<=5 * (i+1);rw [Qj];lia⟩
  refine(GG (ds:=j.map aB) (es:=(f x).map aB) rfl ?_ (by rw [Qo,Qo];lia)).trans ?_
  ·have:=HL (gi:=jK (aD (eV 4) aG)) (s:=bG 0) (t:=eB (aE fN (aY iD (aD (eV 2) (aD (aE bX (aE bX (aE bX (eV 4) (eC (.int 3))) (aE cZ (eC (.int 8)) (eV 1))) (eV 0)) (aD (eV 3) aG)))) (eC (.int 0))))
    (ge:=bV (aD (eV 1) (aD (eV 0) aG))) (inner:=[none,some 7,some 0,some 5,some 1]) (xs:=Za h) (ρ:=[.dat (c8 ns),.dat (.int a),.dat (.int m),.dat (.int w),.dat (.int h),.dat (.int g),.own (j.map aB),.dat (.int (x:Int))])
    (fun(k:Nat)=>.int (k:Int)) (fun(y:Nat)=>dr ns (a+3+8 * (x:Int)+(y:Int)) g == 0) (fun(y:Nat)=>aB ((x:Int),(y:Int)))
    (fun ρ=>∃ v,ρ=[v,.dat (.int (x:Int)),.dat (c8 ns),.dat (.int g),.dat (.int a)]) (Cd (n:=h) rfl (YZ q (by decide))) (by rw [Yn];exact QH q (by decide)) ⟨.no,rfl⟩ (by
     rintro y hy ρ ⟨v,rfl⟩;have e:=(sF ns o (a+3+8 * (x:Int)+(y:Int)) g G).1;have J:cZ (.int 8) (.int (x:Int))=some (.int (8 * (x:Int))):=j7 (lG (by decide) (by decide))
     exact⟨[.dat (.int (y:Int)),.dat (.int (x:Int)),.dat (c8 ns),.dat (.int g),.dat (.int a)],rfl,⟨_,rfl⟩,oB (oo (bO (fR rfl (fR (oo (oo rfl (oo rfl rfl J) rfl) rfl rfl) rfl)) e) rfl rfl),fun _=>rfl⟩)
   refine this.trans ?_;rw [p,Yj];rfl
  ·show some (aV.nx _)=some (aV.nx _)
   rw [Q6];rfl
 ·refine dS ?_;rw [A0,AZ]
  have Y:(Za w).flatMap f=(cells w h).filter fun c=>dr ns (a+3+8 * (c.1.toNat:Int)+(c.2.toNat:Int)) g == 0:=by
   rw [p];exact Si w h fun x y=>dr ns (a+3+8 * (x:Int)+(y:Int)) g == 0
  rw [YK,Y];rfl
end My
namespace My
open PySem.SeqAt L2 DL SD SL EL DC
theorem Ci:∀ l:List C,Zg (l.map aB)=true/\Zs (l.map aB)<=1
 | []=>⟨rfl,Q2 _⟩
 | c::l=>by
  obtain⟨b,a⟩:=Ci l
  refine⟨by rw [Qs,Zg,b];rfl,?_⟩
  rw [Qs,Zs];exact Nat.max_le.mpr ⟨Qk _,a⟩
theorem uA(l:List C):Zz (.list (l.map aB))=true:=by
 obtain⟨a,b⟩:=Ci l
 have:UI (.list (l.map aB))<=64:=by show Zs (l.map aB)+1<=64;lia
 simp [Zz,ZP,a,this]
theorem Xh(l:List C):Zz (.tuple (l.map aB))=true:=by
 obtain⟨a,b⟩:=Ci l
 have:UI (.tuple (l.map aB))<=64:=by show Zs (l.map aB)+1<=64;lia
 simp [Zz,ZP,a,this]
theorem ID(c:C):Zz (aB c)=true:=id rfl
theorem GC(a b:C):ZX (aB a) (aB b)=(a == b):=by
 show((a.1 == b.1) && ((a.2 == b.2) && true))=_
 rw [Bool.and_true];obtain⟨x,y⟩:=a;obtain⟨u,v⟩:=b;rfl
theorem AQ:∀ l m:List C,Ua (l.map aB) (m.map aB)=decide (l=m)
 | [],[]=>rfl
 | [],_::_=>rfl
 | _::_,[]=>rfl
 | a::l,b::m=>by
  show(ZX (aB a) (aB b) && Ua (l.map aB) (m.map aB))=_
  rw [AQ l m,GC]
  by_cases d:a=b <;> by_cases c:l=m <;> simp [d,c]
theorem GB(l m:List C):fN (.list (l.map aB)) (.list (m.map aB))=some (.bool (decide (l=m))):=by
 unfold fN;rw [uA,uA]
 show some (J8 (Ua (l.map aB) (m.map aB)))=_
 rw [AQ]
theorem tS(l m:List C):eQ (.list (l.map aB)) (.list (m.map aB))=some (.bool (!decide (l=m))):=by
 unfold eQ;rw [uA,uA]
 show some (J8 (!PyData.eqvAll (l.map aB) (m.map aB)))=_
 rw [AQ]
theorem Eu(l:List C)(c:C):((l.map aB).any fun y=>ZX y (aB c))=l.contains c:=by
 induction l with
 | nil=>rfl
 | cons a l b=>rw [Qs,JD,b,GC,Uy,Bool.beq_comm]
theorem MW(a:Bool)(c:C)(l:List C):dF a (aB c) (.tuple (l.map aB))=some (.bool (if a then !l.contains c else l.contains c)):=by
 show(if(Zz (aB c) && Zz (.tuple (l.map aB)))=true then _ else _)=_
 rw [ID,Xh,UY,if_pos rfl,Eu]
theorem oS(a:Bool)(c:C)(l:List C):dF a (aB c) (.list (l.map aB))=some (.bool (if a then !l.contains c else l.contains c)):=by
 show(if(Zz (aB c) && Zz (.list (l.map aB)))=true then _ else _)=_
 rw [ID,uA,UY,if_pos rfl,Eu]
def cI(w h:Nat)(W:C->Bool)(c:C):Bool:=cG w h c && W c
theorem AE(w h:Nat)(W:C->Bool)(c:C):((cells w h).filter W).contains c=cI w h W c:=by
 rw [Jl,Qv,Q9,j6];unfold cI;rw [QW]
theorem Dx(a:Bool)(c:C)(w h:Nat)(W:C->Bool):dF a (aB c) (mG w h W)=some (.bool (if a then !cI w h W c else cI w h W c)):=by
 unfold mG;rw [MW,AE]
theorem Ky(i:Int):o9 [.int i]=some (.bool true):=dQ (dS rfl)
theorem Sz(c:C):sQ [aB c]=some (.bool true):=dQ (bP (gR rfl) (dS (DK (bO rfl (Ky c.1)) (bO rfl (Ky c.2)))))
theorem Bn(w h:Nat)(W:C->Bool)(c:C):kZ [aX w h W,aB c]=some (.bool (cG w h c)):=by
 refine dQ (bP (gR (oN (oB (bO rfl (Sz c))))) (dS ?_))
 show((if decide (0<=c.1)=true then some (J8 (decide (c.1<w)))else some (.bool false)).bind fun x=>(eY x).bind fun k=>if k=true then(if decide (0<=c.2)=true then some (J8 (decide (c.2<h)))else some (.bool false))else some (.bool false))=_
 unfold cG
 cases decide (0<=c.1) <;> cases decide (c.1<w) <;> cases decide (0<=c.2) <;> cases decide (c.2<h) <;> rfl
theorem Xz(a:cG w h c=true):sT [aX w h W,aB c]=some .none:=by
 have q:=Bn w h W c;rw [a]at q;exact FL (gR (oN (oB (bO rfl q))))
theorem HZ(a:cG w h c=true):oA [aX w h W,aB c]=some (.bool (W c)):=by
 have q:=Dx false c w h W;unfold cI at q;rw [a,JU]at q;exact dQ (bP (XM (bO rfl (Xz a))) (dS (oo rfl rfl q)))
theorem WE(b:cG w h c=true)(a:W c=false):sS [aX w h W,aB c]=some .none:=by
 have q:=HZ (W:=W) b;rw [a]at q;exact FL (gR (oB (bO rfl q)))
end My
namespace My
open PySem.SeqAt L2 DL SD SL EL DC
theorem Xv(w h:Nat)(g:0<h):((Za (w * h)).map fun(i:Nat)=>(((i / h:Nat):Int),((i % h:Nat):Int)))=cells w h:=by
 refine B8 ?_ (pQ w h) fun c=>?_
 ·unfold Up;rw [Ym];refine List.pairwise_lt_range.imp fun{a b} q=>?_;rw [qF];dsimp only;have j:a / h<=b / h:=Nat.div_le_div_right (YJ q);rcases Nat.lt_or_eq_of_le j with e | e
  ·exact .inl (Jp.mpr e)
  ·right
   have r:=Nat.div_add_mod a h;have s:=Nat.div_add_mod b h;rw [e]at r
   exact⟨by rw [e],Jp.mpr (by lia)⟩
 ·rw [j6,x8,QT];constructor
  ·rintro⟨i,p,rfl⟩
   have:=QU.mp p
   have j:i / h<w:=(Nat.div_lt_iff_lt_mul g).mpr this;have e:i % h<h:=Nat.mod_lt _ g
   exact⟨Jf _,Jp.mpr j,Jf _,Jp.mpr e⟩
  ·rintro⟨l,o,f,k⟩
   refine⟨c.1.toNat * h+c.2.toNat,QU.mpr ?_,?_⟩
   ·have this:c.1.toNat+1<=w:=(Vj l).mpr o;have n:=Nat.mul_le_mul_right h this;rw [Nat.succ_mul]at n;exact QX (Nat.add_lt_add_left ((Vj f).mpr k) _) n
   ·have e:c.2.toNat<h:=(Vj f).mpr k
    have d:(c.1.toNat * h+c.2.toNat) / h=c.1.toNat:=by
     rw [Nat.mul_comm,Nat.mul_add_div g,Nat.div_eq_of_lt e,JO]
    have m:(c.1.toNat * h+c.2.toNat) % h=c.2.toNat:=by
     rw [Nat.mul_comm,Nat.mul_add_mod,Nat.mod_eq_of_lt e]
    rw [d,m];exact Jm (JT l) (JT f)
theorem TM(g:w<=5)(c:0<h)(b:h<=5):sL [aX w h W]=some (.list ((cells w h).map aB)):=by
 have a:w * h<=25:=Y3 g b
 have m:cZ (.int w) (.int h)=some (.int ((w * h:Nat):Int)):=by rw [j7 (lG (Int.lt_of_lt_of_le (by decide) (Jf _)) (Int.lt_of_le_of_lt (Int.ofNat_le.mpr g) (by decide)))];rfl
 refine dQ (dS (iZ (xs:=Za (w * h)) (fun(k:Nat)=>.int (k:Int)) (fun _=>true) (fun(i:Nat)=>aB (((i / h:Nat):Int),((i % h:Nat):Int))) (fun e=>∃ f,e=[f,.dat (aX w h W)]) (Cd (n:=w * h) ?_ (YZ a (by decide))) (by rw [Yn];exact QH a (by decide)) ⟨_,rfl⟩ ?_ ?_))
 ·exact fR (oo rfl rfl m) rfl
 ·rintro i _ e ⟨f,rfl⟩
  have d:k4 (.int (i:Int)) (.int h)=some (.int ((i / h:Nat):Int)):=by rw [AU (zR (Jp.mpr c) (Int.lt_of_le_of_lt (Int.ofNat_le.mpr b) (by decide)))];rfl
  have q:iB (.int (i:Int)) (.int h)=some (.int ((i % h:Nat):Int)):=by rw [nN (Jp.mpr c)];rfl
  exact⟨[.dat (.int (i:Int)),.dat (aX w h W)],rfl,⟨_,rfl⟩,rfl,fun _=>rM (oo rfl rfl d) (oo rfl rfl q)⟩
 ·rw [AW,<- Xv w h c,Yj];rfl
theorem Et(m:w<=5)(c:h<=5):n9 [aX w h W]=some (.list ((cells w h).map aB)):=by
 obtain⟨f,g⟩:∃ f:Nat->List C,f=fun(x:Nat)=>(Za h).map fun(y:Nat)=>((x:Int),(y:Int)):=⟨_,rfl⟩;refine dQ ?_;unfold A6;rw [show cR 3 [aX w h W]=[.dat (aX w h W),.no,.no]from rfl];refine bP (ρ':=[.dat (aX w h W),.own [],.no]) rfl ?_
 refine bP (Is (n:=w) rfl (YZ m (by decide)) (x5 (fun(k:Nat)=>.int (k:Int)) (fun(b:List C × Sl)=>[.dat (aX w h W),.own (b.1.map aB),b.2])
  (fun b x=>(b.1++f x,.dat (.int (x:Int)))) (fun i b=>b.1.length<=5 * i) 5 (Za w) 0 ([],.no) (by rw [Yn,Q7];exact m) (Qk _) fun x r i b s o=>?_)) ?_
 ·obtain⟨a,p⟩:=b;have d:a.length<=5 * i:=o
  have e:(f x).length<=5:=by rw [g,Qo,Yn];exact c
  refine⟨⟨[.dat (aX w h W),.own (a.map aB),.dat (.int (x:Int))],rfl,?_⟩,by show(a++f x).length<=5 * (i+1);rw [Qj];exact Nat.add_le_add d e⟩
  refine(GG (ds:=a.map aB) (es:=(f x).map aB) rfl (iZ (xs:=Za h) (fun(k:Nat)=>.int (k:Int)) (fun _=>true) (fun(y:Nat)=>aB ((x:Int),(y:Int))) (fun j=>∃ l,j=[l,.dat (.int (x:Int))]) (Cd (n:=h) rfl (YZ c (by decide))) (by rw [Yn];exact QH c (by decide)) ⟨.no,rfl⟩ ?_ ?_) (by rw [Qo,Qo];lia)).trans ?_
  ·rintro y q j ⟨l,rfl⟩
   exact⟨[.dat (.int (y:Int)),.dat (.int (x:Int))],rfl,⟨_,rfl⟩,rfl,fun _=>rfl⟩
  ·rw [AW,g,Yj];rfl
  ·show some (aV.nx _)=some (aV.nx _)
   rw [Q6];rfl
 ·refine dS ?_;rw [A0,AZ,YK,g];rfl
theorem BS:∀ l:List C,pM (l.map aB)=some (l.map row)
 | []=>rfl
 | c::l=>by
  show(dR [.int c.1,.int c.2]).bind (fun b=>(pM (l.map aB)).bind fun a=>some (b::a))=_
  rw [BS l];rfl
theorem nZ(q:row a=row b):a=b:=by
 unfold row at q
 injection q with q1 q2
 injection q2 with q2 _
 exact Jm q1 q2
theorem Cu{l:List C}(h:l.Nodup):(l.map row).Nodup:=by
 rw [UT,Ym];exact h.imp fun{a b} q r=>q (nZ r)
theorem RO(l:List C)(c:C):(l.map row).contains (row c)=l.contains c:=by
 rw [Jl,Qv,Qv,QT];constructor
 ·rintro⟨d,a,e⟩;rw [<- nZ e];exact a
 ·intro h;exact⟨c,h,rfl⟩
theorem WC{w h:Nat}{W:C->Bool}(d:w<=5)(a:h<=5):oC [aX w h W]=some (.list (((cells w h).filter fun c => !W c).map aB)):=by
 have g:(cells w h).length<=25:=by rw [lQ];exact Y3 d a
 have m:=Q0 W (cells w h);have l:=Q0 (fun c => !W c) (cells w h)
 have f:vI [.list ((cells w h).map aB)]=some ((cells w h).map row):=by
  show(if _ then _ else _)=_
  rw [if_pos (by rw [Qo];lia),BS]
 have e:vI [mG w h W]=some (((cells w h).filter W).map row):=by
  show(if _ then _ else _)=_
  rw [if_pos (by rw [Qo];lia),BS]
 have j:((cells w h).map row).filter (fun k => !(((cells w h).filter W).map row).contains k)=((cells w h).filter fun c => !W c).map row:=by
  rw [List.filter_map];congr 1;refine List.filter_congr fun c i=>?_
  show(!(((cells w h).filter W).map row).contains (row c))=_
  rw [RO,AE];unfold cI;rw [j6.mp i,JU]
 have b:=pS (pQ w h) fun c => !W c;refine dQ (dS ?_);unfold AN AK uV;rw [fR (bO rfl (Et (W:=W) d a)) rfl,Qd,f,Qd,show aD (aE aR (eV 0) (eC (.int 2))) aG (List.map frz (cR 1 [aX w h W]))=some [mG w h W]from rfl,Qd,e,Qd];rw [if_pos (by rw [Qo];lia),Qd,j,Em _ (Cu (pT b)),BT];exact Ia (pT b) (by lia) b fun c=>Iff.rfl
def eA(l:List C):D:=.dict (l.map fun c=>(aB c,.bool true))
theorem kQ(c:C):cL (aB c)=some (row c):=id rfl
theorem FE(l:List C)(c:C):eZ (l.map fun c=>(aB c,J8 true)) (row c)=l.contains c:=by
 unfold eZ;rw [List.any_map]
 induction l with
 | nil=>rfl
 | cons a l b=>
  rw [JD,b,Uy];congr 1
  show(cL (aB a) == some (row c))=_
  rw [kQ,Jl,beq_iff_eq,beq_iff_eq];constructor
  ·intro q;exact(nZ (QF q)).symm
  ·intro q;rw [q]
theorem Sj(l:List C):dX (l.map fun c=>(aB c,J8 true))=true:=by
 unfold dX;rw [List.all_map,Yi];intro c _;rfl
theorem tJ(a:Bool)(c:C)(l:List C):eJ a (aB c) (eA l)=some (.bool (if a then !l.contains c else l.contains c)):=by
 show(cL (aB c)).bind (fun k=>if dX (l.map fun c=>(aB c,J8 true))=true then some (J8 (if a then !eZ (l.map fun c=>(aB c,J8 true)) k else eZ (l.map fun c=>(aB c,J8 true)) k))else none)=_
 rw [kQ,Qd,Sj,if_pos rfl,FE]
theorem IJ:∀ l:List C,l6 (l.map fun c=>Ue [aB c,.bool true])=some (l.map fun c=>(row c,.bool true))
 | []=>rfl
 | c::l=>by
  show(tX (.tuple [aB c,.bool true])).bind (fun p=>(l6 (l.map fun c=>Ue [aB c,.bool true])).bind fun a=>some (p::a))=_
  rw [IJ l];rfl
theorem zRy(l:List C)(c:C)(h:c∉l):gI (l.map fun c=>(aB c,J8 true)) (row c) (.bool true)=(l++[c]).map fun c=>(aB c,J8 true):=by
 unfold gI;rw [FE,if_neg (by rw [Qv];exact h),Q6];rfl
theorem Gr:∀(l acc:List C),(acc++l).Nodup->(l.map fun c=>(row c,J8 true)).foldl (fun kvs p=>gI kvs p.1 p.2) (acc.map fun c=>(aB c,J8 true))=(acc++l).map fun c=>(aB c,J8 true)
 | [],acc,_=>by rw [QP];rfl
 | c::l,acc,h=>by
  have a:c∉acc:=by
   rw [YI]at h;exact fun q=>h.2.2 c q c Qg rfl
  rw [Qs,YL]
  show(l.map _).foldl _ (gI _ (row c) (.bool true))=_
  rw [zRy acc c a,Gr l (acc++[c]) (by rw [QD];exact h),QD];rfl
theorem yG(g:jF d=some (l.map aB))(b:l.length<=1000)(f:l.Nodup):iE [d]=some (eA l):=by
 refine dQ (dS (bO (ds:=[.list (l.map fun c=>Ue [aB c,.bool true])]) ?_ ?_))
 ·have e:=iZ (gi:=cV (eV 0)) (s:=bG 0) (t:=eT) (ge:=bV (aD (eV 0) (aD (eC (.bool true)) aG))) (inner:=[none]) (ρ:=(cR 1 [d]).map frz) (xs:=l) aB (fun _=>true) (fun c=>Ue [aB c,.bool true]) (fun ρ=>∃ a,ρ=[a]) (lX rfl g) b ⟨_,rfl⟩ (by
   rintro c _ ρ ⟨a,rfl⟩
   exact⟨[.dat (aB c)],rfl,⟨_,rfl⟩,rfl,fun _=>rfl⟩) (by rw [AW])
  exact fR e rfl
 ·show(if _ then _ else _)=_
  rw [if_pos (by rw [Qo];exact b),IJ,Qd]
  have:=Gr l [] (by simpa using f)
  rw [YK]at this;unfold p5 eA;rw [<- this];rfl
theorem Th(c:w<=5)(a:h<=5):iE [mG w h W]=some (eA ((cells w h).filter W)):=by
 have b:(cells w h).length<=25:=by rw [lQ];exact Y3 c a
 have d:=Q0 W (cells w h);exact yG rfl (by lia) (pT (pS (pQ w h) W))
def fP(w h:Nat)(W:C->Bool):D:=eA ((cells w h).filter W)
theorem VG(a:Bool)(c:C)(w h:Nat)(W:C->Bool):eJ a (aB c) (fP w h W)=some (.bool (if a then !cI w h W c else cI w h W c)):=by
 unfold fP;rw [tJ,AE]
end My
namespace My
open PySem.SeqAt L2 DL SD SL EL DC
structure WS where
 gx:Int
 gy:Int
 cs:List C
 s9:Sl
 s10:Sl
def zM(a b:C)(f e d c:Int)(s:WS):aA:=[.dat (aB a),.dat (aB b),.dat (.int f),.dat (.int e),.dat (.int d),.dat (.int c),.dat (.int s.gx),.dat (.int s.gy),.own (s.cs.map aB),s.s9,s.s10]
def wC(b a:Int)(s:WS):Bool:=decide (s.gx<b) || decide (s.gy<a)
def oU(b a:Int)(s:WS):Int:=if(2 * s.gx+1) * a<=(2 * s.gy+1) * b then s.gx+1 else s.gx
def rH(b a:Int)(s:WS):Int:=if(2 * s.gy+1) * b<=(2 * s.gx+1) * a then s.gy+1 else s.gy
def xT(a:C)(c b e d:Int)(s:WS):WS:=⟨oU c b s,rH c b s,s.cs++[(a.1+e * oU c b s,a.2+d * rH c b s)],.dat (.int ((2 * s.gx+1) * b)),.dat (.int ((2 * s.gy+1) * c))⟩
theorem Hz(a:C)(d b i f:Int):∀(n:Nat) (s:WS) (st:List C),yR d b n s.gx s.gy=some st->∃ s',tM (wC d b) (xT a d b i f) n s=some s'/\s'.cs=s.cs++st.map fun g=>(a.1+i * g.1,a.2+f * g.2)
 | 0,_,_,h=>by cases h
 | n+1,s,st,h=>by
  unfold yR at h;unfold tM;by_cases c:s.gx<d ∨ s.gy<b
  ·rw [if_pos c]at h;obtain⟨r,e,h⟩:=aF h;cases h;rw [if_pos (by unfold wC;rw [Bool.or_eq_true,decide_eq_true_eq,decide_eq_true_eq];exact c)];obtain⟨s',k,j⟩:=Hz a d b i f n (xT a d b i f s) r e
   refine⟨s',k,?_⟩
   rw [j]
   show(s.cs++[_])++_=_
   rw [QD];rfl
  ·rw [if_neg c]at h;cases h;rw [if_neg (by unfold wC;rw [Bool.or_eq_true,decide_eq_true_eq,decide_eq_true_eq];exact c)]
   exact⟨s,rfl,by simp⟩
theorem SE(n:qT a b):sO [aB a,aB b]=some (.list ((line a b).map aB)):=by
 have O:=n.ok;obtain⟨u,e,h⟩:=aF O.some
 have p:∀ x,-100<eL x/\eL x<100:=fun x=>by unfold eL;split <;> decide
 have G:=p (b.1-a.1);have F:=p (b.2-a.2);clear p;obtain⟨K,J,I,H⟩:=n
 have t:∀ x,-4<=x->x<=4->0<=dN x/\dN x<100:=fun x h U=>by unfold dN;split <;> lia
 have Q:=t _ K J;have N:=t _ I H;clear t
 have E:u.length<=8:=by
  have:=O.len
  rw [<- QF h,Qt,Qo]at this;lia
 have q:∀ x y:Int,(if decide (x<y)=true then some (J9 1)else some (.int (-1)))=some (.int (eL (y-x))):=fun x y=>by
  unfold eL;by_cases c:x<y
  ·rw [if_pos (decide_eq_true c),if_pos (by lia)]
  ·rw [if_neg (by simpa using c),if_neg (by lia)]
 have B:=q a.1 b.1;have A:=q a.2 b.2;clear q;obtain⟨v,M,r⟩:=Hz a (dN (b.1-a.1)) (dN (b.2-a.2)) (eL (b.1-a.1)) (eL (b.2-a.2)) 900 ⟨0,0,[a],.no,.no⟩ u e
 have j:line a b=v.cs:=by
  rw [r];unfold line;rw [<- QF h,Qs,Yj]
  show _::_=_::_
  congr 1;exact Jm (by show a.1+0=a.1;lia) (by show a.2+0=a.2;lia)
 rw [j];refine dQ ?_;unfold A8;refine bP (e9 (d:=.int (dN (b.1-a.1))) rfl) (bP (e9 (d:=.int (dN (b.2-a.2))) rfl) (bP (e9 B) (bP (e9 A) (bP (e9 rfl) (bP (e9 rfl) (bP (ρ':=zM a b (dN (b.1-a.1)) (dN (b.2-a.2)) (eL (b.1-a.1)) (eL (b.2-a.2)) ⟨0,0,[a],.no,.no⟩) rfl ?_))))));generalize dN (b.1-a.1)=f at *;generalize dN (b.2-a.2)=g at *;generalize eL (b.1-a.1)=m at *;generalize eL (b.2-a.2)=l at *;clear B A;have o:∀ k,-100<k/\k<100->∀ i:Int,cZ (.int k) (.int i)=some (.int (k * i)):=fun k h i=>j7 (lG (by lia) (by lia));have w:∀ k,0<=k/\k<100->∀ i:Int,cZ (.int i) (.int k)=some (.int (i * k)):=fun k h i=>j7 (DM (by lia) (by lia));refine bP (Kx (zM a b f g m l) (wC f g) (xT a f g m l) (fun n s=>s.cs.length+n<=901) (fun n s R=>?_) (fun n s R T=>⟨?_,?_⟩) 900 ⟨0,0,[a],.no,.no⟩ v (by show 1+900<=901;decide) M) (dS rfl)
 ·show(if decide (s.gx<f)=true then some true else some (decide (s.gy<g)))=some (decide (s.gx<f) || decide (s.gy<g))
  cases decide (s.gx<f) <;> rfl
 ·have S:(s.cs.map aB).length<1000:=by rw [Qo];lia
  refine bP (e9 (oo (oo (oo rfl rfl (o 2 (by decide) s.gx)) rfl rfl) rfl (w g N _))) (bP (e9 (oo (oo (oo rfl rfl (o 2 (by decide) s.gy)) rfl rfl) rfl (w f Q _))) ?_);refine bP (ρ':=[.dat (aB a),.dat (aB b),.dat (.int f),.dat (.int g),.dat (.int m),.dat (.int l),.dat (.int (oU f g s)),.dat (.int s.gy),.own (s.cs.map aB),.dat (.int ((2 * s.gx+1) * g)),.dat (.int ((2 * s.gy+1) * f))]) ?_ ?_
  ·unfold oU;by_cases c:(2 * s.gx+1) * g<=(2 * s.gy+1) * f
   ·rw [if_pos c]
    exact n3 (b:=true) (congrArg some (decide_eq_true c)) (fun _=>rfl) fun z=>by cases z
   ·rw [if_neg c];exact gR (congrArg some (decide_eq_false c))
  refine bP (ρ':=[.dat (aB a),.dat (aB b),.dat (.int f),.dat (.int g),.dat (.int m),.dat (.int l),.dat (.int (oU f g s)),.dat (.int (rH f g s)),.own (s.cs.map aB),.dat (.int ((2 * s.gx+1) * g)),.dat (.int ((2 * s.gy+1) * f))]) ?_ ?_
  ·unfold rH;by_cases c:(2 * s.gy+1) * f<=(2 * s.gx+1) * g
   ·rw [if_pos c]
    exact n3 (b:=true) (congrArg some (decide_eq_true c)) (fun _=>rfl) fun z=>by cases z
   ·rw [if_neg c];exact gR (congrArg some (decide_eq_false c))
  refine(BU (ds:=s.cs.map aB) (d:=aB (a.1+m * oU f g s,a.2+l * rH f g s)) rfl ?_ S).trans ?_
  ·unfold bV;rw [fR (oo rfl (oo rfl rfl (o m G _)) rfl) (fR (oo rfl (oo rfl rfl (o l F _)) rfl) rfl)];rfl
  ·unfold zM xT;rw [Q6];rfl
 ·show(s.cs++[_]).length+n<=901
  rw [Qj,Yd];lia
end My
namespace My
open PySem.SeqAt L2 DL SD SL EL DC
abbrev Cp:=C × C
def iA(p:Cp):D:=.tuple [aB p.1,aB p.2]
def jG(p q:C):Cp:=if m8 q p=true then(q,p)else(p,q)
def lH(p:Cp):Cp:=jG (p.1.1,p.2.2) (p.2.1,p.1.2)
def lI(l:List C):List Cp:=((l.zip l.tail).filter fun p=>gE p.1 p.2).map lH
theorem zSJ(S:C->Bool)(p q:C):(S (jG p q).1 && S (jG p q).2)=(S p && S q):=by
 unfold jG;split
 ·exact Bool.and_comm _ _
 ·rfl
theorem IV(S:C->Bool):∀ l:List C,(lI l).all (fun p => !(S p.1 && S p.2))=nV S l
 | []=>rfl
 | [a]=>rfl
 | a::b::l=>by
  have c:=IV S (b::l);unfold lI at c ⊢;rw [zRm]
  show((((a,b)::(b::l).zip (b::l).tail).filter fun p=>gE p.1 p.2).map lH).all _=_
  rw [Jd];dsimp only
  cases gE a b with
  | true=>
   rw [if_pos rfl,Qs,List.all_cons,c];congr 1
   show(!(S (jG (a.1,b.2) (b.1,a.2)).1 && S (jG (a.1,b.2) (b.1,a.2)).2))=_
   rw [zSJ];rfl
  | false=>rw [if_neg QB,c];rfl
theorem zSi(p q:C):k5 [.list [aB p,aB q]]=some (.list [aB (jG p q).1,aB (jG p q).2]):=by
 have:=sW (l:=[row p,row q]) (by intro k a;rcases Qq.mp a with rfl | a;rfl;rcases Qq.mp a with rfl | a;rfl;cases a) (by show 2<=63;decide)
 refine this.trans ?_
 show some (ZO ((if HT.lexLt (row q) (row p)=true then [row q,row p]else [row p,row q]).map e7))=_
 unfold jG m8
 split <;> rfl
theorem Km:∀ l m:List C,List.zipWith (fun x y=>Ue [x,y]) (l.map aB) (m.map aB)=(l.zip m).map iA
 | [],_=>rfl
 | _::_,[]=>rfl
 | a::l,b::m=>by rw [Qs,Qs,List.zipWith_cons_cons,Km l m];rfl
theorem Ek(l:List C):cutD (l.map aB) (some 1) none=l.tail.map aB:=by
 cases l with
 | nil=>rfl
 | cons a l=>
  unfold DL.cutD
  have b:HT.sIx ((a::l).map aB).length 0 (some 1)=1:=by
   have:=HT.sIx_nat ((a::l).map aB).length 0 1
   rw [show((1:Nat):Int)=1 from rfl]at this;rw [this,Qo,Qt];lia
  rw [b,HT.sIx_none];simp;exact Jz (by simp)
theorem SH(l:List C):cutD (l.map aB) none (some (-1))=l.dropLast.map aB:=by
 unfold DL.cutD;rw [HT.sIx_none]
 have a:HT.sIx (l.map aB).length (l.map aB).length (some (-1))=l.length-1:=by
  unfold HT.sIx;simp;lia
 rw [a,List.drop_zero,Nat.sub_zero,List.dropLast_eq_take,List.map_take]
theorem PU(l:List C)(r:l.length<=500):o8 [.list (l.map aB)]=some (.list ((lI l).map iA)):=by
 have o:(l.zip l.tail).length<=500:=by rw [List.length_zip];lia
 refine dQ ?_;unfold A7;rw [show cR 4 [.list (l.map aB)]=[.dat (.list (l.map aB)),.no,.no,.no]from rfl];refine bP (ρ':=[.dat (.list (l.map aB)),.own [],.no,.no]) rfl ?_
 have g:rD (aD (eV 0) (aD (kG (eV 0) (oE (eC (.int 1))) kL) aG)) [.dat (.list (l.map aB)),.own [],.no,.no]=some ((l.zip l.tail).map iA):=by
  show some (List.zipWith (fun x y=>Ue [x,y]) (l.map aB) (cutD (l.map aB) (some 1) none))=_
  rw [Ek,Km]
 refine bP (n0 g (x5 iA (fun(b:List Cp × Sl × Sl)=>[.dat (.list (l.map aB)),.own (b.1.map iA),b.2.1,b.2.2]) (fun b p=>(if gE p.1 p.2=true then b.1++[lH p]else b.1,.dat (aB p.1),.dat (aB p.2))) (fun i b=>b.1.length<=i) 500 (l.zip l.tail) 0 ([],.no,.no) (by lia) (Qk _) fun p _ i b s k=>?_)) ?_
 ·obtain⟨a,n,m⟩:=b;have j:a.length<=i:=k
  have f:(a.map iA).length<1000:=by rw [Qo];lia
  refine⟨⟨[.dat (.list (l.map aB)),.own (a.map iA),.dat (aB p.1),.dat (aB p.2)],rfl,?_⟩,?_⟩
  ·have t:fW (eB (aE eQ (aE aR (eV 2) (eC (.int 0))) (aE aR (eV 3) (eC (.int 0))))) (eB (aE eQ (aE aR (eV 2) (eC (.int 1))) (aE aR (eV 3) (eC (.int 1))))) [.dat (.list (l.map aB)),.dat (.list (a.map iA)),.dat (aB p.1),.dat (aB p.2)]=some (gE p.1 p.2):=by
    show(if(!(p.1.1 == p.2.1))=true then some (!(p.1.2 == p.2.2))else some false)=some (!(p.1.1 == p.2.1) && !(p.1.2 == p.2.2))
    cases p.1.1 == p.2.1 <;> rfl
   dsimp only
   cases q:gE p.1 p.2 with
   | true=>
    rw [q]at t
    refine(n3 (b:=true) t (fun _=>BU (ds:=a.map iA) (d:=iA (lH p)) rfl (bO (fR (bO rfl (zSi (p.1.1,p.2.2) (p.2.1,p.1.2))) rfl) rfl) f) fun z=>by cases z).trans ?_
    rw [if_pos rfl,Q6];rfl
   | false=>
    rw [q]at t;exact gR t
  ·show(if gE p.1 p.2=true then a++[lH p]else a).length<=i+1
   split
   ·rw [Qj,Yd];lia
   ·lia
 ·have e:∀(c:List Cp) (b:List Cp × Sl × Sl),(c.foldl (fun(b:List Cp × Sl × Sl) p=>(if gE p.1 p.2=true then b.1++[lH p]else b.1,Sl.dat (aB p.1),Sl.dat (aB p.2))) b).1=b.1++(c.filter fun p=>gE p.1 p.2).map lH:=by
   intro c
   induction c with
   | nil=>intro b;simp
   | cons z c h=>
    intro b;rw [YL,h,Jd];dsimp only
    cases gE z.1 z.2 with
    | true=>rw [if_pos rfl,if_pos rfl,Qs,QD];rfl
    | false=>rw [if_neg QB,if_neg QB]
  refine dS ?_
  show some (ZO (((l.zip l.tail).foldl (fun(b:List Cp × Sl × Sl) p=>(if gE p.1 p.2=true then b.1++[lH p]else b.1,Sl.dat (aB p.1),Sl.dat (aB p.2))) ([],.no,.no)).1.map iA))=_
  rw [e];rfl
theorem XX(n:qT a b):sR [fP w h W,aB a,aB b]=some (.bool (clear (cI w h W) a b)):=by
 have B:(line a b).length<=9:=by unfold line;rw [Qo];exact n.ok.len
 have E:(line a b).dropLast.length<=9:=by rw [List.length_dropLast];lia
 refine dQ ?_;unfold A9;rw [show cR 7 [fP w h W,aB a,aB b]=[.dat (fP w h W),.dat (aB a),.dat (aB b),.no,.no,.no,.no]from rfl];refine bP (e9 (bO rfl (SE n))) ?_;have d:∀ c,eJ false (aB c) (fP w h W)=some (.bool (cI w h W c)):=fun c=>VG false c w h W
 have m:=A3 (s:=bG 4) (g:=dV (eB (aE (eJ false) (eV 4) (eV 0))) (cH (eC (.bool false))) fA) aB (fun f=>∃ e,f=[.dat (fP w h W),.dat (aB a),.dat (aB b),.dat (.list ((line a b).map aB)),e,.no,.no]) (cI w h W) (.bool false) (line a b).dropLast [.dat (fP w h W),.dat (aB a),.dat (aB b),.dat (.list ((line a b).map aB)),.no,.no,.no] ⟨_,rfl⟩ (by
  rintro c _ f ⟨e,rfl⟩
  refine⟨[.dat (fP w h W),.dat (aB a),.dat (aB b),.dat (.list ((line a b).map aB)),.dat (aB c),.no,.no],rfl,?_⟩
  cases q:cI w h W c with
  | true=>rw [if_pos rfl];exact n3 (b:=true) (oB (oo rfl rfl (by rw [d,q]))) (fun _=>rfl) fun z=>by cases z
  | false=>rw [if_neg QB];exact⟨_,gR (oB (oo rfl rfl (by rw [d,q]))),⟨_,rfl⟩⟩)
 have x:cV (kG (eV 3) kL (oE (lE kF (eC (.int 1))))) [.dat (fP w h W),.dat (aB a),.dat (aB b),.dat (.list ((line a b).map aB)),.no,.no,.no]=some ((line a b).dropLast.map aB):=by
  show some (cutD ((line a b).map aB) none (some (-1)))=_
  rw [SH]
 unfold clear;by_cases j:(line a b).dropLast.any (cI w h W)=true
 ·rw [if_pos j]at m
  refine(BW (n0 x m)).trans ?_
  have:(line a b).dropLast.all (fun c => !cI w h W c)=false:=by
   rw [Jt];simp only [Bool.not_not];rw [j];rfl
  rw [this];rfl
 ·rw [if_neg j]at m;obtain⟨o,A,e,rfl⟩:=m;refine bP (n0 x A) ?_
  have a1:(line a b).dropLast.all (fun c => !cI w h W c)=true:=by
   rw [Jt];simp only [Bool.not_not];rw [Yl]at j;rw [j];rfl
  rw [a1,JU,<- IV]
  have l:=A3 (s:=gY 2 (dC (bG 5) (dC (bG 6) gK))) (g:=dV (fW (eB (aE (eJ false) (eV 5) (eV 0))) (eB (aE (eJ false) (eV 6) (eV 0)))) (cH (eC (.bool false))) fA) iA (fun f=>∃ t r,f=[.dat (fP w h W),.dat (aB a),.dat (aB b),.dat (.list ((line a b).map aB)),e,t,r]) (fun p=>cI w h W p.1 && cI w h W p.2) (.bool false) (lI (line a b)) [.dat (fP w h W),.dat (aB a),.dat (aB b),.dat (.list ((line a b).map aB)),e,.no,.no] ⟨_,_,rfl⟩ (by
   rintro p _ f ⟨t,r,rfl⟩
   refine⟨[.dat (fP w h W),.dat (aB a),.dat (aB b),.dat (.list ((line a b).map aB)),e,.dat (aB p.1),.dat (aB p.2)],rfl,?_⟩
   cases k:cI w h W p.1 <;> cases u:cI w h W p.2
   ·exact⟨_,gR (uZ (oB (oo rfl rfl (by rw [d,k])))),⟨_,_,rfl⟩⟩
   ·exact⟨_,gR (uZ (oB (oo rfl rfl (by rw [d,k])))),⟨_,_,rfl⟩⟩
   ·exact⟨_,gR (u4 (oB (oo rfl rfl (by rw [d,k]))) (oB (oo rfl rfl (by rw [d,u])))),⟨_,_,rfl⟩⟩
   ·show dV _ _ _ _=_
    exact n3 (b:=true) (u4 (oB (oo rfl rfl (by rw [d,k]))) (oB (oo rfl rfl (by rw [d,u])))) (fun _=>rfl) fun z=>by cases z)
  have v:cV (aY o8 (aD (eV 3) aG)) [.dat (fP w h W),.dat (aB a),.dat (aB b),.dat (.list ((line a b).map aB)),e,.no,.no]=some ((lI (line a b)).map iA):=
   lX (bO rfl (PU _ (by lia))) rfl
  by_cases i:(lI (line a b)).any (fun p=>cI w h W p.1 && cI w h W p.2)=true
  ·rw [if_pos i]at l
   refine(BW (n0 v l)).trans ?_
   have:(lI (line a b)).all (fun p => !(cI w h W p.1 && cI w h W p.2))=false:=by
    rw [Jt];simp only [Bool.not_not];rw [i];rfl
   rw [this]
  ·rw [if_neg i]at l;obtain⟨o,y,t,r,rfl⟩:=l;refine bP (n0 v y) ?_
   have:(lI (line a b)).all (fun p => !(cI w h W p.1 && cI w h W p.2))=true:=by
    rw [Jt];simp only [Bool.not_not];rw [Yl]at i;rw [i];rfl
   rw [this];exact dS rfl
theorem W5(c:w<=5)(e:h<=5)(g:cG w h a=true)(f:cG w h b=true):qT a b:=by
 obtain⟨a1,o,m,l⟩:=x8.mp g;obtain⟨b1,k,j,i⟩:=x8.mp f
 have d:∀{n:Nat}{x y:Int},n<=5->0<=x->x<n->0<=y->y<n->-4<=y-x/\y-x<=4:=fun v u t s r=>by lia
 have p:=d c a1 o b1 k;have q:=d e m l j i
 exact⟨p.1,p.2,q.1,q.2⟩
section
variable {w h:Nat}{W:C->Bool}(hw:w<=5)(hh:h<=5)
include hw hh
theorem zSd(a:cG w h c=true):cI w h W c=W c:=by unfold cI;rw [a,JU]
theorem FS(f:cG w h a=true)(g:W a=false):lP [aX w h W,aB a]=some (.list (((cells w h).filter fun b=>clear (cI w h W) a b).map aB)):=by
 have m:iE [mG w h W]=some (fP w h W):=Th hw hh;refine dQ ?_;unfold Az;rw [show cR 3 [aX w h W,aB a]=[.dat (aX w h W),.dat (aB a),.no]from rfl];refine bP (by(simp only [dn,reduceIte,Nat.reduceAdd,Nat.reduceSub,Nat.reduceLeDiff,WE f g] <;> rfl)) ?_;refine bP (by(simp only [dn,reduceIte,Nat.reduceAdd,Nat.reduceSub,Nat.reduceLeDiff,MI,m] <;> rfl)) ?_;refine dS (iZ (xs:=cells w h) aB (fun b=>clear (cI w h W) a b) aB (fun c=>∃ d,c=[d,.dat (fP w h W),.dat (aB a)]) (lX (bO rfl (Et hw hh)) rfl) (by rw [lQ];exact QH (Y3 hw hh) (by decide)) ⟨_,rfl⟩ ?_ rfl);rintro b i c ⟨d,rfl⟩;have e:=XX (w:=w) (h:=h) (W:=W) (W5 hw hh f (j6.mp i))
 exact⟨[.dat (aB b),.dat (fP w h W),.dat (aB a)],rfl,⟨_,rfl⟩,by simp only [dn,reduceIte,Nat.reduceAdd,Nat.reduceSub,Nat.reduceLeDiff,e],fun _=>rfl⟩
end
end My
namespace My
open PySem.SeqAt L2 DL SD SL EL DC
theorem BE(a:w<=5)(b:h<=5)(W:C->Bool):((cells w h).filter W).length<=25:=
 QH (Q0 _ _) (by rw [lQ];exact Y3 a b)
end My
namespace My
open PySem.SeqAt L2 DL SD SL EL DC
def bD(w h:Nat)(W:C->Bool):List C:=(cells w h).filter fun c => !W c
theorem qI:c∈bD w h W ↔ cG w h c=true/\W c=false:=by
 unfold bD;rw [Q9,j6,Yh]
theorem zSS(w h:Nat)(W:C->Bool):Up (bD w h W):=pS (pQ w h) _
theorem wX(a:w<=5)(b:h<=5)(W:C->Bool):(bD w h W).length<=25:=
 QH (Q0 _ _) (by rw [lQ];exact Y3 a b)
theorem G6(a:w<=5)(g:0<h)(b:h<=5):kY [aX w h W]=some (.list ((bD w h W).map aB)):=by
 refine dQ (dS (iZ (xs:=cells w h) aB (fun c => !cI w h W c) aB (fun d=>∃ e,d=[e,.dat (aX w h W)]) (lX (bO rfl (TM a g b)) rfl) (by rw [lQ];exact QH (Y3 a b) (by decide)) ⟨_,rfl⟩ ?_ ?_))
 ·rintro c _ d ⟨e,rfl⟩
  exact⟨[.dat (aB c),.dat (aX w h W)],rfl,⟨_,rfl⟩,oB (oo rfl rfl (Dx true c w h W)),fun _=>rfl⟩
 ·unfold bD;congr 1;refine List.filter_congr fun c f=>?_;rw [zSd a b (j6.mp f)]
def cB(l:List C)(f:C->D):List (D × D):=l.map fun c=>(aB c,f c)
theorem HC(a c:C):(cL (aB a) == some (row c))=(a == c):=by
 rw [kQ,Jl,beq_iff_eq,beq_iff_eq]
 exact⟨fun q=>nZ (QF q),fun q=>by rw [q]⟩
theorem FD(l:List C)(f:C->D)(c:C):eZ (cB l f) (row c)=l.contains c:=by
 unfold eZ cB;rw [List.any_map]
 induction l with
 | nil=>rfl
 | cons a l b=>
  rw [JD,b,Uy];congr 1
  show(cL (aB a) == some (row c))=_
  rw [HC,Jl,beq_iff_eq,beq_iff_eq]
  exact⟨Eq.symm,Eq.symm⟩
theorem x3(l:List C)(f:C->D):dX (cB l f)=true:=by
 unfold dX cB;rw [List.all_map,Yi];intro c _;rfl
theorem Gb(f:C->D)(h:c∈l):getD (cB l f) (row c)=some (f c):=by
 unfold getD cB
 induction l with
 | nil=>cases h
 | cons a l b=>
  rw [Qs,Y6,HC];by_cases e:a=c
  ·subst e;simp
  ·rw [beq_eq_false_iff_ne.mpr e];exact b ((Qq.mp h).resolve_left fun z=>e z.symm)
theorem zRz(l:List C)(f:C->D)(c:C)(h:c∉l):gI (cB l f) (row c) (f c)=cB (l++[c]) f:=by
 unfold gI;rw [FD,if_neg (by rw [Qv];exact h)];unfold cB;rw [Q6];rfl
theorem Tt(l:List C)(f:C->D):rV (.dict (cB l f))=some (l.map aB):=by
 show(if((cB l f).all fun e=>zO e.1)=true then some ((cB l f).map (·.1))else none)=_
 unfold cB;rw [if_pos (by rw [List.all_map,Yi];intro c _;rfl),Yj];rfl
theorem HA(f:C->D)(h:c∈l):q8 (.dict (cB l f)) (aB c)=some (f c):=by
 show((cL (aB c)).bind fun k=>if dX (cB l f)=true then getD (cB l f) k else none)=_
 rw [kQ,Qd,x3,if_pos rfl,Gb f h]
theorem VQ(b:ga ρ=some d)(a:rV d=some l):uW ga ρ=some l:=by
 unfold uW;rw [b];exact a
end My
namespace My
def bS:List Nat:=[110,101,115,119]
def p6(x:Nat):C:=if x=110 then(0,-1)else if x=101 then(1,0)else if x=115 then(0,1)else(-1,0)
def u6(x:Nat):Nat:=if x=110 then 115 else if x=101 then 119 else if x=115 then 110 else 101
def aP(a:C)(x:Nat):C:=(a.1+(p6 x).1,a.2+(p6 x).2)
theorem BF(h:x∈bS):x=110 ∨ x=101 ∨ x=115 ∨ x=119:=by
 unfold bS at h
 simpa using h
theorem GW(h:x∈bS)(a:C):u6 x∈bS/\aP (aP a x) (u6 x)=a:=by
 obtain⟨p,q⟩:=a;rcases BF h with rfl | rfl | rfl | rfl
 ·exact⟨by decide,Jm (show p+0+0=p by lia) (show q + -1+1=q by lia)⟩
 ·exact⟨by decide,Jm (show p+1 + -1=p by lia) (show q+0+0=q by lia)⟩
 ·exact⟨by decide,Jm (show p+0+0=p by lia) (show q+1 + -1=q by lia)⟩
 ·exact⟨by decide,Jm (show p + -1+1=p by lia) (show q+0+0=q by lia)⟩
def vis:C->List Nat->List C
 | s,[]=>[s]
 | s,x::u=>s::vis (aP s x) u
def fin:C->List Nat->C
 | s,[]=>s
 | s,x::u=>fin (aP s x) u
theorem sJ:∀(s:C) (u:List Nat) (x:Nat),fin s (u++[x])=aP (fin s u) x
 | _,[],_=>rfl
 | s,y::u,x=>sJ (aP s y) u x
theorem n5:∀(s:C) (u:List Nat) (x:Nat),vis s (u++[x])=vis s u++[aP (fin s u) x]
 | _,[],_=>rfl
 | s,y::u,x=>congrArg (s::·) (n5 (aP s y) u x)
theorem Cc:∀(s:C) (u:List Nat),(vis s u).length=u.length+1
 | _,[]=>rfl
 | s,y::u=>by show(vis (aP s y) u).length+1=_;rw [Cc];rfl
theorem Cb:∀(s:C) (u:List Nat),∃ l,vis s u=l++[fin s u]
 | s,[]=>⟨[],rfl⟩
 | s,y::u=>by
  obtain⟨l,e⟩:=Cb (aP s y) u
  exact⟨s::l,congrArg (s::·) e⟩
theorem AX(s:C)(u:List Nat):fin s u∈vis s u:=by
 obtain⟨l,e⟩:=Cb s u;rw [e];exact Qw _ (Qp.mpr rfl)
theorem B5(s:C)(u:List Nat):s∈vis s u:=by
 cases u <;> exact Qg
structure Pt(G:List C)(s:C)(u:List Nat)(c:C):Prop where
 w:∀ x∈u,x∈bS
 e:fin s u=c
 i:∀ x∈vis s u,x∈G
theorem Pt.nil(h:s∈G):Pt G s [] s:=⟨fun _ h=>(nomatch h),rfl,fun x a=>by rw [Qp.mp a];exact h⟩
theorem Pt.snoc(p:Pt G s u a)(c:x∈bS)(h:aP a x∈G):Pt G s (u++[x]) (aP a x):=by
 refine⟨fun y b=>?_,by rw [sJ,p.e],fun y b=>?_⟩
 ·rcases QA.mp b with b | b
  ·exact p.w y b
  ·rw [Qp.mp b];exact c
 ·rw [n5,p.e]at b;rcases QA.mp b with b | b
  ·exact p.i y b
  ·rw [Qp.mp b];exact h
theorem Pt.unsnoc(p:Pt G s (u++[x]) c):Pt G s u (fin s u)/\c=aP (fin s u) x/\x∈bS/\c∈G:=by
 refine⟨⟨fun y a=>p.w y (QL _ a),rfl,fun y a=>p.i y (by rw [n5];exact QL _ a)⟩,by rw [<- p.e,sJ],p.w x (Qw _ (Qp.mpr rfl)),?_⟩
 rw [<- p.e];exact p.i _ (AX _ _)
theorem Pt.mono(p:Pt G s u c)(h:∀ x∈G,x∈G'):Pt G' s u c:=⟨p.w,p.e,fun x a=>h x (p.i x a)⟩
theorem Pt.start(p:Pt G s u c):s∈G:=p.i s (B5 s u)
theorem Pt.stop(p:Pt G s u c):c∈G:=by rw [<- p.e];exact p.i _ (AX s u)
def back(u:List Nat):List Nat:=(u.map u6).reverse
theorem Kq:∀(s:C) (u:List Nat),(∀ x∈u,x∈bS)->fin (fin s u) (back u)=s/\vis (fin s u) (back u)=(vis s u).reverse
 | s,[],_=>⟨rfl,rfl⟩
 | s,x::u,h=>by
  obtain⟨a,c⟩:=Kq (aP s x) u fun y b=>h y (Qf _ b)
  have e:back (x::u)=back u++[u6 x]:=by unfold back;simp
  have o:=(GW (h x Qg) s).2;constructor
  ·show fin (fin (aP s x) u) (back (x::u))=s
   rw [e,sJ,a,o]
  ·show vis (fin (aP s x) u) (back (x::u))=(s::vis (aP s x) u).reverse
   rw [e,n5,a,c,o,List.reverse_cons]
theorem Pt.back(p:Pt G s u c):Pt G c (back u) s:=by
 obtain⟨d,b⟩:=Kq s u p.w;rw [p.e]at d b
 refine⟨fun x a=>?_,d,fun x a=>p.i x ?_⟩
 ·unfold My.back at a;rw [List.mem_reverse]at a;obtain⟨y,f,rfl⟩:=QT.mp a
  exact(GW (p.w y f) (0,0)).1
 ·rw [b,List.mem_reverse]at a;exact a
theorem tN(u:List Nat):u=[] ∨ ∃ v x,u=v++[x]:=by
 rcases List.eq_nil_or_concat u with h | ⟨v,x,h⟩
 ·exact .inl h
 ·exact .inr ⟨v,x,by simpa using h⟩
structure Lv(G:List C)(s:C)(k:Nat)(Y:List C)(g:C->List Nat)(R:List C):Prop where
 st:s∈G
 b:∀ c∈Y,Pt G s (g c) c
 c:∀ c∈Y,∀ u,Pt G s u c->(g c).length<=u.length
 d:∀ c,(∃ u,Pt G s u c/\u.length<=k)->c∈Y
 e:∀ c∈R,c∈Y/\(g c).length=k
 f:∀ c∈Y,(g c).length<=k
 r:∀ c∈Y,(g c).length=k->c∈R
structure Md(G:List C)(k:Nat)(Y:List C)(g:C->List Nat)(P:C->Nat->Prop)(Y':List C)(g':C->List Nat)(Fa:List C)(s:C):Prop where
 up:∀ c∈Y,c∈Y'/\g' c=g c
 nw:∀ c∈Y',c∉Y->Pt G s (g' c) c/\(g' c).length=k+1
 fa:∀ c,c∈Fa ↔ c∈Y'/\c∉Y
 cl:∀ a x,P a x->aP a x∈G->aP a x∈Y'
theorem Lv.zero(h:s∈G)(g:C->List Nat)(b:g s=[]):Lv G s 0 [s] g [s]:=by
 refine⟨h,fun c a=>?_,fun c a u _=>?_,fun c ⟨u,p,d⟩=>?_,fun c a=>?_,fun c a=>?_,fun c a _=>a⟩
 ·rw [Qp.mp a,b];exact Pt.nil h
 ·rw [Qp.mp a,b];exact Q2 _
 ·have:u=[]:=YA.mp (by lia)
  subst this;rw [<- p.e];exact Qp.mpr rfl
 ·exact⟨a,by rw [Qp.mp a,b];rfl⟩
 ·rw [Qp.mp a,b];exact Qk _
theorem Md.start{Y R:List C}:Md G k Y g (fun _ _=>False) Y g [] s:=
 ⟨fun c h=>⟨h,rfl⟩,fun c h n=>absurd h n,fun c=>by simp,fun _ _ h=>h.elim⟩
theorem Md.old(m:Md G k Y g P Y' g' Fa s)(h:aP a x∈G->aP a x∈Y'):Md G k Y g (fun b y=>P b y ∨ (b=a/\y=x)) Y' g' Fa s:=
 ⟨m.up,m.nw,m.fa,fun b y p c=>by
  rcases p with p | ⟨rfl,rfl⟩
  ·exact m.cl b y p c
  ·exact h c⟩
def jU(g:C->List Nat)(c:C)(v:List Nat):C->List Nat:=fun x=>if x=c then v else g x
theorem Md.add(l:Lv G s k Y g R)(m:Md G k Y g P Y' g' Fa s)(j:a∈R)(r:x∈bS)(u:aP a x∈G)(t:aP a x∉Y'):
  Md G k Y g (fun b y=>P b y ∨ (b=a/\y=x)) (Y'++[aP a x]) (jU g' (aP a x) (g' a++[x])) (Fa++[aP a x]) s:=by
 have f:aP a x∉Y:=fun z=>t (m.up _ z).1;have n:=(l.e a j).1;have w:g' a=g a:=(m.up a n).2;have v:(g a).length=k:=(l.e a j).2
 refine⟨fun c d=>⟨QL _ (m.up c d).1,?_⟩,fun c d o=>?_,fun c=>?_,fun b y p q=>?_⟩
 ·unfold jU;rw [if_neg (fun z=>f (by rw [<- z];exact d))]
  exact(m.up c d).2
 ·unfold jU;by_cases e:c=aP a x
  ·rw [if_pos e,w,e]
   exact⟨(l.b a n).snoc r u,by rw [Qj,v];rfl⟩
  ·rw [if_neg e];rcases QA.mp d with d | d
   ·exact m.nw c d o
   ·exact absurd (Qp.mp d) e
 ·rw [QA,QA,m.fa,Qp];constructor
  ·rintro(⟨h,i⟩ | rfl)
   ·exact⟨.inl h,i⟩
   ·exact⟨.inr rfl,f⟩
  ·rintro⟨h | h,i⟩
   ·exact .inl ⟨h,i⟩
   ·exact .inr h
 ·rcases p with p | ⟨rfl,rfl⟩
  ·exact QL _ (m.cl b y p q)
  ·exact Qw _ (Qp.mpr rfl)
theorem Lv.next(l:Lv G s k Y g R)(m:Md G k Y g P Y' g' Fa s)(E:∀ a∈R,∀ x∈bS,P a x):Lv G s (k+1) Y' g' Fa:=by
 have old:∀ c,c∈Y->(g' c).length<=k:=fun c i=>by rw [(m.up c i).2];exact l.f c i
 refine⟨l.st,fun c i=>?_,fun c i u p=>?_,fun c ⟨u,p,j⟩=>?_,fun c i=>?_,fun c i=>?_,fun c i e=>?_⟩
 ·by_cases h:c∈Y
  ·rw [(m.up c h).2];exact l.b c h
  ·exact(m.nw c i h).1
 ·by_cases h:c∈Y
  ·rw [(m.up c h).2];exact l.c c h u p
  ·rw [(m.nw c i h).2];by_cases j:u.length<=k
   ·exact absurd (l.d c ⟨u,p,j⟩) h
   ·lia
 ·rcases tN u with rfl | ⟨v,x,rfl⟩
  ·exact(m.up c (l.d c ⟨[],p,Q2 _⟩)).1
  ·obtain⟨z,o,t,n⟩:=p.unsnoc;rw [Qj]at j
   have A:v.length<=k:=by simpa using j
   have q:=l.d _ ⟨v,z,A⟩;by_cases B:(g (fin s v)).length=k
   ·rw [o]at n ⊢;exact m.cl _ x (E _ (l.r _ q B) x t) n
   ·have:(g (fin s v)).length<k:=by have:=l.f _ q;lia
    have y:=(l.b _ q).snoc t (by rw [<- o];exact n);rw [o]
    exact(m.up _ (l.d _ ⟨_,y,by rw [Qj];exact this⟩)).1
 ·obtain⟨w,F⟩:=(m.fa c).mp i
  exact⟨w,(m.nw c w F).2⟩
 ·by_cases h:c∈Y
  ·have:=old c h;lia
  ·rw [(m.nw c i h).2];exact Qk _
 ·refine(m.fa c).mpr ⟨i,fun h=>?_⟩
  have:=old c h
  lia
theorem Lv.all(l:Lv G s k Y g []):∀(u:List Nat) (c:C),Pt G s u c->c∈Y:=by
 intro u;generalize hn:u.length=n
 induction n generalizing u with
 | zero=>
  intro c p;exact l.d c ⟨u,p,by lia⟩
 | succ n j=>
  intro c p;rcases tN u with rfl | ⟨v,x,rfl⟩
  ·exact l.d c ⟨[],p,Q2 _⟩
  ·obtain⟨i,e,m,o⟩:=p.unsnoc;have a:=j v (by simpa using hn) _ i;have q:=l.f _ a
   have:(g (fin s v)).length≠k:=fun z=>(nomatch l.r _ a z)
   have h:=(l.b _ a).snoc m (by rw [<- e];exact o);rw [e];exact l.d _ ⟨_,h,by rw [Qj];show _+1<=k;lia⟩
theorem GH(d:∀ c,q c=true->p c=true)(l:List C):(l.filter q).length<=(l.filter p).length:=by
 induction l with
 | nil=>exact Qk _
 | cons b l a=>
  rw [Jd,Jd]
  cases e:q b with
  | true=>rw [d b e];simpa using a
  | false=>
   cases p b with
   | true=>simp;lia
   | false=>simpa using a
theorem AV{p q:C->Bool}(f:∀ c,q c=true->p c=true){l:List C}(h:∃ x∈l,p x=true/\q x=false):(l.filter q).length<(l.filter p).length:=by
 obtain⟨x,d,i,g⟩:=h
 induction l with
 | nil=>cases d
 | cons a l b=>
  rw [Jd,Jd];rcases Qq.mp d with e | d
  ·subst e;rw [i,g]
   have:=GH f l
   simp;lia
  ·have b:=b d
   cases e:q a with
   | true=>rw [f a e];simpa using b
   | false=>
    cases p a with
    | true=>simp;lia
    | false=>simpa using b
end My
namespace My
open PySem.SeqAt L2 DL SD SL EL DC TB TX
def ws(x:Nat):Str:=⟨#[x]⟩
def bR(u:List Nat):Str:=⟨u.toArray⟩
theorem xW:hJ=bS.map fun x=>(ws x,aB (p6 x)):=by
 have d:(ZM "n")=ws 110:=by decide
 have c:(ZM "e")=ws 101:=by decide
 have b:(ZM "s")=ws 115:=by decide
 have a:(ZM "w")=ws 119:=by decide
 unfold hJ;rw [d,c,b,a];rfl
theorem G4(h:x∈bS):(bS.map fun x=>(ws x,aB (p6 x))).lookup (ws x)=some (aB (p6 x)):=by
 rcases BF h with rfl | rfl | rfl | rfl <;> rfl
theorem XQ(b:ga ρ=some (.str x))(a:tb.lookup x=some d):oO tb ga ρ=some d:=by
 unfold oO;rw [b];exact a
theorem Bj(h:x∈bS):jZ [aB a,.str (ws x)]=some (aB (aP a x)):=by
 have b:=G4 h;rw [<- xW]at b;refine dQ (dS ?_);have t:oO hJ (eV 1) ((cR 2 [aB a,.str (ws x)]).map frz)=some (aB (p6 x)):=XQ rfl b;exact rM (oo rfl (oo t rfl rfl) rfl) (oo rfl (oo t rfl rfl) rfl)
def nb(G:List C)(a:C):List Nat:=bS.filter fun x=>G.contains (aP a x)
def zQ(a:C)(x:Nat):D:=.tuple [.str (ws x),aB (aP a x)]
theorem zSo(G:List C)(a:C):pC [eA G,aB a]=some (.list ((nb G a).map (zQ a))):=by
 refine dQ (dS (iZ (xs:=bS) (fun x=>.str (ws x)) (fun x=>G.contains (aP a x)) (zQ a) (fun c=>∃ d,c=[d,.dat (aB a),.dat (eA G)]) ?_ (by decide) ⟨_,rfl⟩ ?_ rfl))
 ·show some (hJ.map fun e=>Z7 e.1)=_
  rw [xW,Yj];rfl
 ·rintro x f c ⟨d,rfl⟩;have b:=Bj (a:=a) f
  exact⟨[.dat (.str (ws x)),.dat (aB a),.dat (eA G)],rfl,⟨_,rfl⟩,oB (oo (bO rfl b) rfl (tJ false (aP a x) G)),fun _=>rM rfl (bO rfl b)⟩
theorem A4{b:Type}(item:b->D)(I:List b->aA->Prop):∀(xs pre:List b) (ρ:aA),I pre ρ->
  (∀ a∈xs,∀ pre ρ,I pre ρ->∃ ρ1 ρ2,s (item a) ρ=some ρ1/\g ρ1=some (.nx ρ2)/\I (pre++[a]) ρ2)->∃ ρ',fX s g (xs.map item) ρ=some (.nx ρ')/\I (pre++xs) ρ'
 | [],pre,ρ,h0,_=>⟨ρ,rfl,by rw [QP];exact h0⟩
 | x::xs,pre,ρ,h0,h=>by
  obtain⟨ρ1,ρ2,f,e,c⟩:=h x Qg pre ρ h0;rw [Qs];unfold fX;rw [f,Qd,e,Qd]
  have:=A4 item I xs (pre++[x]) ρ2 c fun a d=>h a (Qf _ d)
  rw [QD]at this;exact this
theorem BH(I:Nat->aA->Prop)(Dn:aA->Prop)(h:∀ m ρ,I m ρ->(t (ρ.map frz)=some false/\Dn ρ) ∨ (t (ρ.map frz)=some true/\∃ ρ' m',g ρ=some (.nx ρ')/\m'<m/\I m' ρ')):
  ∀(n m:Nat) (ρ:aA),m<n->I m ρ->∃ ρ',i6 t g n ρ=some (.nx ρ')/\Dn ρ'
 | 0,m,ρ,hn,_=>absurd hn (Yx _)
 | n+1,m,ρ,hn,i=>by
  unfold i6;rcases h m ρ i with⟨e,d⟩ | ⟨e,ρ',m',b,lt,a⟩
  ·rw [e];exact⟨ρ,rfl,d⟩
  ·rw [e,Qd,if_pos rfl,b,Qd];exact BH I Dn h n m' ρ' (by lia) a
theorem Md.weak(m:Md G k Y g P Y' g' Fa s)(h:∀ b y,P' b y->aP b y∈G->P b y):Md G k Y g P' Y' g' Fa s:=
 ⟨m.up,m.nw,m.fa,fun b y p a=>m.cl b y (h b y p a) a⟩
def fD(g:C->List Nat):C->D:=fun c=>.str (bR (g c))
theorem L3(u:List Nat)(x:Nat)(h:u.length<=1000):j2 (.str (bR u)) (.str (ws x))=some (.str (bR (u++[x]))):=by
 show(if decide ((bR u).length+(ws x).length<=1000000)=true then some (Z7 (bR u++ws x))else none)=_
 have e:(bR u).length=u.length:=by unfold bR Str.length;simp
 have a:(ws x).length=1:=rfl;rw [e,a,if_pos (decide_eq_true (by lia))]
 have:bR u++ws x=bR (u++[x]):=by
  show(⟨u.toArray++#[x]⟩:Str)=⟨(u++[x]).toArray⟩
  simp
 rw [this]
theorem N5(v:List Nat)(h:b∉Y):gI (cB Y (fD g)) (row b) (.str (bR v))=cB (Y++[b]) (fD (jU g b v)):=by
 have e:cB Y (fD g)=cB Y (fD (jU g b v)):=by
  unfold cB;refine List.map_congr_left fun c a=>?_;unfold fD jU;rw [if_neg (fun z=>h (by rw [<- z];exact a))]
 have d:Z7 (bR v)=fD (jU g b v) b:=by unfold fD jU;rw [if_pos rfl]
 rw [e,d];exact zRz Y _ b h
theorem MX(a:Bool)(Y:List C)(f:C->D)(b:C):eJ a (aB b) (.dict (cB Y f))=some (.bool (if a then !Y.contains b else Y.contains b)):=by
 show(cL (aB b)).bind (fun k=>if dX (cB Y f)=true then some (J8 (if a then !eZ (cB Y f) k else eZ (cB Y f) k))else none)=_
 rw [kQ,Qd,x3,if_pos rfl,FD]
def left(G Y:List C):Nat:=(G.filter fun c => !Y.contains c).length
theorem HM(e:b∈G)(d:b∉Y):left G (Y++[b])<left G Y:=by
 refine AV (fun c a=>?_) ⟨b,e,?_,?_⟩
 ·rw [Yh,<- Yl,Qv]at a ⊢;exact fun z=>a (QL _ z)
 ·rw [Yh,<- Yl,Qv];exact d
 ·rw [Uu,Qv];exact Qw _ (Qp.mpr rfl)
section
variable {G:List C}{s:C}
def gL(G:List C)(s:C)(Y:List C)(g:C->List Nat)(R:List C)(a s5 s6 s7:Sl):aA:=[.dat (eA G),.dat (aB s),.ownD (cB Y (fD g)),.dat (.list (R.map aB)),a,s5,s6,s7]
def BB:aA->Option aV:=dV (eB (aE (eJ true) (eV 7) (eV 2))) (bC (rR 2 (eV 7) (aE j2 (nG 2 (eV 5)) (eV 6))) (kN 4 (eV 7))) fA
structure Bd(G Y' Fa:List C)(n:Nat):Prop where
 k:Y'.length+left G Y'<=26
 f:Fa.length+left G Y'<=n
inductive Dc(G:List C)(s:C)(k:Nat)(Y:List C)(g:C->List Nat)(P:C->Nat->Prop)(f:List C->(C->List Nat)->List C->Option aV)(n:Nat)(o:Option aV):Prop
 | mk (K2:List C) (g2:C->List Nat) (Fa2:List C) (e:o=f K2 g2 Fa2) (m:Md G k Y g P K2 g2 Fa2 s) (b:Bd G K2 Fa2 n):Dc G s k Y g P f n o
theorem Wq(l:Lv G s k Y g R)(m:Md G k Y g P Y' g' Fa s)(n:a∈R)(r:x∈nb G a)(E:k<=60)(o:Bd G Y' Fa 30):
  Dc G s k Y g (fun b y=>P b y ∨ (b=a/\y=x)) (fun Y g Fa=>some (.nx (gL G s Y g R (.own (Fa.map aB)) (.dat (aB a)) (.dat (.str (ws x))) (.dat (aB (aP a x)))))) 30 (BB (gL G s Y' g' R (.own (Fa.map aB)) (.dat (aB a)) (.dat (.str (ws x))) (.dat (aB (aP a x))))):=by
 obtain⟨t,j⟩:=Q9.mp r;have j:=Qv.mp j;have A:=(m.up a (l.e a n).1).1
 have v:(g' a).length<=1000:=by rw [(m.up a (l.e a n).1).2,(l.e a n).2];lia
 have h:=MX true Y' (fD g') (aP a x);by_cases c:aP a x∈Y'
 ·rw [Qv.mpr c]at h
  exact⟨Y',g',Fa,gR (oB (oo rfl rfl h)),m.old fun _=>c,o⟩
 ·rw [show Y'.contains (aP a x)=false from by rw [Bool.eq_false_iff];exact fun z=>c (Qv.mp z)]at h;have B:=HM j c;have b1:=o.k;have F:=o.f
  refine⟨Y'++[aP a x],jU g' (aP a x) (g' a++[x]),Fa++[aP a x],n3 (b:=true) (oB (oo rfl rfl h)) (fun _=>?_) fun z=>(by cases z),m.add l n t j c,⟨by rw [Qj,Yd];lia,by rw [Qj,Yd];lia⟩⟩
  have u:decide ((cB Y' (fD g')).length<1000)=true:=decide_eq_true (by unfold cB;rw [Qo];lia);generalize er:gL G s Y' g' R (.own (Fa.map aB)) (.dat (aB a)) (.dat (.str (ws x))) (.dat (aB (aP a x)))=ρ
  have own:nG 2 (eV 5) ρ=some (.str (bR (g' a))):=by
   subst er
   show(cL (aB a)).bind (fun p=>if dX (cB Y' (fD g'))=true then getD (cB Y' (fD g')) p else none)=_
   rw [kQ,Qd,x3,if_pos rfl,Gb (fD g') A];rfl
  have w:=oo (gb:=eV 6) own (by subst er;rfl) (L3 (g' a) x v);subst er
  have pt:rR 2 (eV 7) (aE j2 (nG 2 (eV 5)) (eV 6)) (gL G s Y' g' R (.own (Fa.map aB)) (.dat (aB a)) (.dat (.str (ws x))) (.dat (aB (aP a x))))=some (.nx (gL G s (Y'++[aP a x]) (jU g' (aP a x) (g' a++[x])) R (.own (Fa.map aB)) (.dat (aB a)) (.dat (.str (ws x))) (.dat (aB (aP a x))))):=by
   show((aE j2 (nG 2 (eV 5)) (eV 6) _).bind fun d=>(some (aB (aP a x))).bind fun q=>(cL q).bind fun p=>if(dX (cB Y' (fD g')) && decide ((cB Y' (fD g')).length<1000) && rN 2 _)=true then some (aV.nx _)else none)=_
   rw [w,Qd,Qd,kQ,Qd,x3,N5 _ c,u];rfl
  refine bP pt ((BU (i:=4) (ds:=Fa.map aB) (d:=aB (aP a x)) rfl rfl (by rw [Qo];lia)).trans ?_);rw [Q6];rfl
def D7:aA->Option aV:=gX (cV (aY pC (aD (eV 0) (aD (eV 5) aG)))) (gY 2 (dC (bG 6) (dC (bG 7) gK))) BB
inductive uI(G:List C)(s:C)(k:Nat)(Y:List C)(g:C->List Nat)(R:List C)(P:C->Nat->Prop)(q:Sl->Prop)(ρ:aA):Prop
 | mk (Y':List C) (g':C->List Nat) (Fa:List C) (s5 s6 s7:Sl) (er:ρ=gL G s Y' g' R (.own (Fa.map aB)) s5 s6 s7) (h5:q s5) (m:Md G k Y g P Y' g' Fa s) (b:Bd G Y' Fa 30):uI G s k Y g R P q ρ
theorem Nf(l:Lv G s k Y g R)(M:k<=60)(O:Bd G Y [] 30):
  ∃ ρ',fX (bG 5) D7 (R.map aB) (gL G s Y g R (.own []) s5 s6 s7)=some (.nx ρ')/\uI G s k Y g R (fun b y=>b∈([]++R)/\y∈bS) (fun _=>True) ρ':=by
 refine A4 aB (fun pre d=>uI G s k Y g R (fun b y=>b∈pre/\y∈bS) (fun _=>True) d) R [] _ ⟨Y,g,[],s5,s6,s7,rfl,trivial,(Md.start (R:=R)).weak fun b y p _=>(nomatch p.1),O⟩ fun a Q pre d f=>?_;obtain⟨v,u,Fa,X,i,h,rfl,_,m,o⟩:=f
 obtain⟨F,U,J⟩:=A4 (s:=gY 2 (dC (bG 6) (dC (bG 7) gK))) (g:=BB) (zQ a) (fun E d=>uI G s k Y g R (fun b y=>(b∈pre/\y∈bS) ∨ (b=a/\y∈E)) (fun t=>t=.dat (aB a)) d) (nb G a) []
  (gL G s v u R (.own (Fa.map aB)) (.dat (aB a)) i h) ⟨v,u,Fa,_,i,h,rfl,rfl,m.weak fun b y p _=>p.elim id fun q=>(nomatch q.2),o⟩ fun x K E d f=>by
   obtain⟨w,r,Fa2,H,B,A,rfl,rfl,j,c⟩:=f;obtain⟨W,S,z,T,I,n⟩:=Wq l j Q K M c
   refine⟨gL G s w r R (.own (Fa2.map aB)) (.dat (aB a)) (.dat (.str (ws x))) (.dat (aB (aP a x))),_,rfl,T,W,S,z,_,_,_,rfl,rfl,I.weak fun b y p _=>?_,n⟩
   rcases p with p | ⟨p,q⟩
   ·exact .inl (.inl p)
   ·rcases QA.mp q with q | q
    ·exact .inl (.inr ⟨p,q⟩)
    ·exact .inr ⟨p,Qp.mp q⟩
 obtain⟨w,r,Fa2,H,B,A,rfl,rfl,j,c⟩:=J
 refine⟨gL G s v u R (.own (Fa.map aB)) (.dat (aB a)) i h,_,rfl,n0 (lX (bO rfl (zSo G a)) rfl) U,w,r,Fa2,_,B,A,rfl,trivial,j.weak fun b y p N=>?_,c⟩
 rcases QA.mp p.1 with q | q
 ·exact .inl ⟨q,p.2⟩
 ·have e:=Qp.mp q;subst e;exact .inr ⟨rfl,by rw [YK];exact Q9.mpr ⟨p.2,Qv.mpr N⟩⟩
theorem TQ(m:Md G k Y g P Y' g' Fa s):left G Y'<=left G Y/\(Fa≠[]->left G Y'<left G Y):=by
 have sub:∀ c,(!Y'.contains c)=true->(!Y.contains c)=true:=fun c a=>by
  rw [Yh,<- Yl,Qv]at a ⊢;exact fun z=>a (m.up c z).1
 refine⟨GH sub G,fun e=>?_⟩
 obtain⟨c,a⟩:=List.exists_mem_of_ne_nil _ e;obtain⟨d,b⟩:=(m.fa c).mp a;refine AV sub ⟨c,(m.nw c d b).1.stop,?_,?_⟩
 ·rw [Yh,<- Yl,Qv];exact b
 ·rw [Uu,Qv];exact d
inductive WI(G:List C)(s:C)(m:Nat)(ρ:aA):Prop
 | mk (Y:List C) (g:C->List Nat) (R:List C) (s4 s5 s6 s7:Sl) (k:Nat) (er:ρ=gL G s Y g R s4 s5 s6 s7) (lv:Lv G s k Y g R) (hm:m=2 * left G Y+(if R=[]then 0 else 1)) (hk:k+m<=55) (hj:k+left G Y<=25+(if R=[]then 1 else 0)) (hK:Y.length+left G Y<=26):WI G s m ρ
inductive WD(G:List C)(s:C)(ρ:aA):Prop
 | mk (Y:List C) (g:C->List Nat) (s4 s5 s6 s7:Sl) (k:Nat) (er:ρ=gL G s Y g [] s4 s5 s6 s7) (lv:Lv G s k Y g []) (hk:k<=26) (hL:Y.length<=26):WD G s ρ
def Pg:aA->Option aV:=bC (lK 4 aG) (bC (gX (cV (eV 3)) (bG 5) D7) (rQ 4 (cE 3 (eV 4))))
theorem zSH(m:Nat)(ρ:aA)(o:WI G s m ρ):(eB (aE eQ (eV 3) (dG aG)) (ρ.map frz)=some false/\WD G s ρ) ∨ (eB (aE eQ (eV 3) (dG aG)) (ρ.map frz)=some true/\∃ ρ' m',Pg ρ=some (.nx ρ')/\m'<m/\WI G s m' ρ'):=by
 obtain⟨Y,g,R,p,s5,s6,s7,k,rfl,lv,t,y,l,w⟩:=o;have b:=tS R [];by_cases c:R=[]
 ·subst c;exact .inl ⟨oB (oo rfl rfl b),Y,g,p,s5,s6,s7,k,rfl,lv,by rw [if_pos rfl]at l;lia,by lia⟩
 ·rw [decide_eq_false c]at b;rw [if_neg c]at t l;obtain⟨ρ',e,d,n,Fa,i,h,f,rfl,_,j,u⟩:=Nf (s5:=s5) (s6:=s6) (s7:=s7) lv (by lia) ⟨w,by rw [JV];lia⟩;obtain⟨le,lt⟩:=TQ j
  have dn:2 * left G d+(if Fa=[]then 0 else 1)<m:=by
   split
   ·lia
   ·rename_i q;have:=lt q;lia
  exact .inr ⟨oB (oo rfl rfl b),gL G s d n Fa (.dat (.list (Fa.map aB))) i h f,_,bP (ρ':=gL G s Y g R (.own []) s5 s6 s7) rfl (bP (n0 (lX rfl rfl) e) rfl),dn,d,n,Fa,_,i,h,f,k+1,rfl,lv.next j fun a v x r=>⟨by rw [YK];exact v,r⟩,rfl,by lia,(by split <;> first | lia | (rename_i q;have:=lt q;lia)),u.k⟩
theorem zS1(hs:s∈G)(d:G.length<=25):∃ Y g,Y.length<=26/\(∀ u c,Pt G s u c->c∈Y)/\(∀ c∈Y,Pt G s (g c) c/\(∀ u,Pt G s u c->(g c).length<=u.length)/\(g c).length<=26)/\sV [eA G,aB s]=some (.dict (cB Y (fD g))):=by
 have o:left G [s]<=25:=QH (Q0 _ _) d;obtain⟨ρ',i,Y,g,n,m,l,j,k,rfl,lv,e,h⟩:=BH (WI G s) (WD G s) zSH 900 (2 * left G [s]+1) (gL G s [s] (fun _=>[]) [s] .no .no .no .no) (by lia) ⟨[s],_,[s],_,_,_,_,0,rfl,Lv.zero hs _ rfl,by simp,by lia,(by rw [if_neg (by simp)];lia),by rw [Yd];lia⟩
 refine⟨Y,g,h,fun u c p=>lv.all u c p,fun c a=>⟨lv.b c a,lv.c c a,QH (lv.f c a) e⟩,dQ ?_⟩
 exact bP (ρ':=[.dat (eA G),.dat (aB s),.ownD (cB [s] (fD fun _=>[])),.no,.no,.no,.no,.no]) rfl (bP rfl (bP i (dS rfl)))
end
end My
namespace My
open PySem.SeqAt L2 DL OB SD SL EL DC
section
variable {B:Type}{ρ ρ':aA}{Ω Ω1 Ω2:List B}{d x y:D}{ds:List D}{ga gb:GX B D}{gr:GX B (List D)}{t u:GX B Bool}{g g1 g2:GS B}{j i:Nat}{b:B}
theorem rP{b:Type}{a:b}{g:aA->Option b}(h:g ρ=some a):xP g ρ Ω=some (a,Ω):=by
 unfold xP;rw [h];rfl
theorem mB{G:GM B}{gr:aA->Option (List D)}{r:D × B}(d:gr ρ=some ds)(c:Ω[j]?=some b)(a:G (none::ds.map some) b=some r):eX j G gr ρ Ω=some (r.1,Ω.set j r.2):=by
 unfold eX;rw [d,Qd,c,Qd,a];rfl
theorem DQ{G:GM B}{gr:aA->Option (List (Option D))}{a:List (Option D)}{r:D × B}(e:gr ρ=some a)(d:Ω[j]?=some b)(c:G a b=some r):oZ j G gr ρ Ω=some (r.1,Ω.set j r.2):=by
 unfold oZ;rw [e,Qd,d,Qd,c];rfl
theorem DR(c:ga ρ Ω=some (x,Ω1))(b:gb ρ Ω1=some (y,Ω2))(a:f x y=some d):o3 f ga gb ρ Ω=some (d,Ω2):=by
 unfold o3;rw [c,Qd];dsimp only;rw [b,Qd];dsimp only;rw [a];rfl
theorem rB(h:ga ρ Ω=some (.bool k,Ω1)):xB ga ρ Ω=some (k,Ω1):=by
 unfold xB;rw [h];rfl
theorem i4(h:ga ρ Ω=some (d,Ω1))(a:gr ρ Ω1=some (ds,Ω2)):fL ga gr ρ Ω=some (d::ds,Ω2):=by
 unfold fL;rw [h,Qd];dsimp only;rw [a];rfl
theorem Oh(h:ga ρ Ω=some (x,Ω1))(a:gb ρ Ω1=some (y,Ω2)):vN (fL ga (fL gb jV)) ρ Ω=some (.tuple [x,y],Ω2):=by
 unfold vN;rw [i4 h (i4 (gr:=jV) a rfl)];rfl
theorem cO(h:g1 ρ Ω=some (.nx ρ' Ω1))(a:g2 ρ' Ω1=r):bT g1 g2 ρ Ω=r:=by
 unfold bT;rw [h];exact a
theorem e8(h:ga ρ Ω=some (d,Ω1)):dH i ga ρ Ω=some (.nx (ρ.set i (.dat d)) Ω1):=by
 unfold dH;rw [h];rfl
theorem Pf(h:ga ρ Ω=some (d,Ω1)):mJ ga ρ Ω=some (.nx ρ Ω1):=by
 unfold mJ;rw [h];rfl
theorem kP(h:ga ρ Ω=some (d,Ω1)):eU ga ρ Ω=some (.rt d Ω1):=by
 unfold eU;rw [h];rfl
theorem pU(h:t ρ Ω=some (false,Ω1)):gZ t g1 jM ρ Ω=some (.nx ρ Ω1):=by
 unfold gZ;rw [h];rfl
theorem D6(h:t ρ Ω=some (true,Ω1))(a:g1 ρ Ω1=r):gZ t g1 g2 ρ Ω=r:=by
 unfold gZ;rw [h];exact a
theorem D5(h:gi ρ=some xs)(a:n7 i g xs ρ Ω=r):o6 gi i g ρ Ω=r:=by
 unfold o6;rw [h];exact a
theorem tG{n:Nat}{a:List (Option D)}{c:B}{Ω:List B}(e:a[j]?=some none)(h:g (jL n a) [b]=some (.rt d (c::Ω))):kH j n g a b=some (d,c):=by
 unfold kH;rw [e];dsimp only;rw [h]
end
structure Sh(d:D):Prop where
 l:d.canLay0=true
 d:d.depth<=9
theorem IC:∀{l:List D},(∀ d∈l,Sh d)->Zg l=true/\Zs l<=9
 | [],_=>⟨rfl,Q2 _⟩
 | d::l,h=>by
  obtain⟨e,c⟩:=IC (l:=l) fun x b=>h x (Qf _ b);have a:=h d Qg
  refine⟨by rw [Zg,a.l,e];rfl,?_⟩
  rw [Zs];exact Nat.max_le.mpr ⟨a.d,c⟩
theorem Xi(h:∀ d∈l,Sh d):Zz (.list l)=true:=by
 obtain⟨a,b⟩:=IC h
 have:UI (.list l)<=64:=by show Zs l+1<=64;lia
 simp [Zz,ZP,a,this]
end My
namespace My
open PySem.SeqAt L2 DL OB SD SL EL DC TB TX KP
section
variable {B:Type}{ρ ρ':aA}{Ω Ω1:List B}{d:D}{ds:List D}{ga:GX B D}{gr:GX B (List D)}{g:GS B}{i j:Nat}{b b':B}
theorem Kr{c:Type}(item:c->D)(St:List c->aA->List B->Prop):∀(xs pre:List c) (ρ:aA) (Ω:List B),(∀ pre' x post ρ Ω,pre++xs=pre'++x::post->St pre' ρ Ω->∃ ρ' Ω',g (ρ.set i (.dat (item x))) Ω=some (.nx ρ' Ω')/\St (pre'++[x]) ρ' Ω')->St pre ρ Ω->∃ ρ' Ω',n7 i g (xs.map item) ρ Ω=some (.nx ρ' Ω')/\St (pre++xs) ρ' Ω'
 | [],pre,ρ,Ω,_,h=>⟨ρ,Ω,rfl,by rw [QP];exact h⟩
 | x::xs,pre,ρ,Ω,hs,h=>by
  obtain⟨b,f,m,k⟩:=hs pre x xs ρ Ω rfl h;obtain⟨a,d,l,j⟩:=Kr item St xs (pre++[x]) b f (fun pre' y post ρ Ω e=>hs pre' y post ρ Ω (by rw [<- e,QD];rfl)) k
  refine⟨a,d,?_,by rw [QD]at j;exact j⟩
  rw [Qs];unfold n7;rw [m];exact l
theorem Ic{get:B->Option D}(c:Ω[j]?=some b)(a:get b=some d):sZ j get ρ Ω=some (d,Ω):=by
 unfold sZ;rw [c,Qd,a];rfl
theorem t7(b:gr ρ Ω=some (ds,Ω1))(a:G ds=some d):mH G gr ρ Ω=some (d,Ω1):=by
 unfold mH;rw [b,Qd];dsimp only;rw [a];rfl
end
theorem PM(d:List C)(b:C):aR (.list ((d++[b]).map aB)) (.int (-1))=some (aB b):=by
 show L2.atI ((d++[b]).map aB) (-1)=_
 unfold L2.atI L2.ixN;rw [if_neg (by decide),Qo,Qj,Yd];rw [if_pos (by lia)];rw [show((-1:Int)+((d.length+1:Nat):Int)).toNat=d.length by lia];simp
theorem PL(a:C)(u:List Nat):aR (.list ((vis a u).map aB)) (.int (-1))=some (aB (fin a u)):=by
 obtain⟨l,e⟩:=Cb a u;rw [e];exact PM l _
theorem HS(u:List Nat):Aq (.str (bR u))=some (u.map fun x=>.str (ws x)):=by
 show some ((u.toArray.toList.map fun c=>(⟨#[c]⟩:Str)).map Z7)=_
 rw [Yj];rfl
theorem Hx(b:ga ρ=some d)(a:Aq d=some l):oQ ga ρ=some l:=by
 unfold oQ;rw [b];exact a
def at0(l:List C)(k:Nat):C:=l.getD k (0,0)
theorem DB(c:0<=i)(b:i<l.length):aR (.list (l.map aB)) (.int i)=some (aB (at0 l i.toNat))/\at0 l i.toNat∈l:=by
 have a:i.toNat<l.length:=by lia
 have e:at0 l i.toNat=l[i.toNat]:=by unfold at0;simp [List.getD,a]
 constructor
 ·show L2.atI (l.map aB) i=_
  unfold L2.atI L2.ixN;rw [Qo,if_pos c,if_pos b,e]
  simp [a]
 ·rw [e];exact Yy a
theorem Fw(l m:List C)(h:l.length+m.length<=1000):bX (.list (l.map aB)) (.list (m.map aB))=some (.list ((l++m).map aB)):=by
 show(if(l.map aB).length+(m.map aB).length<=1000 then some (ZO (l.map aB++m.map aB))else none)=_
 rw [if_pos (by rw [Qo,Qo];exact h),Q6]
theorem Nd(h:u.length<=100):wH [.str (bR u)]=some (.int (u.length:Int)):=by
 show(if decide ((bR u).length<=1000000)=true then some (J9 ((bR u).length:Int))else none)=_
 have e:(bR u).length=u.length:=by unfold bR Str.length;simp
 rw [e,if_pos (decide_eq_true (by lia))]
end My
namespace My
open PySem.SeqAt L2 DL OB SD SL EL DC TB TX KP MN
theorem GI:∀(s:C) (u v:List Nat),fin s (u++v)=fin (fin s u) v
 | _,[],_=>rfl
 | s,x::u,v=>GI (aP s x) u v
theorem Pt.app(p:Pt G s u a)(q:Pt G a v c):Pt G s (u++v) c:=by
 induction u generalizing s with
 | nil=>
  have e:s=a:=p.e;rw [e];exact q
 | cons x u d=>
  have r:=d (s:=aP s x) ⟨fun y b=>p.w y (Qf _ b),p.e,fun y b=>p.i y (Qf _ b)⟩
  refine⟨fun y b=>?_,r.e,fun y b=>?_⟩
  ·rcases Qq.mp b with e | b
   ·rw [e];exact p.w x Qg
   ·exact r.w y b
  ·rcases Qq.mp b with e | b
   ·rw [e];exact p.i s Qg
   ·exact r.i y b
theorem Ca:∀(s:C) (u v:List Nat),∀ y∈vis s u,y∈vis s (u++v)
 | s,[],v,y,h=>by
  rw [Qp.mp h];exact B5 s v
 | s,x::u,v,y,h=>by
  rcases Qq.mp h with e | h
  ·rw [e];exact Qg
  ·exact Qf _ (Ca (aP s x) u v y h)
theorem Pt.pre(p:Pt G s (u++v) c):Pt G s u (fin s u):=
 ⟨fun y a=>p.w y (QL _ a),rfl,fun y a=>p.i y (Ca s u v y a)⟩
theorem zSZ:∀{u:List Nat}{c:C},Pt G s u c->∀ y∈vis s u,∃ v,Pt G s v y:=by
 intro u;generalize hn:u.length=n
 induction n generalizing u with
 | zero=>
  intro c p y a
  have:u=[]:=YA.mp hn
  subst this;rw [Qp.mp a]
  exact⟨[],Pt.nil p.start⟩
 | succ n b=>
  intro c p y a;rcases tN u with rfl | ⟨v,x,rfl⟩
  ·rw [Qp.mp a]
   exact⟨[],Pt.nil p.start⟩
  ·rw [n5]at a;rcases QA.mp a with a | a
   ·exact b (by simpa using hn) p.unsnoc.1 y a
   ·rw [Qp.mp a,<- sJ,p.e]
    exact⟨_,p⟩
section
variable {w h:Nat}{W:C->Bool}
def vw(w h:Nat)(W:C->Bool)(a:C):List C:=(cells w h).filter fun b=>clear (cI w h W) a b
def kJ(w h:Nat)(W:C->Bool)(c:List C)(a:C):List C:=c++(vw w h W a).filter fun b => !c.contains b
def cW(w h:Nat)(W:C->Bool)(s:C)(u:List Nat):List C:=(vis s u).foldl (kJ w h W) []
theorem Cn:b∈vw w h W a ↔ cG w h b=true/\clear (cI w h W) a b=true:=by
 unfold vw;rw [Q9,j6]
theorem TC(s:C):cW w h W s []=vw w h W s:=by
 show []++(vw w h W s).filter _=_
 rw [YK];exact List.filter_eq_self.mpr fun _ _=>rfl
theorem TF(s:C)(u:List Nat)(x:Nat):cW w h W s (u++[x])=kJ w h W (cW w h W s u) (aP (fin s u) x):=by
 unfold cW;rw [n5,List.foldl_append];rfl
theorem Ti:b∈kJ w h W kn a ↔ b∈kn ∨ b∈vw w h W a:=by
 unfold kJ;rw [QA,Q9];constructor
 ·rintro(q | q)
  ·exact .inl q
  ·exact .inr q.1
 ·intro q;by_cases c:b∈kn
  ·exact .inl c
  ·exact .inr ⟨q.resolve_left c,by rw [Yh,<- Yl,Qv];exact c⟩
theorem G8:∀(l acc:List C) (b:C),b∈l.foldl (kJ w h W) acc ↔ b∈acc ∨ ∃ a∈l,b∈vw w h W a
 | [],acc,b=>by simp
 | a::l,acc,b=>by
  rw [YL,G8 l,Ti];constructor
  ·rintro((q | q) | ⟨c,d,f⟩)
   ·exact .inl q
   ·exact .inr ⟨a,Qg,q⟩
   ·exact .inr ⟨c,Qf _ d,f⟩
  ·rintro(q | ⟨c,d,f⟩)
   ·exact .inl (.inl q)
   ·rcases Qq.mp d with e | d
    ·exact .inl (.inr (e ▸ f))
    ·exact .inr ⟨c,d,f⟩
theorem qH:b∈cW w h W s u ↔ ∃ a∈vis s u,b∈vw w h W a:=by
 unfold cW;rw [G8]
 exact⟨fun q=>q.resolve_left (fun z=>nomatch z),.inr⟩
theorem Cr(a:C):(vw w h W a).Nodup:=pT (pS (pQ w h) _)
theorem He(d:kn.Nodup)(a:C):(kJ w h W kn a).Nodup:=by
 unfold kJ;rw [YI]
 refine⟨d,(Cr a).sublist List.filter_sublist,fun x c y b e=>?_⟩
 subst e
 have:=(Q9.mp b).2
 rw [Yh,<- Yl,Qv]at this;exact this c
theorem Hd:∀(l acc:List C),acc.Nodup->(l.foldl (kJ w h W) acc).Nodup
 | [],_,h=>h
 | a::l,acc,h=>Hd l _ (He h a)
theorem Cq(s:C)(u:List Nat):(cW w h W s u).Nodup:=Hd _ _ Ji
theorem HI(q:b∈cW w h W s u):cG w h b=true:=by
 obtain⟨a,_,q⟩:=qH.mp q
 exact(Cn.mp q).1
theorem Lb:∀{l m:List C},l.Nodup->(∀ c∈l,c∈m)->l.length<=m.length
 | [],m,_,_=>Q2 _
 | a::l,m,hn,hs=>by
  have b:=hs a Qg
  have:=Lb (l:=l) (m:=m.erase a) (Yp.mp hn).2 fun c d=>by
   have f:c≠a:=fun e=>(Yp.mp hn).1 (e ▸ d)
   exact(List.mem_erase_of_ne f).mpr (hs c (Qf _ d))
  rw [List.length_erase_of_mem b]at this
  have:=List.length_pos_of_mem b
  rw [Qt];lia
theorem HJ(a:w<=5)(b:h<=5)(s:C)(u:List Nat):(cW w h W s u).length<=25:=by
 refine QH (Lb (m:=cells w h) (Cq s u) fun c d=>j6.mpr (HI d)) ?_;rw [lQ];exact Y3 a b
theorem W7(b:x∈bS):dN ((aP a x).1-a.1)+dN ((aP a x).2-a.2)<2:=by
 obtain⟨p,q⟩:=a;unfold dN;rcases BF b with rfl | rfl | rfl | rfl
 ·show(if p+0-p<0 then -(p+0-p)else p+0-p)+(if q + -1-q<0 then -(q + -1-q)else q + -1-q)<2
  split <;> split <;> lia
 ·show(if p+1-p<0 then -(p+1-p)else p+1-p)+(if q+0-q<0 then -(q+0-q)else q+0-q)<2
  split <;> split <;> lia
 ·show(if p+0-p<0 then -(p+0-p)else p+0-p)+(if q+1-q<0 then -(q+1-q)else q+1-q)<2
  split <;> split <;> lia
 ·show(if p + -1-p<0 then -(p + -1-p)else p + -1-p)+(if q+0-q<0 then -(q+0-q)else q+0-q)<2
  split <;> split <;> lia
theorem HY(b:a∈bD w h W):cI w h W a=false:=by
 obtain⟨d,c⟩:=qI.mp b;unfold cI;rw [d,c];rfl
theorem IA(b:a∈bD w h W):a∈vw w h W a:=by
 refine Cn.mpr ⟨(qI.mp b).1,EN ?_ (HY b)⟩;unfold dN
 split <;> split <;> lia
theorem XW(d:a∈bD w h W)(b:x∈bS)(c:cG w h (aP a x)=true):aP a x∈vw w h W a:=
 Cn.mpr ⟨c,EN (W7 b) (HY d)⟩
def gG(w h:Nat)(W:C->Bool)(s:C)(u:List Nat):List C:=(bD w h W).filter fun c=>(cW w h W s u).contains c
theorem tQ:c∈gG w h W s u ↔ c∈bD w h W/\c∈cW w h W s u:=by
 unfold gG;rw [Q9,Qv]
def uO(w h:Nat)(W:C->Bool)(s:C)(u:List Nat):Prop:=∀ v b,Pt (gG w h W s u) (fin s u) v b->∀ x∈bS,cG w h (aP b x)=true->aP b x∈cW w h W s u
theorem IF(p:Pt (bD w h W) s u (fin s u)):Pt (gG w h W s u) s u (fin s u):=
 ⟨p.w,rfl,fun y a=>tQ.mpr ⟨p.i y a,qH.mpr ⟨y,a,IA (p.i y a)⟩⟩⟩
theorem wF(p:Pt (bD w h W) s u (fin s u))(g:uO w h W s u):∀(v:List Nat) (b:C),Pt (bD w h W) s v b->b∈cW w h W s u/\∀ x∈bS,cG w h (aP b x)=true->aP b x∈cW w h W s u:=by
 have d:=IF p
 have key:∀(n:Nat) (v:List Nat) (b:C),v.length=n->Pt (bD w h W) s v b->Pt (gG w h W s u) s v b:=by
  intro n
  induction n with
  | zero=>
   intro v b c q
   have:v=[]:=YA.mp c
   subst this;have e:s=b:=q.e;rw [<- e];exact Pt.nil d.start
  | succ n l=>
   intro v b c q;rcases tN v with rfl | ⟨f,x,rfl⟩
   ·cases c
   ·obtain⟨j,e,a,i⟩:=q.unsnoc;have r:=l f _ (by simpa using c) j;have k:=g (back u++f) _ (d.back.app r) x a (by rw [<- e];exact(qI.mp i).1);rw [e];exact r.snoc a (tQ.mpr ⟨by rw [<- e];exact i,k⟩)
 intro v b q;have r:=key v.length v b rfl q
 exact⟨(tQ.mp r.stop).2,fun x a m=>g (back u++v) b (d.back.app r) x a m⟩
def nC(w h:Nat)(W:C->Bool)(s:C)(u:List Nat):Nat:=left (cells w h) (cW w h W s u)
theorem Tz(q:b∈cW w h W s u):b∈cW w h W s (u++v):=by
 obtain⟨a,d,c⟩:=qH.mp q;exact qH.mpr ⟨a,Ca s u v a d,c⟩
theorem zSO(q:Pt (gG w h W s u) (fin s u) v b)(f:x∈bS)(a:cG w h (aP b x)=true)(g:aP b x∉cW w h W s u):nC w h W s (u++v)<nC w h W s u:=by
 have i:b∈bD w h W:=(tQ.mp q.stop).1;refine AV (fun c d=>?_) ⟨aP b x,j6.mpr a,?_,?_⟩
 ·rw [Yh,<- Yl,Qv]at d ⊢;exact fun z=>d (Tz z)
 ·rw [Yh,<- Yl,Qv];exact g
 ·rw [Uu,Qv];refine qH.mpr ⟨b,?_,XW i f a⟩;rw [<- q.e,<- GI];exact AX _ _
theorem zSN(a:w<=5)(b:h<=5)(s:C)(u:List Nat):nC w h W s u<=25:=by
 refine QH (Q0 _ _) ?_;rw [lQ];exact Y3 a b
end
end My
namespace My
open PySem.SeqAt L2 DL OB SD SL EL DC TB TX KP MN
section
variable {B:Type}{ρ ρ':aA}{Ω Ω1:List B}{t:GX B Bool}{g:GS B}{i j:Nat}
theorem ES{d:Type}(item:d->D)(p:d->Bool)(f:d->D)(I:aA->Prop):∀(xs:List d) (ρ:aA),I ρ->
  (∀ a∈xs,∀ ρ,I ρ->I (ρ.set i (.dat (item a)))/\t (ρ.set i (.dat (item a))) Ω=some (p a,Ω)/\(p a=true->ge (ρ.set i (.dat (item a)))=some (f a)))->pV i t ge (xs.map item) ρ Ω=some ((xs.filter p).map f,Ω)
 | [],_,_,_=>rfl
 | a::xs,ρ,h0,hs=>by
  obtain⟨k,j,h⟩:=hs a Qg ρ h0;have e:=ES item p f I xs _ k fun b g=>hs b (Qf _ g);rw [Qs,Jd];unfold pV;rw [j,Qd]
  cases c:p a with
  | true=>rw [if_pos rfl,h c,Qd,e,if_pos rfl];rfl
  | false=>rw [if_neg QB,e,if_neg QB]
theorem wB{b:Type}{gi:GX B (List D)}{ge:aA->Option D}{inner:List (Option Nat)}{xs:List b}(item:b->D)(p:b->Bool)(f:b->D)(I:aA->Prop)(d:gi ρ Ω=some (xs.map item,Ω1))(c:xs.length<=1000)(e:I (gP inner ρ))
  (hs:∀ a∈xs,∀ ρ,I ρ->I (ρ.set i (.dat (item a)))/\t (ρ.set i (.dat (item a))) Ω1=some (p a,Ω1)/\(p a=true->ge (ρ.set i (.dat (item a)))=some (f a))):kA gi i t ge inner ρ Ω=some (.list ((xs.filter p).map f),Ω1):=by
 unfold kA;rw [d,Qd,ES item p f I xs _ e hs,Qd,if_pos ⟨by rw [Qo];exact QH (Q0 _ _) c,rfl⟩]
theorem DU(h:ga ρ Ω=some (d,Ω1))(a:jF d=some l):rY ga ρ Ω=some (l,Ω1):=by
 unfold rY;rw [h,Qd,a];rfl
theorem D8(e:gr ρ=some ds)(d:G ds=some b)(c:Ω.length=n)(a:i<ρ.length):r0 i n G gr ρ Ω=some (.nx (ρ.set i .no) (Ω++[b])):=by
 unfold r0;rw [e,Qd,d,Qd,if_pos ⟨c,a⟩]
theorem Pe(b:ga ρ Ω=some (d,Ω1))(a:s d ρ=some ρ'):vO ga s ρ Ω=some (.nx ρ' Ω1):=by
 unfold vO;rw [b,Qd,a];rfl
theorem FK(h:g (cR n ds) []=some (.rt d Ω)):oP n g ds=some d:=by
 unfold oP;rw [h]
theorem Kw(I:Nat->aA->List B->Prop)(Dn:aA->List B->Prop)(h:∀ m ρ Ω,I m ρ Ω->(t ρ Ω=some (false,Ω)/\Dn ρ Ω) ∨ (t ρ Ω=some (true,Ω)/\∃ ρ' Ω' m',g ρ Ω=some (.nx ρ' Ω')/\m'<m/\I m' ρ' Ω')):
  ∀(n m:Nat) (ρ:aA) (Ω:List B),m<n->I m ρ Ω->∃ ρ' Ω',n8 t g n ρ Ω=some (.nx ρ' Ω')/\Dn ρ' Ω'
 | 0,m,ρ,Ω,hn,_=>absurd hn (Yx _)
 | n+1,m,ρ,Ω,hn,i=>by
  unfold n8;rcases h m ρ Ω i with⟨e,d⟩ | ⟨e,ρ',Ω',m',b,lt,a⟩
  ·rw [e];exact⟨ρ,Ω,rfl,d⟩
  ·rw [e,Qd,if_pos rfl,b,Qd];exact Kw I Dn h n m' ρ' Ω' (by lia) a
theorem Dw{b:Type}(item:b->D)(I:aA->Prop):∀(xs:List b) (ρ:aA),I ρ->(∀ a∈xs,∀ ρ,I ρ->∃ ρ1 ρ2,s (item a) ρ=some ρ1/\g ρ1 Ω=some (.nx ρ2 Ω)/\I ρ2)->∃ ρ',tF s g (xs.map item) ρ Ω=some (.nx ρ' Ω)/\I ρ'
 | [],ρ,h0,_=>⟨ρ,rfl,h0⟩
 | x::xs,ρ,h0,h=>by
  obtain⟨ρ1,ρ2,f,e,c⟩:=h x Qg ρ h0;rw [Qs];unfold tF;rw [f,Qd,e,Qd];exact Dw item I xs ρ2 c fun a d=>h a (Qf _ d)
theorem Sd(h:i<ρ.length):eV i (ρ.set i (.dat d))=some d:=by
 unfold eV;rw [Qy h]
end
theorem Gm:∀ l:List C,nD (l.map aB)=some (l.map row)
 | []=>rfl
 | c::l=>by
  rw [Qs];unfold nD;rw [kQ,Qd,Gm l];rfl
theorem R8(l:List C):((l.map row).map fun k=>jA (.inl k))=l.map aB:=by
 rw [Yj];rfl
theorem HE:∀ l:List C,lY (l.map fun c=>(aB c,J8 true))=some (l.map row)
 | []=>rfl
 | c::l=>by
  rw [Qs];unfold lY;rw [kQ,Qd,show eY (.bool true)=some true from rfl,Qd,if_pos rfl,HE l];rfl
section
variable {w h:Nat}{W:C->Bool}(hw:w<=5)(hh:h<=5)
def wk(w h:Nat)(W:C->Bool)(s:C)(u:List Nat):W3:=(aX w h W,(vis s u).map aB,(cW w h W s u).map row)
def kc(w h:Nat)(W:C->Bool)(s:C)(u:List Nat):List C:=(cells w h).filter fun c=>(cW w h W s u).contains c
theorem qG:c∈kc w h W s u ↔ c∈cW w h W s u:=by
 unfold kc;rw [Q9,Qv,j6]
 exact⟨fun q=>q.2,fun q=>⟨HI q,q⟩⟩
theorem Lw(s:C)(u:List Nat):Up (kc w h W s u):=pS (pQ w h) _
theorem BG(s:C)(u:List Nat):jY [none] (wk w h W s u)=some (aB (fin s u),wk w h W s u):=by
 refine tG (Ω:=[]) rfl (kP ?_);have e:rO aR (u7 0 BD) (OB.rP (lE kF (eC (.int 1)))) (jL 1 [none]) [wk w h W s u]=some (aB (fin s u)):=PL s u;unfold Ay;rw [e];rfl
theorem zS0(s:C)(u:List Nat):pJ [none] (wk w h W s u)=some (.list ((vis s u).map aB),wk w h W s u):=tG (Ω:=[]) rfl (kP rfl)
theorem zS3(s:C)(u:List Nat):wW (wk w h W s u)=some (eA (cW w h W s u)):=by
 show some (PyData.dict (((cW w h W s u).map row).map fun k=>(jA (.inl k),.bool true)))=_
 rw [Yj];rfl
theorem PR(a:C):sN [aB a]=some (.list (bS.map fun x=>aB (aP a x))):=by
 refine dQ (dS (iZ (xs:=bS) (fun x=>.str (ws x)) (fun _=>true) (fun x=>aB (aP a x)) (fun b=>∃ c,b=[c,.dat (aB a)]) ?_ (by decide) ⟨_,rfl⟩ ?_ rfl))
 ·show some (hJ.map fun e=>Z7 e.1)=_
  rw [xW,Yj];rfl
 ·rintro x d b ⟨c,rfl⟩
  exact⟨[.dat (.str (ws x)),.dat (aB a)],rfl,⟨_,rfl⟩,rfl,fun _=>bO rfl (Bj d)⟩
theorem EH{b:Type}(f:b->Bool):∀ l:List b,pI (l.map fun x=>J8 (f x))=some (l.map f)
 | []=>rfl
 | a::l=>by
  rw [Qs];unfold pI;rw [EH f l];rfl
def mY(w h:Nat)(b:List C)(a:C):Bool:=bS.any fun x=>cG w h (aP a x) && !b.contains (aP a x)
theorem zSP(c:List C)(a:C):sP [aX w h W,eA c,aB a]=some (.bool (mY w h c a)):=by
 have g:uS [.list ((bS.filter fun _=>true).map fun x=>J8 (cG w h (aP a x) && !c.contains (aP a x)))]=some (.bool (mY w h c a)):=by
  rw [List.filter_eq_self.mpr fun _ _=>rfl];have b:=EH (fun x=>cG w h (aP a x) && !c.contains (aP a x)) bS;generalize (bS.map fun x=>J8 (cG w h (aP a x) && !c.contains (aP a x)))=l at b
  show(pI l).bind _=_
  rw [b]
  show some (J8 ((bS.map _).any id))=_
  rw [List.any_map];rfl
 refine dQ (dS (bO (fR (iZ (xs:=bS) (fun x=>aB (aP a x)) (fun _=>true) (fun x=>.bool (cG w h (aP a x) && !c.contains (aP a x))) (fun e=>∃ f,e=[f,.dat (aX w h W),.dat (eA c)]) (lX (bO rfl (PR a)) rfl) (by decide) ⟨_,rfl⟩ ?_ rfl) rfl) g))
 ·rintro x i e ⟨f,rfl⟩
  refine⟨[.dat (aB (aP a x)),.dat (aX w h W),.dat (eA c)],rfl,⟨_,rfl⟩,rfl,fun _=>?_⟩
  have d:=Bn w h W (aP a x)
  cases q:cG w h (aP a x)with
  | true=>rw [q]at d;exact(DK (bO rfl d) (oo rfl rfl (tJ true (aP a x) c))).trans rfl
  | false=>rw [q]at d;exact Nr (bO rfl d)
theorem zSn(d:x∈bS)(g:aP a x∈bD w h W):sU [aX w h W,aB a,.str (ws x)]=some (aB (aP a x)):=by
 obtain⟨e,i⟩:=qI.mp g;have f:=Bn w h W (aP a x);rw [e]at f;have b:=HZ (W:=W) e;rw [i]at b;have c:=G4 d;rw [<- xW]at c;refine dQ ?_;unfold AA;rw [show cR 4 [aX w h W,aB a,.str (ws x)]=[.dat (aX w h W),.dat (aB a),.dat (.str (ws x)),.no]from rfl];refine bP (gR (oB ?_)) (bP (e9 (bO rfl (Bj d))) (bP (gR (Nt (oN (oB (bO rfl f))) (oB (bO rfl b)))) (dS rfl)))
 show((hJ.lookup (ws x)).bind fun _=>some (J8 false))=_
 rw [c];rfl
include hw hh
theorem Ch(s:C)(u:List Nat):jH [none] (wk w h W s u)=some (.list ((kc w h W s u).map aB),wk w h W s u):=by
 refine tG (Ω:=[]) rfl (kP ?_);have e:=Ia (l:=cW w h W s u) (m:=kc w h W s u) (Cq s u) (by have:=HJ (W:=W) hw hh s u;lia) (Lw s u) fun c=>qG
 show((k5 [.list (((cW w h W s u).map row).map fun k=>jA (.inl k))]).bind fun d=>some (d,[wk w h W s u]))=_
 rw [R8,e];rfl
theorem BA(a:C):(vw w h W a).length<=25:=BE hw hh _
theorem FH(a:c∈bD w h W):lO [aX w h W,aB c]=some (wk w h W c []):=by
 obtain⟨d,b⟩:=qI.mp a;have e:=FS hw hh (W:=W) d b;unfold lO
 show(lP [aX w h W,aB c]).bind _=_
 rw [e,Qd]
 show(nD ((vw w h W c).map aB)).bind _=_
 rw [Gm,Qd,if_pos ⟨Cu (Cr c),by rw [Qo];have:=BA hw hh (W:=W) c;lia⟩];unfold wk;rw [TC];rfl
theorem zSm{s:C}{u:List Nat}{x:Nat}(hs:s∈bD w h W)(v:x∈bS)(i:aP (fin s u) x∈bD w h W)(E:u.length<990):∃ d,jX [none,some (.str (ws x))] (wk w h W s u)=some (d,wk w h W s (u++[x])):=by
 obtain⟨r,q⟩:=qI.mp i;have n:=FS hw hh (W:=W) r q;generalize ha:aP (fin s u) x=a at i r q n;have m:=zSn (a:=fin s u) v (ha ▸ i);rw [ha]at m;obtain⟨kn,f⟩:∃ kn,kn=cW w h W s u:=⟨_,rfl⟩;obtain⟨e,g⟩:∃ e,e=(vw w h W a).filter fun b => !kn.contains b:=⟨_,rfl⟩;have B:=HJ (W:=W) hw hh s u
 have G:e.length<=25:=by rw [g];exact QH (Q0 _ _) (BA hw hh a)
 have A:e.Nodup:=by rw [g];exact(Cr a).sublist List.filter_sublist
 have mk:=yG (l:=e) (d:=.list (e.map aB)) rfl (by lia) A;have t:=BG (w:=w) (h:=h) (W:=W) s u
 refine⟨.list (e.map aB),tG (Ω:=[]) rfl ?_⟩
 unfold BI;rw [show jL 4 [none,some (Z7 (ws x))]=[.no,.dat (.str (ws x)),.no,.no]from rfl];refine cO (e8 (t7 (i4 (Ic rfl rfl) (i4 (mB rfl rfl t) (i4 (rP rfl) rfl))) m)) ?_;refine cO (e8 (d:=.list (e.map aB)) (Ω1:=[wk w h W s u]) ?_) ?_
 ·rw [g];refine wB (xs:=vw w h W a) aB (fun b => !kn.contains b) aB (fun k=>∃ o,k=[o,.no]) (DU (t7 (i4 (Ic rfl rfl) (i4 (rP rfl) rfl)) n) rfl) (QH (BA hw hh a) (by decide)) ⟨_,rfl⟩ ?_;rintro b F k ⟨o,rfl⟩
  refine⟨⟨_,rfl⟩,?_,fun _=>rfl⟩
  show((((some (aB b)).bind fun x=>(wW (wk w h W s u)).bind fun y=>eJ true x y)).bind fun d=>(eY d).bind fun b=>some (b,[wk w h W s u]))=_
  rw [Qd,zS3,Qd,tJ,f];rfl
 refine cO (ρ':=[.no,.dat (.str (ws x)),.dat (aB a),.dat (.list (e.map aB))]) (Ω1:=[(aX w h W,(vis s u).map aB++[aB a],kn.map row)]) ?_ ?_
 ·show(if((vis s u).map aB).length<1000 then some _ else none)=_
  rw [if_pos (by rw [Qo,Cc];lia),f];rfl
 refine cO (ρ':=[.no,.dat (.str (ws x)),.dat (aB a),.dat (.list (e.map aB))]) (Ω1:=[wk w h W s (u++[x])]) ?_ (kP (rP rfl));unfold CI;rw [show aY iE (aD (eV 3) aG) [Sl.no,.dat (.str (ws x)),.dat (aB a),.dat (.list (e.map aB))]=some (eA e)from bO rfl mk,Qd]
 show(lY (e.map fun c=>(aB c,J8 true))).bind _=_
 rw [HE,Qd]
 show(if kn.map row≠[]/\(kn.map row++e.map row).Nodup/\(kn.map row++e.map row).length<=1000 then some _ else none)=_
 have p:kn++e=kJ w h W kn a:=by rw [g];rfl
 have j:kn.map row≠[]/\(kn.map row++e.map row).Nodup/\(kn.map row++e.map row).length<=1000:=by
  refine⟨fun z=>?_,?_,?_⟩
  ·have:s∈kn:=by rw [f];exact qH.mpr ⟨s,B5 s u,IA hs⟩
   rw [List.map_eq_nil_iff]at z;rw [z]at this;cases this
  ·rw [<- Q6,p];exact Cu (He (by rw [f];exact Cq s u) a)
  ·rw [Qj,Qo,Qo,f];lia
 rw [if_pos j];unfold wk;rw [TF,ha,n5,ha,<- f,<- p,Q6,Q6];rfl
theorem HN(p:Pt (bD w h W) s (u++v) c)(y:(u++v).length<=900)(r:i<ρ.length):
  ∃ s5,n7 i (mJ (eX 0 jX (aD (eV i) aG))) (v.map fun x=>Z7 (ws x)) ρ [wk w h W s u]=some (.nx (ρ.set i s5) [wk w h W s (u++v)]):=by
 obtain⟨f,k,e,⟨s5,rfl⟩,rfl⟩:=Kr (i:=i) (g:=mJ (eX 0 jX (aD (eV i) aG))) (fun x=>Z7 (ws x)) (fun pre f j=>(∃ s5,f=ρ.set i s5)/\j=[wk w h W s (u++pre)]) v [] ρ [wk w h W s u] (by
  rintro pre x a f j e ⟨⟨s5,rfl⟩,rfl⟩;rw [YK]at e
  have l:Pt (bD w h W) s ((u++pre++[x])++a) c:=by rw [QD,QD];rw [e]at p;exact p
  obtain⟨_,t,m,o⟩:=l.pre.unsnoc
  have len:(u++pre).length<990:=by
   have:(u++v).length=(u++pre).length+(x::a).length:=by rw [e,<- QD,Qj]
   lia
  obtain⟨d,q⟩:=zSm hw hh p.start m (by rw [<- t];exact o) len;have n:aD (eV i) aG ((ρ.set i s5).set i (.dat (.str (ws x))))=some [.str (ws x)]:=fR (by rw [List.set_set];exact Sd r) rfl
  refine⟨_,[wk w h W s (u++pre++[x])],Pf (mB (b:=wk w h W s (u++pre)) n rfl q),⟨_,by rw [List.set_set]⟩,by rw [QD]⟩) ⟨⟨ρ[i],by rw [List.set_getElem_self]⟩,by rw [QP]⟩
 exact⟨s5,e⟩
end
end My
namespace My
open PySem.SeqAt L2 DL OB SD SL EL DC TB TX KP MN
theorem D9{B:Type}{g1 a:GS B}{ρ:aA}{Ω Ω1:List B}{d:D}(h:g1 ρ Ω=some (.rt d Ω1)):bT g1 a ρ Ω=some (.rt d Ω1):=by
 unfold bT;rw [h];rfl
theorem Ey:∀(r:List KD) (b:KD),jI b r∈b::r
 | [],b=>Qg
 | p::r,b=>by
  unfold jI
  have:=Ey r (if HT.lexLt p.1 b.1=true then p else b)
  rcases Qq.mp this with e | e
  ·rw [e];by_cases c:HT.lexLt p.1 b.1=true
   ·rw [if_pos c];exact Qf _ Qg
   ·rw [if_neg c];exact Qg
  ·exact Qf _ (Qf _ e)
def gO(g:C->List Nat)(c:C):D:=.tuple [.int ((g c).length:Int),aB c]
theorem Ip(g:C->List Nat)(n:Int)(a:C):∀ l:List C,eO [.int n,aB a] (l.map (gO g))=some (l.map fun c=>([((g c).length:Int),c.1,c.2],gO g c))
 | []=>rfl
 | c::l=>by
  rw [Qs];unfold eO;rw [show jT [.int n,aB a] (gO g c)=some [((g c).length:Int),c.1,c.2]from rfl,Qd,Ip g n a l];rfl
theorem Tm{g:C->List Nat}{l:List C}(h:l≠[]):∃ c∈l,sD [.list (l.map (gO g))]=some (gO g c):=by
 cases l with
 | nil=>exact absurd rfl h
 | cons c l=>
  have r:=Ip g ((g c).length:Int) c (c::l);have m:=Ey (l.map fun c=>([((g c).length:Int),c.1,c.2],gO g c)) ([((g c).length:Int),c.1,c.2],gO g c);rw [<- Qs (f:=fun c=>([((g c).length:Int),c.1,c.2],gO g c))]at m;obtain⟨b,a,e⟩:=QT.mp m
  refine⟨b,a,?_⟩
  show(eO [.int ((g c).length:Int),aB c] ((c::l).map (gO g))).bind _=_
  rw [r,Qd]
  show some (jI _ _).2=_
  rw [<- e]
theorem Xg(g:C->List Nat)(c:C):Sh (gO g c):=⟨id rfl,by show 2<=9;decide⟩
theorem Sc(g:C->List Nat)(l:List C):fN (.list (l.map (gO g))) (.list [])=some (.bool (decide (l=[]))):=by
 have s:Zz (.list (l.map (gO g)))=true:=Xi fun d a=>by
  obtain⟨c,_,rfl⟩:=QT.mp a;exact Xg g c
 unfold fN;rw [s]
 cases l with
 | nil=>rfl
 | cons c l=>rfl
theorem Rb(u v:List Nat)(h:u.length+v.length<=1000):j2 (.str (bR u)) (.str (bR v))=some (.str (bR (u++v))):=by
 show(if decide ((bR u).length+(bR v).length<=1000000)=true then some (Z7 (bR u++bR v))else none)=_
 have e:∀ u,(bR u).length=u.length:=fun u=>by unfold bR Str.length;simp
 rw [e,e,if_pos (decide_eq_true (by lia))]
 have:bR u++bR v=bR (u++v):=by
  show(⟨u.toArray++v.toArray⟩:Str)=⟨(u++v).toArray⟩
  simp
 rw [this]
inductive vZ(w h:Nat)(W:C->Bool)(s:C)(u:List Nat)(r:D):Prop
 | none (e:r=.none) (sh:uO w h W s u):vZ w h W s u r
 | some (v:List Nat) (b:C) (x:Nat) (e:r=.str (bR v)) (p:Pt (gG w h W s u) (fin s u) v b) (hl:v.length<=26) (hx:x∈bS) (hi:cG w h (aP b x)=true) (hn:aP b x∉cW w h W s u):vZ w h W s u r
section
variable {w h:Nat}{W:C->Bool}(hw:w<=5)(hh:h<=5)
theorem R6{kn:List C}{a:C}:mY w h kn a=true ↔ ∃ x∈bS,cG w h (aP a x)=true/\aP a x∉kn:=by
 unfold mY;rw [List.any_eq_true];constructor
 ·rintro⟨x,b,q⟩
  rw [QW,Yh,<- Yl,Qv]at q
  exact⟨x,b,q⟩
 ·rintro⟨x,b,q⟩
  exact⟨x,b,by rw [QW,Yh,<- Yl,Qv];exact q⟩
include hw hh
theorem Es{s:C}{u:List Nat}(p:Pt (bD w h W) s u (fin s u)):∃ r,lN [some (aX w h W),none] (wk w h W s u)=some (r,wk w h W s u)/\vZ w h W s u r:=by
 have R:(gG w h W s u).length<=25:=QH (Q0 _ _) (wX hw hh W);have Q:(gG w h W s u).Nodup:=pT (pS (zSS w h W) _);obtain⟨K,g,X,a1,o,U⟩:=zS1 (IF p).stop R;have H:=Ch hw hh (W:=W) s u;have A:=BG (w:=w) (h:=h) (W:=W) s u;have I:(kc w h W s u).length<=25:=BE hw hh _;have F:=yG (l:=kc w h W s u) (d:=.list ((kc w h W s u).map aB)) rfl (by lia) (pT (Lw s u));have E:=yG (l:=gG w h W s u) (d:=.list ((gG w h W s u).map aB)) rfl (by lia) Q;have B:oC [aX w h W]=some (.list ((bD w h W).map aB)):=WC hw hh
 have G:c4 (c5 (cV (aY oC (aD (eV 0) aG))) (bG 0) (eB (aE (eJ false) (eV 0) (eV 1))) (eV 0) [none,some 2]) [.dat (aX w h W),.no,.dat (eA (kc w h W s u)),.no,.no,.no]=some (.list ((gG w h W s u).map aB)):=by
  refine iZ (xs:=bD w h W) aB (fun c=>(kc w h W s u).contains c) aB (fun e=>∃ f,e=[f,.dat (eA (kc w h W s u))]) (lX (bO rfl B) rfl) (by have:=wX hw hh W;lia) ⟨_,rfl⟩ ?_ ?_
  ·rintro c _ e ⟨f,rfl⟩
   exact⟨[.dat (aB c),.dat (eA (kc w h W s u))],rfl,⟨_,rfl⟩,oB (oo rfl rfl (tJ false c (kc w h W s u))),fun _=>rfl⟩
  ·unfold gG;refine congrArg (List.map aB) (List.filter_congr fun c N=>?_);rw [Jl,Qv,Qv,qG]
 have y:∀ c,mY w h (kc w h W s u) c=true ↔ ∃ x∈bS,cG w h (aP c x)=true/\aP c x∉cW w h W s u:=fun c=>by
  rw [R6];simp only [qG]
 obtain⟨gs,a⟩:∃ gs,gs=K.filter fun c=>mY w h (kc w h W s u) c:=⟨_,rfl⟩
 have start:∀ r,(bT (gZ (xP (eB (aE fN (eV 5) (dG aG)))) (eU (xP (eC .none))) jM)
  (eU (xP (aE q8 (eV 4) (aE aR (aY sD (aD (eV 5) aG)) (eC (.int 1))))))) [.dat (aX w h W),.no,.dat (eA (kc w h W s u)),.dat (eA (gG w h W s u)),.dat (.dict (cB K (fD g))),.dat (.list (gs.map (gO g)))] [wk w h W s u]=some (.rt r [wk w h W s u])->lN [some (aX w h W),none] (wk w h W s u)=some (r,wk w h W s u):=by
  intro r J;refine tG (Ω:=[]) rfl ?_;unfold AC;rw [show jL 6 [some (aX w h W),none]=[.dat (aX w h W),.no,.no,.no,.no,.no]from rfl];refine cO (e8 (t7 (i4 (mB rfl rfl H) rfl) F)) ?_;refine cO (e8 (rP (bO (fR G rfl) E))) ?_;refine cO (e8 (t7 (i4 (rP rfl) (i4 (mB rfl rfl A) rfl)) U)) ?_;refine cO (e8 (d:=.list (gs.map (gO g))) (Ω1:=[wk w h W s u]) ?_) J;rw [a];refine wB (xs:=K) aB (fun c=>mY w h (kc w h W s u) c) (gO g) (fun e=>∃ f,e=[f,.dat (.dict (cB K (fD g))),.dat (aX w h W),.dat (eA (kc w h W s u))]) (rP (VQ rfl (Tt K (fD g)))) (by lia) ⟨_,rfl⟩ ?_;rintro c t e ⟨f,rfl⟩
  refine⟨⟨_,rfl⟩,rP (oB (bO rfl (zSP (kc w h W s u) c))),fun _=>?_⟩
  exact rM (bO (fR (oo rfl rfl (HA (fD g) t)) rfl) (Nd (by have:=(o c t).2.2;lia))) rfl
 have j:=Sc g gs;by_cases c:gs=[]
 ·rw [decide_eq_true c]at j
  refine⟨.none,start _ (D9 (D6 (rP (oB (oo rfl rfl j))) (kP (rP rfl)))),.none rfl fun v b q x k m=>?_⟩
  by_cases z:aP b x∈cW w h W s u
  ·exact z
  ·have:b∈gs:=by rw [a];exact Q9.mpr ⟨a1 v b q,(y b).mpr ⟨x,k,m,z⟩⟩
   rw [c]at this;cases this
 ·rw [decide_eq_false c]at j;obtain⟨b,O,S⟩:=Tm (g:=g) c;have i:=O;rw [a]at i;obtain⟨n,T⟩:=Q9.mp i;obtain⟨x,k,m,M⟩:=(y b).mp T
  refine⟨.str (bR (g b)),start _ (cO (pU (rP (oB (oo rfl rfl j)))) (kP (rP (oo rfl (oo (bO rfl S) rfl rfl) (HA (fD g) n))))),.some (g b) b x rfl (o b n).1 (o b n).2.2 k m M⟩
inductive TI(w h:Nat)(W:C->Bool)(c:C)(m:Nat)(ρ:aA)(Ω:List W3):Prop
 | mk (u:List Nat) (r:D) (s5:Sl) (er:ρ=[.dat (aX w h W),.dat (aB c),.no,.dat (.str (bR u)),.dat r,s5]) (eo:Ω=[wk w h W c u]) (p:Pt (bD w h W) c u (fin c u)) (hm:m=nC w h W c u) (hl:u.length+26 * m<=650) (a:vZ w h W c u r):TI w h W c m ρ Ω
inductive TD(w h:Nat)(W:C->Bool)(c:C)(ρ:aA)(Ω:List W3):Prop
 | mk (u:List Nat) (s5:Sl) (er:ρ=[.dat (aX w h W),.dat (aB c),.no,.dat (.str (bR u)),.dat .none,s5]) (eo:Ω=[wk w h W c u]) (p:Pt (bD w h W) c u (fin c u)) (hl:u.length<=650) (a:uO w h W c u):TD w h W c ρ Ω
theorem RK(p:Pt (gG w h W s u) a v c):Pt (bD w h W) a v c:=p.mono fun x b=>(tQ.mp b).1
theorem Ll(y:c∈bD w h W):∃ u,pD [aX w h W,aB c]=some (.tuple [.str (bR u),.list ((kc w h W c u).map aB)])/\Pt (bD w h W) c u (fin c u)/\u.length<=650/\uO w h W c u:=by
 have o:Pt (bD w h W) c [] (fin c []):=Pt.nil y;obtain⟨l,J,M⟩:=Es hw hh o;have Q:=zSN (W:=W) hw hh c []
 obtain⟨z,A,H,u,f,rfl,rfl,p,s,j⟩:=Kw (t:=xP (eB (aE wI (eV 4) (eC .none)))) (g:=bT (o6 (oQ (eV 4)) 5 (mJ (eX 0 jX (aD (eV 5) aG))))
  (bT (dH 3 (xP (aE j2 (eV 3) (eV 4))))
  (dH 4 (oZ 0 lN (rJ (eV 0) (rL rK)))))) (TI w h W c) (TD w h W c) (by
   rintro m ρ Ω ⟨u,r,f,rfl,rfl,p,R,s,a⟩;rcases a with⟨rfl,j⟩ | ⟨v,b,x,rfl,q,O,E,G,F⟩
   ·exact .inl ⟨rP (oB (oo rfl rfl rfl)),u,f,rfl,rfl,p,by lia,j⟩
   ·have lt:=zSO q E G F
    have k:Pt (bD w h W) c (u++v) (fin c (u++v)):=by
     have:=p.app (RK hw hh q)
     rw [<- this.e]at this;exact this
    have len:(u++v).length+26 * nC w h W c (u++v)<=650:=by rw [Qj];lia
    obtain⟨n,K,N⟩:=Es hw hh k;obtain⟨d,I⟩:=HN (i:=5) (ρ:=[.dat (aX w h W),.dat (aB c),.no,.dat (.str (bR u)),.dat (.str (bR v)),f]) hw hh k (by lia) (by show 5<6;decide);refine .inr ⟨rP (oB (oo rfl rfl rfl)),[.dat (aX w h W),.dat (aB c),.no,.dat (.str (bR (u++v))),.dat n,d],[wk w h W c (u++v)],nC w h W c (u++v),?_,by lia,u++v,n,d,rfl,rfl,k,rfl,len,N⟩;refine cO (D5 (Hx rfl (HS v)) I) ?_;refine cO (e8 (rP (oo rfl rfl (Rb u v (by rw [Qj]at len;lia))))) ?_
    exact e8 (DQ rfl rfl K)) 100 (nC w h W c []) [.dat (aX w h W),.dat (aB c),.no,.dat (.str (bR [])),.dat l,.no] [wk w h W c []] (by lia) ⟨[],l,.no,rfl,rfl,o,rfl,by show 0+_<=_;lia,M⟩
 refine⟨u,FK (Ω:=[wk w h W c u]) ?_,p,s,j⟩
 unfold AB;rw [show cR 6 [aX w h W,aB c]=[.dat (aX w h W),.dat (aB c),.no,.no,.no,.no]from rfl];refine cO (D8 rfl (FH hw hh y) rfl (by show 2<6;decide)) ?_;refine cO (e8 (rP rfl)) ?_;refine cO (e8 (DQ rfl rfl J)) ?_;refine cO H ?_;have B:eX 0 jH aG [Sl.dat (aX w h W),Sl.dat (aB c),Sl.no,Sl.dat (Z7 (bR u)),Sl.dat PyData.none,f] [wk w h W c u]=some (.list ((kc w h W c u).map aB),[wk w h W c u]):=(mB (ds:=[]) (b:=wk w h W c u) rfl rfl (Ch hw hh c u)).trans rfl;exact kP (Oh (rP rfl) B)
end
end My
namespace My
open PySem.SeqAt L2 DL OB SD SL EL DC TB TX KP MN
def nr(a:C):List C:=[(a.1,a.2-1),(a.1+1,a.2),(a.1,a.2+1),(a.1-1,a.2)]
theorem Nq(a:C):nr a=bS.map (aP a):=by
 obtain⟨p,q⟩:=a
 show [(p,q-1),(p+1,q),(p,q+1),(p-1,q)]=[(p+0,q + -1),(p+1,q+0),(p+0,q+1),(p + -1,q+0)]
 simp only [Int.add_zero];rfl
theorem Ha:b∈nr a ↔ ∃ x∈bS,aP a x=b:=by rw [Nq,QT]
theorem Nn(a:C):(nr a).Nodup:=by
 obtain⟨p,q⟩:=a;unfold nr;simp only [Yp,Qq,JP,or_false,Prod.mk.injEq,not_or,Ji,and_true,not_false_eq_true];lia
inductive RI(w h:Nat)(W:C->Bool)(c:C)(m:Nat)(ρ:aA):Prop
 | mk (P Q:List C) (s4 s5 s6:Sl) (er:ρ=[.dat (aX w h W),.dat (aB c),.dat (.list ((P++Q).map aB)),.dat (.list (Q.map aB)),s4,s5,s6]) (nd:(P++Q).Nodup) (rc:∀ b∈P++Q,∃ v,Pt (bD w h W) c v b) (hc:c∈P++Q) (cl:∀ b∈P,∀ x∈bS,aP b x∈bD w h W->aP b x∈P++Q) (hm:m=left (bD w h W) P) (hl:(P++Q).length+4 * m<=101):RI w h W c m ρ
inductive RD(w h:Nat)(W:C->Bool)(c:C)(ρ:aA):Prop
 | mk (R:List C) (s4 s5 s6:Sl) (er:ρ=[.dat (aX w h W),.dat (aB c),.dat (.list (R.map aB)),.dat (.list []),s4,s5,s6]) (rc:∀ b∈R,∃ v,Pt (bD w h W) c v b) (hc:c∈R) (cl:∀ b∈R,∀ x∈bS,aP b x∈bD w h W->aP b x∈R) (hl:R.length<=101):RD w h W c ρ
section
variable {w h:Nat}{W:C->Bool}(hw:w<=5)(h0:0<h)(hh:h<=5)
include hw h0 hh
def N7:aA->Option aV:=bC (oW (aE aR (eV 3) (eC (.int 0))) (gY 2 (dC (bG 4) (dC (bG 5) gK))))
  (bC (cE 6 (dG (aD (bV (aD (eV 4) (aD (aE iR (eV 5) (eC (.int 1))) aG))) (aD (bV (aD (aE bX (eV 4) (eC (.int 1))) (aD (eV 5) aG))) (aD (bV (aD (eV 4) (aD (aE bX (eV 5) (eC (.int 1))) aG))) (aD (bV (aD (aE iR (eV 4) (eC (.int 1))) (aD (eV 5) aG))) aG))))))
  (bC (cE 6 (c4 (c5 (cV (eV 6)) (bG 0) (fW (eB (aE (dF false) (eV 0) (aY kY (aD (eV 2) aG)))) (eB (aE (dF true) (eV 0) (eV 1)))) (eV 0) [none,some 2,some 0])))
  (bC (cE 2 (aE bX (eV 2) (eV 6)))
  (cE 3 (aE bX (kG (eV 3) (oE (eC (.int 1))) kL) (eV 6))))))
theorem zSD(m:Nat)(ρ:aA)(J:RI w h W c m ρ):(eB (aE eQ (eV 3) (dG aG)) (ρ.map frz)=some false/\RD w h W c ρ) ∨ (eB (aE eQ (eV 3) (dG aG)) (ρ.map frz)=some true/\∃ ρ' m',N7 ρ=some (.nx ρ')/\m'<m/\RI w h W c m' ρ'):=by
 obtain⟨P,Q,O,M,v,rfl,k,j,p,s,hm,H⟩:=J;have E:=tS Q []
 cases Q with
 | nil=>
  rw [QP]at j p s H ⊢;exact .inl ⟨oB (oo rfl rfl E),P,O,M,v,rfl,j,p,s,by lia⟩
 | cons a Q=>
  have I:a∈P++a::Q:=Qw _ Qg;obtain⟨Z,B⟩:=j a I
  have X:a∉P:=fun z=>by
   rw [YI]at k;exact k.2.2 a z a Qg rfl
  have lt:=HM B.stop X;have G:=G6 (W:=W) hw h0 hh;obtain⟨F,u⟩:∃ F,F=P++a::Q:=⟨_,rfl⟩;rw [<- u]at k j p s H I ⊢;obtain⟨N,r⟩:∃ N,N=(nr a).filter fun b=>(bD w h W).contains b && !F.contains b:=⟨_,rfl⟩
  have Nl:N.length<=4:=by rw [r];exact Q0 _ _
  have t:∀ b,b∈N ↔ (∃ x∈bS,aP a x=b)/\b∈bD w h W/\b∉F:=fun b=>by
   rw [r,Q9,Ha,QW,Qv,Yh,<- Yl,Qv]
  have i:F++N=(P++[a])++(Q++N):=by rw [u];simp
  have R:c4 (c5 (cV (eV 6)) (bG 0) (fW (eB (aE (dF false) (eV 0) (aY kY (aD (eV 2) aG)))) (eB (aE (dF true) (eV 0) (eV 1)))) (eV 0) [none,some 2,some 0]) [.dat (aX w h W),.dat (aB c),.dat (.list (F.map aB)),.dat (.list ((a::Q).map aB)),.dat (.int a.1),.dat (.int a.2),.dat (.list ((nr a).map aB))]=some (.list (N.map aB)):=by
   rw [r];refine iZ (xs:=nr a) aB (fun b=>(bD w h W).contains b && !F.contains b) aB (fun ρ=>∃ A,ρ=[A,.dat (.list (F.map aB)),.dat (aX w h W)]) rfl (by show 4<=1000;decide) ⟨_,rfl⟩ ?_ rfl;rintro b _ ρ ⟨A,rfl⟩
   refine⟨[.dat (aB b),.dat (.list (F.map aB)),.dat (aX w h W)],rfl,⟨_,rfl⟩,?_,fun _=>rfl⟩
   have n:=oS false b (bD w h W);have T:=oS true b F
   cases q:(bD w h W).contains b with
   | true=>rw [q]at n;exact u4 (oB (oo rfl (bO rfl G) n)) (oB (oo rfl rfl T))
   | false=>rw [q]at n;exact uZ (oB (oo rfl (bO rfl G) n))
  have S:aR (.list ((a::Q).map aB)) (.int 0)=some (aB a):=(DB (l:=a::Q) (Int.le_refl 0) (by rw [Qt];lia)).1;have a1:=Fw F N (by lia)
  have Ql:Q.length<=F.length:=by rw [u];simp;lia
  have Y:=Fw Q N (by lia)
  have K:kG (eV 3) (oE (eC (.int 1))) kL [.dat (aX w h W),.dat (aB c),.dat (.list ((F++N).map aB)),.dat (.list ((a::Q).map aB)),.dat (.int a.1),.dat (.int a.2),.dat (.list (N.map aB))]=some (.list (Q.map aB)):=by
   show some (ZO (cutD ((a::Q).map aB) (some 1) none))=_
   rw [Ek];rfl
  refine .inr ⟨oB (oo rfl rfl E),[.dat (aX w h W),.dat (aB c),.dat (.list (((P++[a])++(Q++N)).map aB)),.dat (.list ((Q++N).map aB)),.dat (.int a.1),.dat (.int a.2),.dat (.list (N.map aB))],left (bD w h W) (P++[a]),?_,by lia,P++[a],Q++N,_,_,_,rfl,?_,?_,?_,?_,rfl,?_⟩
  ·rw [<- i];exact bP (XL (d:=aB a) (ρ':=[.dat (aX w h W),.dat (aB c),.dat (.list (F.map aB)),.dat (.list ((a::Q).map aB)),.dat (.int a.1),.dat (.int a.2),v]) (oo rfl rfl S) rfl) (bP (e9 (d:=.list ((nr a).map aB)) rfl) (bP (e9 R) (bP (e9 (oo rfl rfl a1)) (e9 (oo K rfl Y)))))
  ·rw [<- i,YI]
   refine⟨k,by rw [r];exact(Nn a).sublist List.filter_sublist,fun x g y U e=>((t y).mp U).2.2 (e ▸ g)⟩
  ·rw [<- i];intro b f;rcases QA.mp f with f | f
   ·exact j b f
   ·obtain⟨⟨x,g,rfl⟩,o,_⟩:=(t b).mp f
    exact⟨_,B.snoc g o⟩
  ·rw [<- i];exact QL _ p
  ·rw [<- i];intro b f x g o;by_cases z:aP b x∈F
   ·exact QL _ z
   ·rcases QA.mp f with f | f
    ·exact absurd (s b f x g o) z
    ·have e:=Qp.mp f;subst e;exact Qw _ ((t _).mpr ⟨⟨x,g,rfl⟩,o,z⟩)
  ·rw [<- i,Qj];lia
theorem Xy{c:C}(m:c∈bD w h W):∃ R:List C,sM [aX w h W,aB c]=some (.list (R.map aB))/\(∀ b∈R,∃ v,Pt (bD w h W) c v b)/\(∀ b v,Pt (bD w h W) c v b->b∈R)/\R.length<=101:=by
 have u:left (bD w h W) []<=25:=QH (Q0 _ _) (wX hw hh W);obtain⟨ρ',o,R,t,s,r,rfl,i,f,q,g⟩:=BH (RI w h W c) (RD w h W c) (zSD hw h0 hh) 900 (left (bD w h W) []) [.dat (aX w h W),.dat (aB c),.dat (.list ([c].map aB)),.dat (.list ([c].map aB)),.no,.no,.no] (by lia) ⟨[],[c],.no,.no,.no,rfl,by simp,fun b a=>by rw [Qp.mp a];exact⟨[],Pt.nil m⟩,Qp.mpr rfl,fun _ z=>(nomatch z),rfl,by show 1+_<=_;lia⟩
 refine⟨R,dQ ?_,i,fun b v p=>?_,g⟩
 ·exact bP (ρ':=[.dat (aX w h W),.dat (aB c),.dat (.list ([c].map aB)),.no,.no,.no,.no]) rfl (bP rfl (bP o (dS rfl)))
 ·generalize hn:v.length=n
  induction n generalizing v b with
  | zero=>
   have:v=[]:=YA.mp hn
   subst this;have e:c=b:=p.e;rw [<- e];exact f
  | succ n k=>
   rcases tN v with rfl | ⟨d,x,rfl⟩
   ·cases hn
   ·obtain⟨j,e,l,a⟩:=p.unsnoc;rw [e]at a ⊢;exact q _ (k _ d j (by simpa using hn)) x l a
end
theorem Su(w h:Nat)(W:C->Bool)(b:C):fW (eB (g7 gU gW (eC (.int 0)) (aE aR (eV 0) (eC (.int 0))) (aE aR (eV 1) (eC (.int 0))))) (eB (g7 gU gW (eC (.int 0)) (aE aR (eV 0) (eC (.int 1))) (aE aR (eV 1) (eC (.int 1))))) [.dat (aB b),.dat (aX w h W)]=some (cG w h b):=by
 have a:eB (g7 gU gW (eC (.int 0)) (aE aR (eV 0) (eC (.int 0))) (aE aR (eV 1) (eC (.int 0)))) [.dat (aB b),.dat (aX w h W)]=some (decide (0<=b.1) && decide (b.1<w)):=by
  refine oB ?_
  show(if decide (0<=b.1)=true then some (J8 (decide (b.1<w)))else some (.bool false))=_
  cases decide (0<=b.1) <;> rfl
 have c:eB (g7 gU gW (eC (.int 0)) (aE aR (eV 0) (eC (.int 1))) (aE aR (eV 1) (eC (.int 1)))) [.dat (aB b),.dat (aX w h W)]=some (decide (0<=b.2) && decide (b.2<h)):=by
  refine oB ?_
  show(if decide (0<=b.2)=true then some (J8 (decide (b.2<h)))else some (.bool false))=_
  cases decide (0<=b.2) <;> rfl
 unfold cG
 cases q:(decide (0<=b.1) && decide (b.1<w))with
 | true=>
  rw [q]at a;rw [JU];exact u4 a c
 | false=>
  rw [q]at a;rw [Vl,Vl];exact uZ a
theorem Wg{gi:aA->Option (List D)}{ρ:aA}{l m:List C}{k:Nat}(g:gi ρ=some (l.map aB))(c:l.length<=1000)(f:gP [none,some k] ρ=[.no,.dat (.list (m.map aB))])(e:∀ b∈l,b∈m):c4 (c5 gi (bG 0) (eB (aE (dF true) (eV 0) (eV 1))) (eV 0) [none,some k]) ρ=some (.list (([]:List C).map aB)):=by
 refine iZ (xs:=l) aB (fun b => !m.contains b) aB (fun ρ=>∃ a,ρ=[a,.dat (.list (m.map aB))]) g c ⟨_,f⟩ ?_ ?_
 ·rintro b _ ρ ⟨a,rfl⟩
  exact⟨[.dat (aB b),.dat (.list (m.map aB))],rfl,⟨_,rfl⟩,oB (oo rfl rfl (oS true b m)),fun _=>rfl⟩
 ·rw [List.filter_eq_nil_iff.mpr fun b d=>by rw [Qv.mpr (e b d)];simp]
def lv(ns:List Int)(w h:Nat)(W:C->Bool)(c:C)(u:List Nat)(R:List C)(s7 e d b a:Sl):aA:=[.dat (c8 ns),.dat (aX w h W),.dat (.list ((bD w h W).map aB)),.dat (aB c),.dat (.str (bR u)),.dat (.list ((kc w h W c u).map aB)),.no,s7,.dat (.list (R.map aB)),e,d,b,a]
theorem main(ns:List Int)(Y:ns.length<=63):k6 [.list (ns.map J9)]=some (.bool true):=by
 obtain⟨w,h,W,E,w1,j,Z,k⟩:=Sk ns Y 0 5 (by decide) (by decide);have E:o7 [c8 ns,.int 0,.int 5]=some (aX w h W):=E;have T:=G6 (W:=W) j Z k;have ol:=wX j k W;have F:=GB (bD w h W) [];have Q:∀(d:D) (Ω:List W3),rC (cR 13 [ZO (ns.map J9)]) []=some (.rt d Ω)->k6 [.list (ns.map J9)]=some d:=fun d Ω q=>FK q;by_cases O:bD w h W=[]
 ·rw [decide_eq_true O]at F;refine Q _ [] ?_;unfold rC;rw [show cR 13 [ZO (ns.map J9)]=[.dat (c8 ns),.no,.no,.no,.no,.no,.no,.no,.no,.no,.no,.no,.no]from rfl];exact cO (e8 (rP (bO rfl E))) (cO (e8 (rP (bO rfl T))) (D9 (D6 (rP (oB (oo rfl rfl F))) (kP (rP rfl)))))
 rw [decide_eq_false O]at F
 have o0:0<((bD w h W).length:Int):=by
  cases q:bD w h W with
  | nil=>exact absurd q O
  | cons a l=>rw [Qt];lia
 have ln:i9 [.list ((bD w h W).map aB)]=some (.int ((bD w h W).length:Int)):=by rw [HP,Qo]
 obtain⟨M,p0,p1⟩:=sF ns Y 61 ((bD w h W).length:Int) o0;obtain⟨uX,B⟩:=DB p0 p1;generalize at0 (bD w h W) (dr ns 61 ((bD w h W).length:Int)).toNat=c at uX B;obtain⟨u,et,z,ul,sh⟩:=Ll j k B;obtain⟨R,er,S,ra,rl⟩:=Xy j Z k B;have fo:fin c u∈bD w h W:=z.stop;obtain⟨p,K,H,a0,G⟩:=Ll j k fo;have cv:=wF z sh;have N:=wF H G;have kn:=Ch j k (W:=W) c u;have a2:(kc w h W c u).length<=25:=BE j k _;obtain⟨n,el⟩:=HN (i:=7) (u:=[]) (v:=u) (ρ:=[.dat (c8 ns),.dat (aX w h W),.dat (.list ((bD w h W).map aB)),.dat (aB c),.dat (.str (bR u)),.dat (.list ((kc w h W c u).map aB)),.no,.no,.no,.no,.no,.no,.no]) j k z (by rw [YK];lia) (by show 7<13;decide);rw [YK]at el;refine Q _ [wk w h W c u] ?_;unfold rC;rw [show cR 13 [ZO (ns.map J9)]=[.dat (c8 ns),.no,.no,.no,.no,.no,.no,.no,.no,.no,.no,.no,.no]from rfl];refine cO (e8 (rP (bO rfl E))) (cO (e8 (rP (bO rfl T))) ?_);refine cO (pU (rP (oB (oo rfl rfl F)))) ?_;refine cO (e8 (rP (oo rfl (bO (fR rfl (fR rfl (fR (bO rfl ln) rfl))) M) uX))) ?_;refine cO (Pe (ρ':=[.dat (c8 ns),.dat (aX w h W),.dat (.list ((bD w h W).map aB)),.dat (aB c),.dat (.str (bR u)),.dat (.list ((kc w h W c u).map aB)),.no,.no,.no,.no,.no,.no,.no]) (rP (bO rfl et)) rfl) ?_;refine cO (D8 rfl (FH j k B) rfl (by show 6<13;decide)) ?_;refine cO (D5 (Hx rfl (HS u)) el) ?_;have kx:∀ ρ:aA,eX 0 jH aG ρ [wk w h W c u]=some (.list ((kc w h W c u).map aB),[wk w h W c u]):=fun ρ=>(mB (ds:=[]) (b:=wk w h W c u) rfl rfl kn).trans rfl;have U:=tS (kc w h W c u) (kc w h W c u);rw [decide_eq_true rfl]at U;refine cO (pU (rB (DR (kx _) (rP rfl) U))) ?_;refine cO (e8 (rP (bO rfl er))) ?_
 show bT _ _ (lv ns w h W c u R n .no .no .no .no) _=_
 obtain⟨ρ',ef,r,f,e,rfl⟩:=Dw (Ω:=[wk w h W c u]) (s:=gY 2 (dC (bG 9) (dC (bG 10) gK))) (g:=bT (gZ (xP (eB (aE (dF true) (bV (aD (eV 9) (aD (eV 10) aG))) (eV 5)))) (eU (xP (eC (.bool false)))) jM)
  (bT (dH 11 (xP (dG (aD (bV (aD (eV 9) (aD (aE iR (eV 10) (eC (.int 1))) aG))) (aD (bV (aD (aE bX (eV 9) (eC (.int 1))) (aD (eV 10) aG))) (aD (bV (aD (eV 9) (aD (aE bX (eV 10) (eC (.int 1))) aG))) (aD (bV (aD (aE iR (eV 9) (eC (.int 1))) (aD (eV 10) aG))) aG)))))))
  (bT (dH 11 (kA (xP (cV (eV 11))) 0 (xP (fW (eB (g7 gU gW (eC (.int 0)) (aE aR (eV 0) (eC (.int 0))) (aE aR (eV 1) (eC (.int 0))))) (eB (g7 gU gW (eC (.int 0)) (aE aR (eV 0) (eC (.int 1))) (aE aR (eV 1) (eC (.int 1))))))) (eV 0) [none,some 1]))
  (gZ (xP (eB (aE eQ (c4 (c5 (cV (eV 11)) (bG 0) (eB (aE (dF true) (eV 0) (eV 1))) (eV 0) [none,some 5])) (dG aG)))) (eU (xP (eC (.bool false)))) jM)))) aB (fun ρ=>∃ r f e,ρ=lv ns w h W c u R n r f e .no) R (lv ns w h W c u R n .no .no .no .no) ⟨_,_,_,rfl⟩ (by
   rintro b A ρ ⟨r,f,e,rfl⟩;obtain⟨v,pv⟩:=S b A;obtain⟨bk,bn⟩:=cv v b pv;have X:=oS true b (kc w h W c u);rw [Qv.mpr (qG.mpr bk)]at X
   refine⟨lv ns w h W c u R n (.dat (.int b.1)) (.dat (.int b.2)) e .no,lv ns w h W c u R n (.dat (.int b.1)) (.dat (.int b.2)) (.dat (.list (((nr b).filter (cG w h)).map aB))) .no,rfl,?_,_,_,_,rfl⟩
   refine cO (pU (rP (oB (oo (rM rfl rfl) rfl X)))) ?_;refine cO (e8 (d:=.list ((nr b).map aB)) (Ω1:=[wk w h W c u]) (rP rfl)) ?_;refine cO (e8 (wB (xs:=nr b) (Ω1:=[wk w h W c u]) aB (cG w h) aB (fun ρ=>∃ o,ρ=[o,.dat (aX w h W)]) (rP rfl) (by show 4<=1000;decide) ⟨_,rfl⟩ ?_)) ?_
   ·rintro x _ ρ ⟨o,rfl⟩
    exact⟨⟨_,rfl⟩,rP (Su w h W x),fun _=>rfl⟩
   ·refine pU (rP (oB (oo (Wg (l:=(nr b).filter (cG w h)) (m:=kc w h W c u) rfl (QH (Q0 _ _) (by show 4<=1000;decide)) rfl ?_) rfl (tS [] []))));intro y I;obtain⟨I,hi⟩:=Q9.mp I;obtain⟨x,J,rfl⟩:=Ha.mp I
    exact qG.mpr (bn x J hi))
 refine cO (g1:=yU _ _ _) (ρ':=lv ns w h W c u R n r f e .no) (Ω1:=[wk w h W c u]) ?_ ?_
 ·unfold yU;exact ef
 have wx:∀ ρ:aA,eX 0 pJ aG ρ [wk w h W c u]=some (.list ((vis c u).map aB),[wk w h W c u]):=fun ρ=>(mB (ds:=[]) (b:=wk w h W c u) rfl rfl (zS0 c u)).trans rfl;have J:∀ ρ:aA,eX 0 jY aG ρ [wk w h W c u]=some (aB (fin c u),[wk w h W c u]):=fun ρ=>(mB (ds:=[]) (b:=wk w h W c u) rfl rfl (BG c u)).trans rfl
 have cw:=wB (t:=xP (eB (aE (dF true) (eV 0) (eV 1)))) (ge:=eV 0) (inner:=[none,some 8]) (i:=0) (ρ:=lv ns w h W c u R n r f e .no) (xs:=vis c u) (Ω1:=[wk w h W c u]) aB (fun b => !R.contains b) aB (fun ρ=>∃ o,ρ=[o,.dat (.list (R.map aB))]) (DU (wx _) rfl) (by rw [Cc];lia) ⟨_,rfl⟩ (by
  rintro b _ ρ ⟨o,rfl⟩
  exact⟨⟨_,rfl⟩,rP (oB (oo rfl rfl (oS true b R))),fun _=>rfl⟩)
 rw [List.filter_eq_nil_iff.mpr fun b A=>by
  obtain⟨v,pv⟩:=zSZ z b A
  rw [Qv.mpr (ra b v pv)];simp]at cw
 refine cO (pU (rB (DR cw (rP rfl) (tS [] [])))) ?_;refine cO (e8 (t7 (i4 (rP rfl) (i4 (J _) rfl)) K)) ?_
 have la:c4 (c5 (cV (eV 8)) (bG 0) (eB (aE (dF true) (eV 0) (aE aR (eV 1) (eC (.int 1))))) (eV 0) [none,some 12]) (lv ns w h W c u R n r f e (.dat (.tuple [.str (bR p),.list ((kc w h W (fin c u) p).map aB)])))=some (.list (([]:List C).map aB)):=by
  refine iZ (xs:=R) aB (fun b => !(kc w h W (fin c u) p).contains b) aB (fun ρ=>∃ o,ρ=[o,.dat (.tuple [.str (bR p),.list ((kc w h W (fin c u) p).map aB)])]) rfl (by lia) ⟨_,rfl⟩ ?_ ?_
  ·rintro b _ ρ ⟨o,rfl⟩
   exact⟨[.dat (aB b),.dat (.tuple [.str (bR p),.list ((kc w h W (fin c u) p).map aB)])],rfl,⟨_,rfl⟩,oB (oo rfl (oo rfl rfl rfl) (oS true b _)),fun _=>rfl⟩
  ·rw [List.filter_eq_nil_iff.mpr fun b A=>by
    obtain⟨v,pv⟩:=S b A
    rw [Qv.mpr (qG.mpr (N _ b (z.back.app pv)).1)];simp]
 exact kP (rP (oo la rfl (GB [] [])))
end My
namespace My
open PySem.Spec PySem.SeqAt L2 CL DL OB SD ZL SL EL DC EX TX TB TX KP ST MN
theorem us1{p:List JZ->Prop}{us:List JZ}(h:us.length=1)(q:∀ a,p [a]):p us:=by
 rcases us with _ | ⟨a,_ | ⟨b,r⟩⟩
 ·cases h
 ·exact q a
 ·simp at h
theorem us2{p:List JZ->Prop}{us:List JZ}(h:us.length=2)(q:∀ a b,p [a,b]):p us:=by
 rcases us with _ | ⟨a,r⟩
 ·cases h
 ·exact us1 (p:=fun r=>p (a::r)) (us:=r) (by simpa using h) fun b=>q a b
theorem Av{p:List JZ->Prop}{us:List JZ}(h:us.length=3)(q:∀ a b c,p [a,b,c]):p us:=by
 rcases us with _ | ⟨a,r⟩
 ·cases h
 ·exact us2 (p:=fun r=>p (a::r)) (us:=r) (by simpa using h) fun b c=>q a b c
theorem all_mk(main:∀ ns:List Int,ns.length<=63->k6 [.list (ns.map J9)]=some (.bool true)){l:PySem.W.OpenLaw}{w:J6}{K:PySem.W.Frag}{x:Str->Option JZ}{fa:YP}(a4:x "law"=some (.ref fa))(T:∃ a d ta,mT K x a d w ta)(BN:∃ C b e,qX K x C/\zK K C b e):
  ∃ fd:Zh,(∀(s:J0) (v:JZ),BindsTo s fd ⟨[v],[]⟩ [("_law_script",v)])/\∀ base:Heap,K.In base->base.Ns Zj x->aK l.prog w K x base aM 11 fa fd ["_law_script"] (xR K k6):=by
 obtain⟨a,d,ta,T⟩:=T;obtain⟨C,b,ee,B,M⟩:=BN;have e:=T.F_qr.m.symm.trans a4;cases e;obtain⟨oc,od,kV,a6,pm,an,a7,ct,a5,e,_⟩:=T.F_qr.F.ex
 refine⟨d 27,fun s v=>by rw [e];exact .of_eq rfl,fun base _ _=>?_⟩
 have H:=NN (P:=l.prog) (w:=w) (base:=base) T;have q:=NK (P:=l.prog) (w:=w) (base:=base) T;have k:=NT (P:=l.prog) (w:=w) (base:=base) T;have E:=NP (P:=l.prog) (w:=w) (base:=base) T;have Y:=Ny (P:=l.prog) (w:=w) (base:=base) T;have j:=NU (P:=l.prog) (w:=w) (base:=base) T;have I:=NI (P:=l.prog) (w:=w) (base:=base) T;have U:=NA (P:=l.prog) (w:=w) (base:=base) T;have a0:=Nw (P:=l.prog) (w:=w) (base:=base) T H;have R:=NC (P:=l.prog) (w:=w) (base:=base) T q;have G:=NO (P:=l.prog) (w:=w) (base:=base) T E Y;have Q:=NE (P:=l.prog) (w:=w) (base:=base) T j;have O:=NF (P:=l.prog) (w:=w) (base:=base) T j;have t:=ND (P:=l.prog) (w:=w) (base:=base) T I;have p:=NL (P:=l.prog) (w:=w) (base:=base) T U;have n:=NR (P:=l.prog) (w:=w) (base:=base) T a0;have J:=NH (P:=l.prog) (w:=w) (base:=base) T O;have S:=NB (P:=l.prog) (w:=w) (base:=base) T t;have X:=Nz (P:=l.prog) (w:=w) (base:=base) T p;have a2:=Nv (P:=l.prog) (w:=w) (base:=base) T n;have a3:=Nu (P:=l.prog) (w:=w) (base:=base) T n Q;have o:=NM (P:=l.prog) (w:=w) (base:=base) T a2;have Z:=Nx (P:=l.prog) (w:=w) (base:=base) T o;have A:=NQ (P:=l.prog) (w:=w) (base:=base) T j o n;have r:=NJ (P:=l.prog) (w:=w) (base:=base) T Z k q G;have u:=Wk (P:=l.prog) (w:=w) (base:=base) T;have h:=Wl (P:=l.prog) (w:=w) (base:=base) T B u r M.Fi;have c:=Wp (P:=l.prog) (w:=w) (base:=base) T B M.«where».F;have i:=Wo (P:=l.prog) (w:=w) (base:=base) T B M.walked.F;have f:=Wm (P:=l.prog) (w:=w) (base:=base) T B M.knows.F;have g:=Wn (P:=l.prog) (w:=w) (base:=base) T B M.«where».m M.«where».b c A r k M.step.F;have N:=NG (P:=l.prog) (w:=w) (base:=base) T B M k J a3 R f c;have z:=NS (P:=l.prog) (w:=w) (base:=base) T B M f g h N;have y:=NV (P:=l.prog) (w:=w) (base:=base) T B M S p z X t f g i c h;exact M9 y main
theorem fo1{K:PySem.W.Frag}{h:Heap}{o:Str->Option JZ}{n:Str}{b:Zv}{g:List Str}{f:YP}{od m:Option YP}{q:Array (Option JZ)}{r kV j i d ct:JZ}(X:K.In h)(G:h.Ns Zj o)(t:g.length=1)(u:∀ x0,Z8 (PySem.W.fnOf n n (eN b) (dE b) (aS b) .none kV j i m d ct) ⟨[x0],[]⟩=pure (Z9 g [x0]))
  (a:PySem.W.nsIn K Zj n=some (some (.ref f))) (l:K.lookup f=some ⟨r,od,.func (PySem.W.fnOf n n (eN b) (dE b) (aS b) .none kV j i m d ct),q⟩) (c:PySem.W.codeIn K d n=true) (k:PySem.W.keepIn K (.ref f)=true):Fo K o n b g f (PySem.W.fnOf n n (eN b) (dE b) (aS b) .none kV j i m d ct):=
 ⟨p9 l c k,PySem.W.mg_of X G a,.all fun e s=>us1 (p:=fun e=>Z8 _ ⟨e,[]⟩=pure (Z9 _ e)) (s.trans t) u⟩
theorem fo2{K:PySem.W.Frag}{h:Heap}{o:Str->Option JZ}{n:Str}{b:Zv}{g:List Str}{f:YP}{od m:Option YP}{q:Array (Option JZ)}{r kV j i d ct:JZ}(X:K.In h)(G:h.Ns Zj o)(t:g.length=2)(u:∀ x0 x1,Z8 (PySem.W.fnOf n n (eN b) (dE b) (aS b) .none kV j i m d ct) ⟨[x0,x1],[]⟩=pure (Z9 g [x0,x1]))
  (a:PySem.W.nsIn K Zj n=some (some (.ref f))) (l:K.lookup f=some ⟨r,od,.func (PySem.W.fnOf n n (eN b) (dE b) (aS b) .none kV j i m d ct),q⟩) (c:PySem.W.codeIn K d n=true) (k:PySem.W.keepIn K (.ref f)=true):Fo K o n b g f (PySem.W.fnOf n n (eN b) (dE b) (aS b) .none kV j i m d ct):=
 ⟨p9 l c k,PySem.W.mg_of X G a,.all fun e s=>us2 (p:=fun e=>Z8 _ ⟨e,[]⟩=pure (Z9 _ e)) (s.trans t) u⟩
theorem fo3{K:PySem.W.Frag}{h:Heap}{o:Str->Option JZ}{n:Str}{b:Zv}{g:List Str}{f:YP}{od m:Option YP}{q:Array (Option JZ)}{r kV j i d ct:JZ}(X:K.In h)(G:h.Ns Zj o)(t:g.length=3)(u:∀ x0 x1 x2,Z8 (PySem.W.fnOf n n (eN b) (dE b) (aS b) .none kV j i m d ct) ⟨[x0,x1,x2],[]⟩=pure (Z9 g [x0,x1,x2]))
  (a:PySem.W.nsIn K Zj n=some (some (.ref f))) (l:K.lookup f=some ⟨r,od,.func (PySem.W.fnOf n n (eN b) (dE b) (aS b) .none kV j i m d ct),q⟩) (c:PySem.W.codeIn K d n=true) (k:PySem.W.keepIn K (.ref f)=true):Fo K o n b g f (PySem.W.fnOf n n (eN b) (dE b) (aS b) .none kV j i m d ct):=
 ⟨p9 l c k,PySem.W.mg_of X G a,.all fun e s=>Av (p:=fun e=>Z8 _ ⟨e,[]⟩=pure (Z9 _ e)) (s.trans t) u⟩
def cn{a:Type}(x:a)(f:Nat->a):Nat->a
 | 0=>x
 | n+1=>f n
theorem tab_STEPS{K:PySem.W.Frag}{h:Heap}{mg:Str->Option JZ}{w:J6}{j a5:Nat}{i:Int}{N:Tok}{d Z:Nat}{a4:Option YP}{S:Array (Option JZ)}{r:Tok}{q:Tok}{g:Int}{M:Tok}{c Y:Nat}{a3:Option YP}{R:Array (Option JZ)}{p:Tok}{o:Tok}{f:Int}{J:Tok}{b U:Nat}{a2:Option YP}{Q:Array (Option JZ)}{n:Tok}{m:Tok}{e:Int}{I:Tok}{a T:Nat}{a0:Option YP}{O:Array (Option JZ)}{l:Tok}{k:Tok}(X:K.In h)(G:h.Ns Zj mg)(a7:PySem.W.nsIn K Zj "STEPS"=some (some (.ref j)))(a6:K.lookup j=some ⟨.type "dict",none,.dict #[⟨i,.str "n" N,.ref d⟩,⟨g,.str "e" M,.ref c⟩,⟨f,.str "s" J,.ref b⟩,⟨e,.str "w" I,.ref a⟩] a5,#[]⟩)(E:K.lookup d=some ⟨.type "tuple",a4,.seq #[.int 0 r,.int (-1) q] Z,S⟩)(y:i=PySem.hashStr w "n")(B:K.lookup c=some ⟨.type "tuple",a3,.seq #[.int 1 p,.int 0 o] Y,R⟩)(u:g=PySem.hashStr w "e")(A:K.lookup b=some ⟨.type "tuple",a2,.seq #[.int 0 n,.int 1 m] U,Q⟩)(t:f=PySem.hashStr w "s")(z:K.lookup a=some ⟨.type "tuple",a0,.seq #[.int (-1) l,.int 0 k] T,O⟩)(s:e=PySem.hashStr w "w")(a8:(j == Zm)=false):∃ x,mg "STEPS"=some (.ref x)/\kE K w x hJ/\(x == Zm)=false:=⟨_,PySem.W.mg_of X G a7,⟨_,_,a6,(gS.cons (v:=.ref d) y rfl (fun F H=>aO.tup (vs:=[.int 0,.int (-1)]) (.inr ⟨_,_,_,E,rfl,rfl,fJ (show 2<=1000 by decide),(.cons ⟨_,rfl⟩ (.cons ⟨_,rfl⟩ .nil))⟩) (.cons (.int _) (.cons (.int _) .nil))) (gS.cons (v:=.ref c) u rfl (fun F H=>aO.tup (vs:=[.int 1,.int 0]) (.inr ⟨_,_,_,B,rfl,rfl,fJ (show 2<=1000 by decide),(.cons ⟨_,rfl⟩ (.cons ⟨_,rfl⟩ .nil))⟩) (.cons (.int _) (.cons (.int _) .nil))) (gS.cons (v:=.ref b) t rfl (fun F H=>aO.tup (vs:=[.int 0,.int 1]) (.inr ⟨_,_,_,A,rfl,rfl,fJ (show 2<=1000 by decide),(.cons ⟨_,rfl⟩ (.cons ⟨_,rfl⟩ .nil))⟩) (.cons (.int _) (.cons (.int _) .nil))) (gS.cons (v:=.ref a) s rfl (fun F H=>aO.tup (vs:=[.int (-1),.int 0]) (.inr ⟨_,_,_,z,rfl,rfl,fJ (show 2<=1000 by decide),(.cons ⟨_,rfl⟩ (.cons ⟨_,rfl⟩ .nil))⟩) (.cons (.int _) (.cons (.int _) .nil))) gS.nil))))⟩,a8⟩
theorem fm1{K:PySem.W.Frag}{n q:Str}{b:Zv}{g:List Str}{C f:YP}{od m:Option YP}{o:Array (Option JZ)}{r kV j h d ct:JZ}(t:g.length=1)(u:∀ x0,Z8 (PySem.W.fnOf n q (eN b) (dE b) (aS b) .none kV j h m d ct) ⟨[x0],[]⟩=pure (Z9 g [x0]))
  (a:PySem.W.findIn K (.ref C) n=some (some (.ref f))) (i:PySem.W.isFn K (.ref f)=true) (l:K.lookup f=some ⟨r,od,.func (PySem.W.fnOf n q (eN b) (dE b) (aS b) .none kV j h m d ct),o⟩) (c:PySem.W.codeIn K d q=true) (k:PySem.W.keepIn K (.ref f)=true):Fm K C n q b g f (PySem.W.fnOf n q (eN b) (dE b) (aS b) .none kV j h m d ct):=
 ⟨p9 l c k,⟨a,i,k⟩,.all fun e s=>us1 (p:=fun e=>Z8 _ ⟨e,[]⟩=pure (Z9 _ e)) (s.trans t) u⟩
theorem fm2{K:PySem.W.Frag}{n q:Str}{b:Zv}{g:List Str}{C f:YP}{od m:Option YP}{o:Array (Option JZ)}{r kV j h d ct:JZ}(t:g.length=2)(u:∀ x0 x1,Z8 (PySem.W.fnOf n q (eN b) (dE b) (aS b) .none kV j h m d ct) ⟨[x0,x1],[]⟩=pure (Z9 g [x0,x1]))
  (a:PySem.W.findIn K (.ref C) n=some (some (.ref f))) (i:PySem.W.isFn K (.ref f)=true) (l:K.lookup f=some ⟨r,od,.func (PySem.W.fnOf n q (eN b) (dE b) (aS b) .none kV j h m d ct),o⟩) (c:PySem.W.codeIn K d q=true) (k:PySem.W.keepIn K (.ref f)=true):Fm K C n q b g f (PySem.W.fnOf n q (eN b) (dE b) (aS b) .none kV j h m d ct):=
 ⟨p9 l c k,⟨a,i,k⟩,.all fun e s=>us2 (p:=fun e=>Z8 _ ⟨e,[]⟩=pure (Z9 _ e)) (s.trans t) u⟩
theorem fm3{K:PySem.W.Frag}{n q:Str}{b:Zv}{g:List Str}{C f:YP}{od m:Option YP}{o:Array (Option JZ)}{r kV j h d ct:JZ}(t:g.length=3)(u:∀ x0 x1 x2,Z8 (PySem.W.fnOf n q (eN b) (dE b) (aS b) .none kV j h m d ct) ⟨[x0,x1,x2],[]⟩=pure (Z9 g [x0,x1,x2]))
  (a:PySem.W.findIn K (.ref C) n=some (some (.ref f))) (i:PySem.W.isFn K (.ref f)=true) (l:K.lookup f=some ⟨r,od,.func (PySem.W.fnOf n q (eN b) (dE b) (aS b) .none kV j h m d ct),o⟩) (c:PySem.W.codeIn K d q=true) (k:PySem.W.keepIn K (.ref f)=true):Fm K C n q b g f (PySem.W.fnOf n q (eN b) (dE b) (aS b) .none kV j h m d ct):=
 ⟨p9 l c k,⟨a,i,k⟩,.all fun e s=>Av (p:=fun e=>Z8 _ ⟨e,[]⟩=pure (Z9 _ e)) (s.trans t) u⟩
theorem mk_wal{K:PySem.W.Frag}{h:Heap}{a:Str->Option JZ}{C i g f d c:YP}{d0 n l k j:Zh}(X:K.In h)(G:h.Ns Zj a)(v:PySem.W.nsIn K Zj "Walker"=some (some (.ref C)))
  (q:PySem.W.plainGet K C Str.empty=true) (u:PySem.W.hasDictIn K C=true) (p:PySem.W.plainOver K C=true) (o:PySem.W.findIn K (.ref C) "__setattr__"=some (some (.builtin "object.__setattr__"))) (mk:PySem.W.makesIn K C=true) (kc:PySem.W.keepIn K (.ref C)=true)
  (t:PySem.W.findIn K (.ref C) "known"=some none) (s:PySem.W.findIn K (.ref C) "floor"=some none) (r:PySem.W.findIn K (.ref C) "path"=some none)
  (F0:Fm K C "__init__" "Walker.__init__" wS ["self","floor","cell"] i d0) (z:Fm K C "step" "Walker.step" sY ["self","word"] g n) (y:Fm K C "where" "Walker.where" wV ["self"] f l) (x:Fm K C "walked" "Walker.walked" wU ["self"] d k) (w:Fm K C "knows" "Walker.knows" wT ["self"] c j):∃ C b e,qX K a C/\zK K C b e:=
 ⟨C,(cn i (cn g (cn f (cn d (fun _=>c))))),(cn d0 (cn n (cn l (cn k (fun _=>j))))),⟨⟨q,u,p,o⟩,t,s,r,PySem.W.mg_of X G v⟩,⟨mk,F0.m.1,F0.m.2,kc⟩,F0.F,F0.b,z,y,x,w⟩
theorem mk_txt{K:PySem.W.Frag}{b:Str->Option JZ}{w:J6}{f0 f1 f2 f3 f4 f5 f6 f7 f8 f9 u t s r q p o n m l k j i h g f e c:YP}{d0 d1 d2 d3 d4 d5 d6 d7 d8 d9 T S R Q O N M J I H G F E B A z y v:Zh}(F0:Fo K b "is_whole" Ah ["thing"] f0 d0)(F1:Fo K b "all_cells" vG ["floor"] f1 d1)(F2:Fo K b "marked" rT ["things"] f2 d2)(F3:Fo K b "crossed" Aj ["one","other"] f3 d3)(F4:Fo K b "couples_beside" Ab ["cells"] f4 d4)(F5:Fo K b "beside" Ao ["cell","word"] f5 d5)(F6:Fo K b "_law_cell" Af ["_law_script","_law_k"] f6 d6)(F7:Fo K b "_law_cells" vB ["_law_floor_here"] f7 d7)(F8:Fo K b "is_whole_couple" zZ ["thing"] f8 d8)(F9:Fo K b "open_cells" Ac ["floor"] f9 d9)(c0:Fo K b "lets_see" Ai ["solids","one","other"] u T)(b9:Fo K b "all_beside" vD ["cell"] t S)(b8:Fo K b "steps_over" vE ["ground","cell"] s R)(b7:Fo K b "_law_drawn" Ad ["_law_script","_law_k","_law_many"] r Q)(b6:Fo K b "_law_open" vH ["_law_floor_here"] q O)(b5:Fo K b "is_cell" Am ["floor","thing"] p N)(b4:Fo K b "ways_over" Ae ["ground","start"] o M)(b3:Fo K b "_law_floor" vC ["_law_script","_law_at","_law_most"] n J)(b2:Fo K b "_law_reached" vA ["_law_floor_here","_law_cell_here"] m I)(b0:Fo K b "refuse_off_floor" zY ["floor","cell"] l H)(a9:Fo K b "is_beside_unknown" u9 ["floor","known","cell"] k G)(a8:Fo K b "is_solid" Ag ["floor","cell"] j F)(a7:Fo K b "way_ahead" rS ["floor","walker"] i E)(a6:Fo K b "refuse_not_open" Aa ["floor","cell"] h B)(a5:Fo K b "stepped" Ak ["floor","cell","word"] g A)(a4:Fo K b "toured" An ["floor","cell"] f z)(a3:Fo K b "seen_from" vF ["floor","cell"] e y)(a2:Fo K b "law" m9 ["_law_script"] c v)(z0:b "isinstance"=none)(z1:b "int"=none)(z2:b "bool"=none)(z3:b "range"=none)(z4:b "dict"=none)(z5:b "abs"=none)(z6:b "zip"=none)(z7:b "sorted"=none)(z8:b "tuple"=none)(z9:b "len"=none)(Z:b "set"=none)(Y:b "any"=none)(X:b "min"=none)(U:b "list"=none)(t0:∃ x,b "STEPS"=some (.ref x)/\kE K w x hJ/\(x == Zm)=false):∃ a d ta,mT K b a d w ta:=by
 obtain⟨x0,u0,v0,a0⟩:=t0
 exact⟨(cn f0 (cn f1 (cn f2 (cn f3 (cn f4 (cn f5 (cn f6 (cn f7 (cn f8 (cn f9 (cn u (cn t (cn s (cn r (cn q (cn p (cn o (cn n (cn m (cn l (cn k (cn j (cn i (cn h (cn g (cn f (cn e (fun _=>c)))))))))))))))))))))))))))),(cn d0 (cn d1 (cn d2 (cn d3 (cn d4 (cn d5 (cn d6 (cn d7 (cn d8 (cn d9 (cn T (cn S (cn R (cn Q (cn O (cn N (cn M (cn J (cn I (cn H (cn G (cn F (cn E (cn B (cn A (cn z (cn y (fun _=>v)))))))))))))))))))))))))))),(fun _=>x0),F0,F1,F2,F3,F4,F5,F6,F7,F8,F9,c0,b9,b8,b7,b6,b5,b4,b3,b2,b0,a9,a8,a7,a6,a5,a4,a3,a2,z0,z1,z2,z3,z4,z5,z6,z7,z8,z9,Z,Y,X,U,u0,v0,a0⟩
theorem walkZ{q:J5}{b:List Str}{u:(Str->Option JZ)->Heap->Prop}{K:Params->PySem.W.Frag}{s:List YP}{n t:Nat}{r:PySem.W.RowW}{d:DefRec}{i:List (Str × Expr)}{run:JZ->List JZ->Sem JZ}(e:∀ P,s=(K P).map (·.1))
  (h:PySem.W.WalkO q b u (fun w h=>(K w.params).In h) r d i run):PySem.W.WalkX q b u (PySem.W.X.obsZ s) (PySem.W.X.valZ K n t) r d i run:=
 fun w g f x z G y a o v I m H kV A E l F k B j c p L=>h w g f x z G (PySem.W.InK.keeps w _ _ (PySem.W.X.z_facts e y).2.1 L.keeps) a o v I m H kV A E l F k B j c p
theorem walk{l:PySem.W.OpenLaw}{q:J5}{b:List Str}{p:(Str->Option JZ)->Heap->Prop}{e:J6->Heap->Prop}{d:DefRec}{K:Params->PySem.W.Frag}(i:l.most=some 63)(c:d.params.defaults=[])
  (m:∀(w:J6) (h:Heap),e w h->(K w.params).In h)
  (F:∀(w:J6) (mg:Str->Option JZ) (fa:YP) (h:Heap),(K w.params).In h->h.Ns Zj mg->mg d.name=some (.ref fa)->
   ∃ fd:Zh,(∀(s:J0) (u:JZ),BindsTo s fd ⟨[u],[]⟩ [("_law_script",u)])/\∀ base:Heap,(K w.params).In base->base.Ns Zj mg->aK l.prog w (K w.params) mg base aM 11 fa fd ["_law_script"] (xR (K w.params) k6)):
  PySem.W.WalkO q b p e l.row.toRowW d [] (fun f vs=>PySem.call f vs):=
 L2.walk_of (n:=63) (k:=11) (x:="_law_script") (CX:=fun _=>aM) (sp:=fun w=>xR (K w.params) k6) i (by decide) c ⟨rfl,by decide,by decide,rfl⟩ m F (fun _ _ a g j _ o=>⟨a,g,rfl,o,j,fun _=>rfl⟩) fun _ _ _ _ _ z=>z
end My
open PySem.W
namespace PySem.W.Fast
def tw14097825215739482239:=0
def tw10559638906356665288:=0
def tw15216771187944866869:=0
def tw17554748998355133225:=0
def tw15883347413144821146:=0
def tw1193389857384113945:=0
def tw6197312999995679304:=0
def tw1993988077739773597:=0
def tw8193557751838321104:=0
def tw12915620075768835262:=0
def tw14168955390694900239:=0
def tw17763708356122853749:=0
def tw2856738802133357353:=0
def tw13127252134548407859:=0
def tw11220527907494954080:=0
def tw16680330509611787259:=0
def tw11606791768650832463:=0
def tw14249923373939236901:=0
def tw16235511125901885591:=0
def tw6977378107960223404:=0
def tw7510615968986725931:=0
def tw11131910328732573286:=0
def tw5546126056865754803:=0
def tw1170319303637472780:=0
def tw14885820204310280541:=0
def tw14389074045882239558:=0
def tw5562389671872293070:=0
def tw15837396934362054504:=0
def tw17931670424559923556:=0
def tw7921716940556995077:=0
def tw15664633913188135429:=0
def tw15699402736000927423:=0
def tw13501389544378717827:=0
def tw10595712302597163930:=0
def tw841153609823302889:=0
def tw15236254505573021636:=0
def tw17784196745127508731:=0
def tw10999675749012879129:=0
def tw18141255955427116085:=0
def tw11598720838567913393:=0
def tw15924009379816684741:=0
def tw12750907017602141370:=0
def tw2350170889579307988:=0
def tw8654686656033473535:=0
def tw13375157774371788041:=0
def tw5253807459688398687:=0
def tw3347402214050312031:=0
def tw7973440729276829572:=0
def tw11841755548672061629:=0
def tw13976828653408829663:=0
def tw8148240536829904607:=0
def tw7911827697846753329:=0
def tw153712663187930723:=0
def tw16327810491541813290:=0
def tw9456754519013070998:=0
def tw16975358459632714862:=0
def tw13584384693304210062:=0
def tw7196904100928322077:=0
def tw15016807286147908014:=0
def tw3988527022379847497:=0
def tw12543230113940112181:=0
def tw10805107764022761111:=0
def tw761151388025843522:=0
def tw9012937367046683807:=0
def tw11132741783383041761:=0
def tw13712576439889939408:=0
def tw7736160825877027512:=0
def tw4433972728897857784:=0
def tw15931711606088964120:=0
def tw6891153950952039849:=0
def tw3951309247665604209:=0
def tw8069997636729676946:=0
def tw13975625290859275346:=0
def tw7192057781576856030:=0
def tw15959376798740535313:=0
def tw1044959635744042267:=0
def tw16298582143767819605:=0
def tw15713608841821693093:=0
def tw14525355033296428733:=0
def tw6449601095257977198:=0
def tw16253664470070315895:=0
def tw16632189495341355064:=0
def tw8632784613683857233:=0
def tw4466964710711301725:=0
def tw12418042435746037282:=0
def tw4697781483114968778:=0
def tw3041193503676882572:=0
def tw3343628152823235364:=0
def tw13991614701419296378:=0
def tw685176725704731183:=0
def tw2952468561945965173:=0
def tw11275357397062627808:=0
def tw13145528527181183785:=0
def tw17918346842704836011:=0
def tw16395359532999410113:=0
def tw9775411700645237760:=0
def tw16258476491529819681:=0
def tw11047236484160919605:=0
def tw3010101903463434797:=0
def tw17745993855573094151:=0
def tw4516284962352427407:=0
def tw4452654687364318177:=0
def tw14327187394548888625:=0
def tw15009732399573635396:=0
def tw17173549212732322492:=0
def tw7493993281107754664:=0
def tw14289097575149353988:=0
def tw18015856235460874219:=0
def tw16641962029468762322:=0
def tw15145551403684350055:=0
def tw1611918098547233672:=0
def tw2156007176775770622:=0
def tw1322723947748246363:=0
def tw12111746238582713486:=0
def tw9303840131074724364:=0
def tw1293116154594820793:=0
def tw12794637253529634827:=0
def tw9419323407759719434:=0
def tw9929489179949508772:=0
def tw2930471149691845808:=0
def tw13303379649392848090:=0
def tw1948438136969900820:=0
def tw5854114034718510500:=0
def tw13603604673215889982:=0
def tw1447499121827449124:=0
def tw13820095020728896503:=0
def tw9748244083525677227:=0
def tw2450545488263961263:=0
def tw11558274546090394381:=0
def tw9344739878830515000:=0
def tw2634137435600921160:=0
def tw931352608799867491:=0
def tw15254215433816306903:=0
def tw5513508164568285194:=0
def tw8065932546354965907:=0
def tw9511838059382690736:=0
def tw8906635516525473488:=0
def tw1545003804705722868:=0
def tw1061195916201973755:=0
def tw14711339983179284002:=0
def tw9072358900643606495:=0
def tw16441129324384539203:=0
def tw12643648486805525155:=0
def tw5600236710442029526:=0
def tw2211289174104066150:=0
def tw6950437674279997588:=0
def tw6477008093127590987:=0
def tw5982791985144070442:=0
def tw1489374887636116588:=0
def tw7786594617963173298:=0
def tw3616604976124236825:=0
def tw5155479829713764085:=0
def tw6004351146156026121:=0
def tw10310004718821511889:=0
def tw10821848319672752129:=0
def tw14613279906420863200:=0
def tw6301124428645338607:=0
def tw16131269442285955021:=0
def tw17331920832681204939:=0
def tw5343886747160585823:=0
def tw10740025414984518448:=0
def tw5733008602656380075:=0
def tw4264165588145046131:=0
def tw10868470999768482961:=0
def tw5417359962538729185:=0
def tw2064702068068437264:=0
def tw6014148193599631482:=0
def tw16775147831939994209:=0
def tw17071481537407791757:=0
def tw3043514747505413634:=0
def tw1182826838636379333:=0
def tw1123683520747736559:=0
def tw17757910258810294911:=0
def tw11126905162380892526:=0
def tw7032273268717187385:=0
def tw1626131167029996825:=0
def tw10949365124320656676:=0
def tw2763029439451649626:=0
def tw2388876720247821799:=0
def tw11512008211799934597:=0
def tw17510384105133267879:=0
def tw3110390351286556708:=0
def tw11246508127625944304:=0
def tw10490361450392999051:=0
def tw18053476363145235082:=0
def tw5587656867454558997:=0
def tw6984143810264249300:=0
def tw15051212659332880695:=0
def tw6975272979568608030:=0
def tw1739431788498965299:=0
def tw9777902442897757260:=0
def tw14204519015421111257:=0
def tw6102206603987096766:=0
def tw15002227362019625293:=0
def tw3412931897166755688:=0
def tw8413719315269711861:=0
def tw9578524241185167882:=0
def tw13004691610560701165:=0
def tw14867894620652154225:=0
def tw14667262706344177210:=0
def tw11251433294555572834:=0
def tw4440244329406102956:=0
def tw4238041999482065192:=0
def tw17713726649844149928:=0
def tw1540165726232482321:=0
def tw8899390112441801206:=0
def tw11036046295280784014:=0
def tw894962132296530018:=0
def tw1386935226913892032:=0
def tw2774634259110327633:=0
def tw7479642384779493148:=0
def tw1051483776692285702:=0
def tw1369170044336574180:=0
def tw13089482000002176823:=0
def tw5600944778275221791:=0
def tw6688676099774524747:=0
def tw13174120456860297028:=0
def tw14948714493594215117:=0
def tw6636345746414973376:=0
def tw6910230214819523349:=0
def tw8564110094845338955:=0
def tw869101824643260629:=0
end PySem.W.Fast
set_option maxRecDepth 100000 in
set_option maxHeartbeats 0 in
theorem PySem.Challenge.cw_lampfloor_k75_whole_tours_holds : PySem.Challenge.rw_lampfloor_k75_whole_tours.Holds := by
 w_on;o_law;z_head;(case hw=>w_witness2)
 k_fill
 refine My.walkZ (fun _=>rfl) (My.walk (l:=PySem.Challenge.rw_lampfloor_k75_whole_tours) rfl rfl (fun w h Y=>Y) ?F)
 case F=>
  intro w mg fa h KX G hmg
  refine' My.all_mk My.main hmg (My.mk_txt (My.fo1 KX G rfl (fun _=>rfl) ?_ ?_ ?_ ?_) (My.fo1 KX G rfl (fun _=>rfl) ?_ ?_ ?_ ?_) (My.fo1 KX G rfl (fun _=>rfl) ?_ ?_ ?_ ?_) (My.fo2 KX G rfl (fun _ _=>rfl) ?_ ?_ ?_ ?_) (My.fo1 KX G rfl (fun _=>rfl) ?_ ?_ ?_ ?_) (My.fo2 KX G rfl (fun _ _=>rfl) ?_ ?_ ?_ ?_) (My.fo2 KX G rfl (fun _ _=>rfl) ?_ ?_ ?_ ?_) (My.fo1 KX G rfl (fun _=>rfl) ?_ ?_ ?_ ?_) (My.fo1 KX G rfl (fun _=>rfl) ?_ ?_ ?_ ?_) (My.fo1 KX G rfl (fun _=>rfl) ?_ ?_ ?_ ?_) (My.fo3 KX G rfl (fun _ _ _=>rfl) ?_ ?_ ?_ ?_) (My.fo1 KX G rfl (fun _=>rfl) ?_ ?_ ?_ ?_) (My.fo2 KX G rfl (fun _ _=>rfl) ?_ ?_ ?_ ?_) (My.fo3 KX G rfl (fun _ _ _=>rfl) ?_ ?_ ?_ ?_) (My.fo1 KX G rfl (fun _=>rfl) ?_ ?_ ?_ ?_) (My.fo2 KX G rfl (fun _ _=>rfl) ?_ ?_ ?_ ?_) (My.fo2 KX G rfl (fun _ _=>rfl) ?_ ?_ ?_ ?_) (My.fo3 KX G rfl (fun _ _ _=>rfl) ?_ ?_ ?_ ?_) (My.fo2 KX G rfl (fun _ _=>rfl) ?_ ?_ ?_ ?_) (My.fo2 KX G rfl (fun _ _=>rfl) ?_ ?_ ?_ ?_) (My.fo3 KX G rfl (fun _ _ _=>rfl) ?_ ?_ ?_ ?_) (My.fo2 KX G rfl (fun _ _=>rfl) ?_ ?_ ?_ ?_) (My.fo2 KX G rfl (fun _ _=>rfl) ?_ ?_ ?_ ?_) (My.fo2 KX G rfl (fun _ _=>rfl) ?_ ?_ ?_ ?_) (My.fo3 KX G rfl (fun _ _ _=>rfl) ?_ ?_ ?_ ?_) (My.fo2 KX G rfl (fun _ _=>rfl) ?_ ?_ ?_ ?_) (My.fo2 KX G rfl (fun _ _=>rfl) ?_ ?_ ?_ ?_) (My.fo1 KX G rfl (fun _=>rfl) ?_ ?_ ?_ ?_) (mg_none_of KX G ?_) (mg_none_of KX G ?_) (mg_none_of KX G ?_) (mg_none_of KX G ?_) (mg_none_of KX G ?_) (mg_none_of KX G ?_) (mg_none_of KX G ?_) (mg_none_of KX G ?_) (mg_none_of KX G ?_) (mg_none_of KX G ?_) (mg_none_of KX G ?_) (mg_none_of KX G ?_) (mg_none_of KX G ?_) (mg_none_of KX G ?_) (My.tab_STEPS KX G ?_ ?_ ?_ ?_ ?_ ?_ ?_ ?_ ?_ ?_ ?_)) (My.mk_wal KX G ?_ ?_ ?_ ?_ ?_ ?_ ?_ ?_ ?_ ?_ (My.fm3 rfl (fun _ _ _=>rfl) ?_ ?_ ?_ ?_ ?_) (My.fm2 rfl (fun _ _=>rfl) ?_ ?_ ?_ ?_ ?_) (My.fm1 rfl (fun _=>rfl) ?_ ?_ ?_ ?_ ?_) (My.fm1 rfl (fun _=>rfl) ?_ ?_ ?_ ?_ ?_) (My.fm1 rfl (fun _=>rfl) ?_ ?_ ?_ ?_ ?_))
  any_goals k_is
  all_goals rfl
