import PyProof.Rows.All
import Wide.All
import OpenK.AllK
import Wide.FinOn
import KE.KLam
import KE.KNestM
import PySem.Challenge.RW_lampfloor_k86_whole_relays
noncomputable section
open PySem renaming wpAny_bind->Qa,wpAny_pure->Qb,wpAny_setState_of->QU,wpAny_holding->Q7,wpAny_call_entry->Yc,wpAny_newObj_type->Yd,sizeLine_eq->Yf,wpAny_callSpecial?_slot->Yp,wpAny_Call_Name_kw->YB,wpAny_setField->YK,codeAny_builtin->YN,wpAny_field->YQ,wpAny_mono->YZ,wpAny_forIn_list->Y0,wpAny_typeOf->Y2,wpAny_typeNameOfWhole_keyiter->Y3,wpAny_truthy_bool->Y4,wpAny_dictEntries->Y8,codeAny_mono->Jd,plainId_quiet->Jf,wpAny_isInstance->Jg,wpAny_seqItems->Ji,wpAny_passesOwn->Jn,wpAny_storeSet_of->Jo,putSet_of->Js,wpAny_specialOf->JA,wpAny_rule->JJ,wpAny_setEntries_of->JN,wpAny_execs_nil->JR,wpAny_dictEpoch->JT,wpAny_of_eq->JU
open PySem.Heap renaming get?_push_of_some->Qc,lt_size->Qo,get?_push_size->Qt,get?_update_self->QV,get?_update_other->Ya,size_push->YT
open List renaming mem_cons_self->Qd,getElem?_eq_some_iff->Qe,length_append->Qf,mem_cons_of_mem->Qg,getElem?_eq_getElem->Qh,mem_cons->Qi,length_map->Ql,mem_singleton->Qm,map_cons->Qp,contains_iff_mem->Qr,mem_append_right->Qu,mem_append->Qx,getElem?_set_ne->Qz,mem_filter->QB,getElem?_set_self->QC,length_cons->QE,length_singleton->QF,mem_append_left->QG,size_toArray->QH,append_assoc->QL,all_eq_true->QM,append_nil->QO,mem_of_getElem?->QP,length_filter_le->QQ,mem_range->QR,getElem?_map->QS,mem_map->QT,map_append->QZ,length_take->Q0,pairwise_map->Q2,lookup_cons->Q3,getElem?_of_mem->Q5,pairwise_cons->Q9,getD_eq_getElem?_getD->Yb,take_append_drop->Ye,length_range->Yg,map_map->Yk,eq_nil_of_length_eq_zero->Yl,drop_eq_getElem_cons->Ym,nodup_append->Yn,getElem_mem->Yr,filter_cons->Ys,nodup_cons->Yu,cons_append->Yy,filter_congr->Yz,getElem?_replicate->YA,length_drop->YG,getElem?_zip_eq_some->YJ,foldl_cons->YM,getElem?_append_right->YS,map_congr_left->YU,getElem?_append_left->YW,length_nil->Y9,find?_cons->Ja,filterMap_cons->Jb,not_mem_nil->Ju,nodup_nil->Jv,all_eq_not_any_not->Jw,zip_cons_cons->Jx,nil_append->JC,any_cons->JE,flatten_cons->JH,mem_map_of_mem->JO
open Option renaming bind_some->Qj
open Nat renaming le_refl->Qk,le_trans->Qv,ne_of_lt->Qw,lt_of_lt_of_le->QD,zero_le->QY,lt_of_le_of_lt->Yh,le_add_right->Yx,not_lt_zero->YD,le_of_lt->YE,ne_of_gt->YF,lt_irrefl->Y1,lt_succ_of_lt->Y6,le_of_lt_succ->Y7,eq_or_lt_of_le->Jk,mul_le_mul->Jm,le_of_not_lt->Jr,le_antisymm->JB,zero_add->JK,lt_or_ge->JL
open Bool renaming false_eq_true->Qq,and_eq_true->Qy,false_ne_true->QA,and_eq_true_iff->QI,eq_iff_iff->Q6,not_eq_true'->Q8,not_true->Yw,not_eq_true->YH,true_and->JD,and_self->JQ
open Array renaming length_toList->Qs,getElem?_eq_getElem->QK,getElem?_toList->QN,getElem?_eq_some_iff->Yi,getElem?_eq_none->Yt,size_map->Jj,toList_filterMap->Jz
open Option.some renaming inj->QJ
open PySem.SeqAt renaming canLay_of_shaped->QW
open PySem.Heap.SameBut renaming update->QX,refl->JF
open PySem.PassesOwn renaming never->Q1
open PyProof.Rows renaming wpS_bind->Yj,wpS_pure->YL,callWith_type1->YR,slot_tuple_getitem->YV,callWith_builtin1->Jq,pairsOf_size->JM,KK_mirror_equal->JS
open PySem.Obj renaming data_mapFields->Yo,isFreed_of_fields->YY,cls_mapFields->JG
open List.Nodup renaming length_le_of_subset->Yq
open LawfulBEq renaming eq_of_beq->Yv
open PySem.Around renaming under_plainId->YC
open Classical renaming byContradiction->YI
open PyProof.Rows.KeyOrd renaming kle_refl->YO
open Prod renaming ext->YX
open Int renaming toNat_natCast->Y5,natCast_nonneg->Jh,ofNat_lt->Jp,emod_lt_of_pos->Jy,toNat_of_nonneg->JP
open PySem.List renaming filterMap_getElem?_range_length->Jc
open PySem.SetTable renaming insertAt_perm->Je
open PySem.F renaming slot_tuple_iterator_next->Jl
open PyProof.Rows.F renaming plain_set_update_loop->Jt
open PySem.Calls renaming evalArgs_plain->JI
open PySem renaming Value->YP,Shared->JV,Addr->JW,starEach->JX,wpAny->JY,Program->JZ,model->J0,World->J1,mainGlobals->J2,cLine->Za,bootBuiltins->Zb,compareOp->Zc,FuncData->Zg,backTo->Zi,Stmt->Zj,eval->Zk,sysModules->Zl,binaryOp->Zs,rawInt->Zy,Scope->Zz,foldedSetIterable->ZC,swapsWith->ZE,DictEntry->ZF,wpAny_loadPart'->ZJ,assignEach->ZV,firstArgMember->ZW,codeAny->ZY,pyNext->Z1,behindInMarks->Z2,bindArgs->Z3,wpAny_pyIter_tuple->Ub,sliceBounds->Uc,isSubtype_type->Uf,wpAny_pyIter_list->Ug,wpAny_tryCatch->Uk,argBest->Ul,builtinLookup_eq_fast->Uo,wpAny_notOrdered_dict->Uq,getitemInPython_of_ne->Ur,codeAmong->Ut,Arguments->Uu,wpAny_askSetting->Uv,Keyword->UA,attributeBase->UC,wpAny_attempt->UD,NameKind->UG,richCompare->UH,Reads->UJ,wpAny_letTemporaryGo->UK,wpAny_updateSeq->UN,wpAny_call->UR,wpAny_fieldsOf->UT,subscripted->UV,keywordEach->UW,GenState->UY,ReadsAll->UZ,IsPart->U0,atKey->U2
open PyProof.Rows renaming arrOf->J3,SortedToK->Zo,SortSt->ZP,pendingOf->ZU,IntsAre->Ue,wpS_forRange->Uh,seqObj->Uj,AllBare->Uz,subscriptTail->UB,room_in_shaped->UU,pairsOf->UX
open PySem.PyData renaming int->J4,canLayAll0->J8,depthAll->J9,bool->Zf,list->Zp,canLay0->Zw,eqvAll->ZA,tuple->ZB,eqv->ZO,depth->ZZ,shownAll->UO
open PySem.Value renaming ref->J5,none->J6,type->ZR,isInt_shape->Ud,isStrOf->Uy
open PySem.NameKind renaming free->J7,cell->Z5
open PySem.SetTable renaming sizeAbove->Zd,below->Zh,insertAt->Zm,runEnd->ZM,eraseAt->ZT,fits->Z6,fill->Z7,turns->U1
open PySem.Heap renaming SameBut->Ze,get?_none_of_le->UF
open PySem.Obj renaming mapFields->Zn,putSet->Zv,mapSeq->ZS
open PySem.SeqAt renaming shaped->Zq
open Or renaming inr->Zr,inl->ZG
open False renaming elim->Zt
open PySem.Str renaming ofString->Zu
open Ne renaming symm->Zx
open ForInStep renaming yield->ZD
open PySem.Builtin.Slice renaming slicePlaces->ZH,sliceAdjust->Z0
open PySem.Builtin.SmallTypes renaming nextOf->ZI
open PySem.Builtin.Tuple renaming tupleExact->ZK
open PySem.Builtin.Frozenset renaming addrOf->ZN,isAnySet->ZX,sizeOf->Z8
open PySem.Builtin.Dict renaming updateFrom->ZQ,showsAll->Us
open PySem.Builtin.List renaming listTooLong->Z4
open Array renaming replicate->Z9,forIn_toList->Ua,getD->US
open PyProof.Rows.KeyOrd renaming kle_of_klt->Ui,kle_trans->Uw
open Bool renaming eq_false_iff->Um,and_comm->UE,or_eq_true->UL
open True renaming intro->Ux
open PySem.SetTable.probe renaming go->UI
open PySem.SeqAt.ReadsAll renaming length->UM
open Int renaming emod_nonneg->UP,toNat_lt->UQ
set_option Elab.async false
set_option linter.all false
set_option maxRecDepth 100000
set_option maxHeartbeats 4000000
set_option compiler.extract_closed false
set_option genInjectivity false
set_option genSizeOf false
set_option genSizeOfSpec false
set_option bootstrap.genMatcherCode false
open PySem PyProof.Rows
noncomputable section
namespace L2
open PySem.Spec
abbrev gJ:=Sum Int Str
def Fy:gJ->YP->Bool
 | .inl k,v=>Value.isInt k v
 | .inr x,v=>Uy x v
def Kc(w:J1):gJ->Int
 | .inl k=>hashInt k
 | .inr x=>hashStr w x
theorem kR:∀{k:gJ}{v:YP},Fy k v=true->(∃ i t,k=Sum.inl i/\v=Value.int i t) ∨ (∃ x t,k=Sum.inr x/\v=Value.str x t)
 | .inl i,v,h=>by
  obtain⟨t,e⟩:=Ud (k:=i) (v:=v) h;exact .inl ⟨i,t,rfl,e⟩
 | .inr x,v,h=>by
  obtain⟨t,e⟩:=Value.isStrOf_shape (x:=x) (v:=v) h;exact .inr ⟨x,t,rfl,e⟩
theorem Oe(a b:Int):decide ((Sum.inl a:gJ)=Sum.inl b)=(a == b):=by
 by_cases e:a=b
 ·subst e;simp
 ·have h:¬ (Sum.inl a:gJ)=Sum.inl b:=fun q=>e (Sum.inl.inj q);rw [decide_eq_false h]
  exact(beq_eq_false_iff_ne.mpr e).symm
theorem Oh(a b:Str):decide ((Sum.inr a:gJ)=Sum.inr b)=decide (a=b):=by
 by_cases e:a=b
 ·subst e;simp
 ·have h:¬ (Sum.inr a:gJ)=Sum.inr b:=fun q=>e (Sum.inr.inj q);rw [decide_eq_false h,decide_eq_false e]
theorem Of(a:Int)(b:Str):decide ((Sum.inl a:gJ)=Sum.inr b)=false:=decide_eq_false (fun q=>nomatch q)
theorem Og(a:Str)(b:Int):decide ((Sum.inr a:gJ)=Sum.inl b)=false:=decide_eq_false (fun q=>nomatch q)
def E5(prog:JZ)(w:J1):PySem.KeyKind prog w gJ where
 is:=Fy
 hash:=Kc w
 inj:=fun v a b g d=>by
  rcases kR g with⟨i,t,rfl,rfl⟩ | ⟨x,t,rfl,rfl⟩
  ·rcases kR d with⟨j,u,rfl,e⟩ | ⟨y,u,rfl,e⟩
   ·injection e with e1 _;rw [e1]
   ·exact nomatch e
  ·rcases kR d with⟨j,u,rfl,e⟩ | ⟨y,u,rfl,e⟩
   ·exact nomatch e
   ·injection e with e1 _;rw [e1]
 byValue:=fun k v h=>by
  rcases kR h with⟨i,t,rfl,rfl⟩ | ⟨x,t,rfl,rfl⟩ <;> rfl
 pyHash:=fun c h=>by
  rcases kR c with⟨i,t,rfl,rfl⟩ | ⟨x,t,rfl,rfl⟩
  ·exact wpAny_pyHash_int h
  ·exact wpAny_pyHash_str h
 eqBool:=fun f c h=>by
  rcases kR f with⟨i,t,rfl,rfl⟩ | ⟨x,t,rfl,rfl⟩
  ·rcases kR c with⟨j,u,rfl,rfl⟩ | ⟨y,u,rfl,rfl⟩
   ·rw [Oe]at h;exact wpAny_eqBool_int h
   ·rw [Of]at h;exact SeqAt.EqAt.int_str i t y u _ _ _ _ h
  ·rcases kR c with⟨j,u,rfl,rfl⟩ | ⟨y,u,rfl,rfl⟩
   ·rw [Og]at h;exact SeqAt.EqAt.str_int x t j u _ _ _ _ h
   ·rw [Oh]at h;exact wpAny_eqBool_str h
 «strs»:=fun k x t v h=>by
  rcases kR h with⟨i,u,rfl,e⟩ | ⟨y,u,rfl,e⟩
  ·exact nomatch e
  ·injection e with e1 _
   subst e1
   cases v <;> rfl
inductive V where
 | non | bl (b:Bool) | int (i:Int) | str (x:Str) | byt (b:Array UInt8) | flt (b:UInt64) | ref (a:JW) | ty (n:String)
 deriving DecidableEq
def RelV:V->YP->Prop
 | .non,u=>u=J6
 | .bl b,u=>u=Value.bool b
 | .int i,u=>∃ t,u=Value.int i t
 | .str x,u=>∃ t,u=Value.str x t
 | .byt b,u=>∃ t,u=Value.bytes b t
 | .flt b,u=>∃ t,u=Value.float b t
 | .ref a,u=>u=J5 a
 | .ty n,u=>u=ZR n
abbrev Vals:List V->List YP->Prop:=Paired RelV
theorem Vals.length{xs:List V}{us:List YP}(r:Vals xs us):xs.length=us.length:=Paired.length r
theorem Vals.get:∀{xs:List V}{us:List YP}{i:Nat}{x:V},Vals xs us->xs[i]?=some x->∃ u,us[i]?=some u/\RelV x u
 | _,_,_,_,.nil,e=>by simp at e
 | _,_,0,_,.cons r _,e=>by simp at e;subst e;exact⟨_,rfl,r⟩
 | _,_,i+1,x,.cons _ t,e=>by
  obtain⟨u,b,a⟩:=Vals.get (i:=i) (x:=x) t (by simpa using e)
  exact⟨u,by simpa using b,a⟩
theorem Vals.append:∀{xs ys:List V}{us ws:List YP},Vals xs us->Vals ys ws->Vals (xs++ys) (us++ws)
 | _,_,_,_,.nil,s=>s
 | _,_,_,_,.cons r t,s=>.cons r (Vals.append t s)
theorem Vals.take:∀{xs:List V}{us:List YP} (n:Nat),Vals xs us->Vals (xs.take n) (us.take n)
 | _,_,0,_=>.nil
 | _,_,_+1,.nil=>.nil
 | _,_,n+1,.cons r t=>.cons r (Vals.take n t)
theorem Vals.drop:∀{xs:List V}{us:List YP} (n:Nat),Vals xs us->Vals (xs.drop n) (us.drop n)
 | _,_,0,r=>r
 | _,_,_+1,.nil=>.nil
 | _,_,n+1,.cons _ t=>Vals.drop n t
def Ck:Option V->Option YP->Prop
 | some v,some u=>RelV v u
 | none,none=>True
 | _,_=>False
def KV{κ:Type}:List (κ × V)->List (κ × YP)->Prop:=Paired fun(p:κ × V) (q:κ × YP)=>p.1=q.1/\RelV p.2 q.2
def kV:gJ->V
 | .inl i=>.int i
 | .inr x=>.str x
inductive HO where
 | lst (xs:List V)
 | tup (xs:List V)
 | dK (kvs:List (gJ × V)) | dT (kvs:List (List gJ × V))
 | set (S:Int->Bool) (n:Nat)
 | ins (C dx:JW) (fs:List (Str × V))
 | own (x:JW)
 | xd (fs:List (Str × V))
 | met (f x:JW)
 | rng (lo hi:Int)
 | frz (o:Obj) (u:HO)
 | tbl (ps:Array YP)
 | cod (q:Str)
 | ext (φ:Heap->Prop)
abbrev Hp:=JW->Option HO
def aP(H:Hp)(a:JW)(o:HO):Hp:=fun b=>if b=a then some o else H b
theorem cQ{H:Hp}{a:JW}{o:HO}:aP H a o a=some o:=by unfold aP;rw [if_pos rfl]
theorem aU{H:Hp}{a b:JW}{o:HO}(h:b≠a):aP H a o b=H b:=by unfold aP;rw [if_neg h]
theorem uP{H:Hp}{a b:JW}{o u:HO}(h:H a=some o)(h':H b=some u)(d:o≠u):a≠b:=by
 intro e;subst e;rw [h]at h';exact d (QJ h')
theorem eE{H:Hp}{a b:JW}{o:HO}(h:H a=some o)(h':H b=none):a≠b:=by
 intro e;subst e;rw [h]at h';cases h'
section
variable (P:JZ)(w:J1)
def nW(H:Hp)(h:Heap)(a:JW)(b:Array YP):Prop:=∃ qs:Array YP,h.get? a=some { cls:=.none,data:=.fields qs }/\TriplesOk qs.toList/\∀ pos qual,b[0]?=some (Zy pos.line)->b[1]?=some (Zy pos.col)->b[2]?=some (.str qual 0)->
 Ut pos qs.toList=none ∨ ∃ c,Ut pos qs.toList=some (.ref c)/\H c=some (.cod qual)
def zB:Sum (List V) Str->HO
 | .inl a=>.tup a
 | .inr q=>.cod q
def gF(H:Hp)(h:Heap)(a:JW):HO->Prop
 | .lst c=>c.length<=sizeLine/\∃(its:List YP) (n:Nat),Vals c its/\h.get? a=some { cls:=.type "list",data:=.seq its.toArray n }
 | .tup c=>c.length<=sizeLine/\∃ its:List YP,Vals c its/\IsTup h a its.toArray
 | .dK b=>b.length<=sizeLine/\(a == Zl)=false/\∃ vs,KV b vs/\h.DictOf (E5 P w) a vs
 | .dT b=>b.length<=sizeLine/\(a == Zl)=false/\∃ c:List (List gJ × JW × YP),
   Paired (fun(p:List gJ × V) (q:List gJ × JW × YP)=>p.1=q.1/\H q.2.1=some (.tup (p.1.map kV))/\RelV p.2 q.2.2) b c /\
   ∃ o es ep,h.get? a=some o/\o.ExactDict/\o.data=.dict es ep/\es.toList=c.map (entryOfKey (tupleKind (E5 P w)))/\(c.map (·.1)).Nodup
 | .set S n=>h.SetOf (intKind P w) a S n
 | .ins C d fs=>H d=some (.own a)/\fs.length<=1000/\d≠a/\h.get? a=some (PySem.W.instObj C d) /\
   ∃ mA,h.Ns1 d mA/\(∀ f,Ck (fs.lookup f) (mA f))/\PySem.Within mA (fs.map (·.1))
 | .own _=>∃ o,h.get? a=some o
 | .xd fs=>∃ mA,h.Ns1 a mA/\∀ f,Ck (fs.lookup f) (mA f)
 | .rng g i=>∃ t u v,h.get? a=some { cls:=.type "range",data:=.fields #[.int g t,.int i u,.int 1 v] }
 | .frz o u=>h.get? a=some o/\gF H h a u
 | .tbl e=>nW H h a e
 | .cod q=>h.CodeRec (.ref a) q
 | .met f x=>h.get? a=some (PySem.W.methodObj (.ref f) (.ref x))
 | .ext φ=>φ h/\(∃ o,h.get? a=some o)/\∀ h1 h2:Heap,φ h1->(∀ o,h1.get? a=some o->h2.get? a=some o)->φ h2
def cY(H:Hp)(h:Heap):Prop:=∀ a o,H a=some o->gF P w H h a o
end
section
variable {P:JZ}{w:J1}{H H':Hp}{h h':Heap}{a:JW}{o:HO}
theorem gF.lt(x:gF P w H h a o):a<h.objs.size:=by
 cases o with
 | lst c=>obtain⟨_,_,_,_,e⟩:=x;exact Qo e
 | tup c=>obtain⟨_,_,_,p⟩:=x;exact p.lt
 | dK b=>obtain⟨_,_,_,_,o,_,_,e,_⟩:=x;exact Qo e
 | dT b=>obtain⟨_,_,_,_,o,_,_,e,_⟩:=x;exact Qo e
 | set S n=>obtain⟨o,_,_,_,e,_⟩:=x;exact Qo e
 | ins C l fs=>obtain⟨_,_,_,e,_⟩:=x;exact Qo e
 | own y=>obtain⟨_,e⟩:=x;exact Qo e
 | xd fs=>obtain⟨_,⟨_,_,_,e,_⟩,_⟩:=x;exact Qo e
 | rng j k=>obtain⟨_,_,_,e⟩:=x;exact Qo e
 | frz i u=>obtain⟨e,_⟩:=x;exact Qo e
 | tbl d=>obtain⟨_,e,_⟩:=(show nW H h a d from x);exact Qo e
 | cod q=>obtain⟨_,_,_,_,e,g,_⟩:=(show h.CodeRec (.ref a) q from x);cases e;exact Qo g
 | met f y=>exact Qo (show h.get? a=some _ from x)
 | ext φ=>obtain⟨_,⟨_,e⟩,_⟩:=x;exact Qo e
theorem Paired.mapP{d c:Type}{F G:d->c->Prop}:∀{l₁:List d}{l₂:List c},Paired F l₁ l₂->(∀ a b,F a b->G a b)->Paired G l₁ l₂
 | _,_,.nil,_=>.nil
 | _,_,.cons r t,f=>.cons (f _ _ r) (Paired.mapP t f)
theorem gF.stay(x:gF P w H h a o)(k:∀ b u,(b=a ∨ H b=some (.own a))->h.get? b=some u->h'.get? b=some u)
  (U:∀ b,H b=some (.own a)->H' b=some (.own a)) (I:∀ b xs,H b=some (zB xs)->H' b=some (zB xs)):gF P w H' h' a o:=by
 induction o with
 | lst xs=>obtain⟨z,m,n,r,e⟩:=x;exact⟨z,m,n,r,k _ _ (.inl rfl) e⟩
 | tup xs=>obtain⟨z,m,r,g,e,c⟩:=x;exact⟨z,m,r,g,k _ _ (.inl rfl) e,c⟩
 | dK E=>obtain⟨z,y,s,r,g,i,j,e,c⟩:=x;exact⟨z,y,s,r,g,i,j,k _ _ (.inl rfl) e,c⟩
 | dT E=>
  obtain⟨z,y,xs,r,g,i,j,e,c⟩:=x
  exact⟨z,y,xs,Paired.mapP r fun p q z=>⟨z.1,I _ (.inl _) z.2.1,z.2.2⟩,g,i,j,k _ _ (.inl rfl) e,c⟩
 | set S n=>obtain⟨g,i,j,t,e,c⟩:=x;exact⟨g,i,j,t,k _ _ (.inl rfl) e,c⟩
 | ins C dx fs=>
  obtain⟨d,z,Q,e,B,⟨A,i,j,F,c⟩,r⟩:=x
  exact⟨U _ d,z,Q,k _ _ (.inl rfl) e,B,⟨A,i,j,k _ _ (.inr d) F,c⟩,r⟩
 | own y=>obtain⟨g,e⟩:=x;exact⟨g,k _ _ (.inl rfl) e⟩
 | xd fs=>obtain⟨B,⟨A,i,j,e,c⟩,r⟩:=x;exact⟨B,⟨A,i,j,k _ _ (.inl rfl) e,c⟩,r⟩
 | rng Z hi=>obtain⟨t,u,v,e⟩:=x;exact⟨t,u,v,k _ _ (.inl rfl) e⟩
 | frz g u T=>obtain⟨e,q⟩:=x;exact⟨k _ _ (.inl rfl) e,T q⟩
 | tbl O=>
  obtain⟨J,e,t,z⟩:=(show nW H h a O from x)
  exact⟨J,k a _ (.inl rfl) e,t,fun pos l Y F X=>(z pos l Y F X).imp id fun⟨c,y1,y2⟩=>⟨c,y1,I c (.inr l) y2⟩⟩
 | cod q=>
  obtain⟨_,g,s,t,N,M,K⟩:=(show h.CodeRec (.ref a) q from x);cases N
  exact⟨a,g,s,t,rfl,k _ _ (.inl rfl) M,K⟩
 | met f y=>
  have e:h.get? a=some (PySem.W.methodObj (.ref f) (.ref y)):=x
  show h'.get? a=some (PySem.W.methodObj (.ref f) (.ref y))
  exact k a _ (.inl rfl) e
 | ext φ=>obtain⟨p,⟨o,e⟩,G⟩:=x;exact⟨G _ _ p fun o q=>k _ _ (.inl rfl) q,⟨o,k _ _ (.inl rfl) e⟩,G⟩
theorem cY.lt(x:cY P w H h)(e:H a=some o):a<h.objs.size:=(x a o e).lt
theorem cY.fresh(x:cY P w H h)(e:h.objs.size<=a):H a=none:=by
 cases q:H a with
 | none=>rfl
 | some u=>exact absurd (QD (x.lt q) e) (Y1 _)
theorem cY.kept(x:cY P w H h)(k:∀ b u,h.get? b=some u->h'.get? b=some u):cY P w H h':=fun a o e=>
 (x a o e).stay (fun b u _ q=>k b u q) (fun _ q=>q) fun _ _ q=>q
theorem cY.laid(x:cY P w H h)(k:∀ b u,h.get? b=some u->h'.get? b=some u)(i:h.objs.size<=a)(d:gF P w (aP H a o) h' a o):cY P w (aP H a o) h':=fun b u e=>by
 have f:=x.fresh i;by_cases g:b=a
 ·subst g;rw [cQ]at e;cases e;exact d
 ·rw [aU g]at e
  exact(x b u e).stay (fun c v _ q=>k c v q) (fun c q=>by rw [aU (eE q f)];exact q) fun c j q=>by rw [aU (eE q f)];exact q
end
def Rd(H:Hp)(a:JW)(u:HO):Prop:=H a=some u ∨ ∃ o,H a=some (.frz o u)
theorem Rd.ok{P:JZ}{w:J1}{H:Hp}{h:Heap}{a:JW}{u:HO}(r:Rd H a u)(x:cY P w H h):gF P w H h a u:=by
 rcases r with r | ⟨o,r⟩
 ·exact x a u r
 ·obtain⟨_,q⟩:=x a _ r;exact q
def tJ:Option HO->Prop
 | some (.lst _)=>True
 | some (.dK _)=>True
 | some (.dT _)=>True
 | some (.set _ _)=>True
 | some (.ins _ _ _)=>True
 | some (.ext _)=>True
 | _=>False
section
variable {P:JZ}{w:J1}{H:Hp}{h h':Heap}{x e:JW}{o':HO}
theorem cY.write(ok:cY P w H h)(i:tJ (H x))(he:e=x ∨ H e=some (.own x))(k:∀ b u,b≠e->h.get? b=some u->h'.get? b=some u)(n:∃ u,h'.get? e=some u)
  (m:gF P w (aP H x o') h' x o'):cY P w (aP H x o') h':=fun b u q=>by
 have d:∀ c y,H c=some (.own y)->c≠x:=fun c y r z=>by subst z;rw [r]at i;exact i
 have g:∀ c f,H c=some (zB f)->c≠x:=fun c f r z=>by subst z;rw [r]at i;cases f <;> exact i
 by_cases l:b=x
 ·subst l;rw [cQ]at q;cases q;exact m
 ·rw [aU l]at q;by_cases a:b=e
  ·have o:H b=some (.own x):=by
    rcases he with z | z
    ·exact absurd (a.trans z) l
    ·rw [a];exact z
   rw [q]at o;cases o;obtain⟨v,p⟩:=n
   exact⟨v,by rw [a];exact p⟩
  ·refine(ok b u q).stay (fun c v j r=>k c v ?_ r) (fun c r=>by rw [aU (d c b r)];exact r) fun c f r=>by rw [aU (g c f r)];exact r
   rcases j with rfl | j
   ·exact a
   ·rintro rfl;rcases he with z | z
    ·exact d c b j z
    ·rw [j]at z;cases z;exact l rfl
end
structure Un(fs ex:List JW)(H H':Hp)(h h':Heap):Prop where
 keep:∀ b o,h.get? b=some o->H b=none->b∉fs->b∉ex->h'.get? b=some o
 slot:∀ b o,h.get? b=some o->H b=none->b∈fs->b∉ex->∃ sl,h'.get? b=some { o with slots:=sl }
 free:∀ b o,h.get? b=some o->H b=none->b∉ex->H' b=none
 there:∀ b o,h.get? b=some o->b∉ex->∃ o',h'.get? b=some o'
 tups:∀ b xs,H b=some (.tup xs)->H' b=some (.tup xs)
 frzs:∀ b o u,H b=some (.frz o u)->H' b=some (.frz o u)
 tbls:∀ b ps,H b=some (.tbl ps)->∃ more,H' b=some (.tbl (ps++more))
section
variable {fs fs' ex ex':List JW}{H H1 H2:Hp}{h h1 h2 h':Heap}{a x e:JW}{o:HO}
theorem Un.any(u:Un fs ex H H1 h h1){b:JW}{a:Obj}(q:h.get? b=some a)(n:H b=none)(c:b∉ex):∃ sl,h1.get? b=some { a with slots:=sl }:=by
 by_cases d:b∈fs
 ·exact u.slot b a q n d c
 ·exact⟨a.slots,u.keep b a q n d c⟩
theorem Un.kept(k:∀ b u,h.get? b=some u->h'.get? b=some u):Un fs ex H H h h':=
 ⟨fun b a q _ _ _=>k b a q,fun b a q _ _ _=>⟨a.slots,k b a q⟩,fun _ _ _ n _=>n,fun b a q _=>⟨a,k b a q⟩,fun _ _ q=>q,fun _ _ _ q=>q,fun _ c q=>⟨#[],by rw [q];simp⟩⟩
theorem Un.refl:Un fs ex H H h h:=Un.kept fun _ _ q=>q
theorem Un.laid(k:∀ b u,h.get? b=some u->h'.get? b=some u)(e:h.objs.size<=a)(c:H a=none):Un fs ex H (aP H a o) h h' where
 keep:=fun b u q _ _ _=>k b u q
 slot:=fun b u q _ _ _=>⟨u.slots,k b u q⟩
 free:=fun b u q n _=>by rw [aU (Qw (QD (Qo q) e))];exact n
 there:=fun b u q _=>⟨u,k b u q⟩
 tups:=fun b d q=>by rw [aU (eE q c)];exact q
 frzs:=fun b u d q=>by rw [aU (eE q c)];exact q
 tbls:=fun b f q=>⟨#[],by rw [aU (eE q c),q];simp⟩
theorem Un.write(c:tJ (H x))(he:e=x ∨ H e=some (.own x))(k:∀ b u,b≠e->h.get? b=some u->h'.get? b=some u)(f:∃ u,h'.get? e=some u):Un fs ex H (aP H x o) h h':=by
 have g:∀ b,H b=none->b≠x:=fun b n z=>by subst z;rw [n]at c;exact c
 have i:∀ b,H b=none->b≠e:=fun b n z=>by
  subst z;rcases he with r | r
  ·exact g b n r
  ·rw [n]at r;cases r
 have d:∀ b u,H b=some u->¬ tJ (some u)->b≠x:=fun b u q l z=>by subst z;rw [q]at c;exact l c
 refine⟨fun b u q n _ _=>k b u (i b n) q,fun b u q n _ _=>⟨u.slots,k b u (i b n) q⟩,fun b u q n _=>by rw [aU (g b n)];exact n,fun b u q _=>?_,
  fun b j q=>by rw [aU (d b _ q fun z=>z)];exact q,fun b u j q=>by rw [aU (d b _ q fun z=>z)];exact q,fun b m q=>⟨#[],by rw [aU (d b _ q fun z=>z),q];simp⟩⟩
 by_cases a:b=e
 ·subst a;exact f
 ·exact⟨u,k b u a q⟩
end
def uJ(h:Heap)(H:Hp):List JW:=(List.range h.objs.size).filter fun a=>(H a).isSome
def jS(h:Heap)(H:Hp):Heap:=PySem.W.hideAll h (uJ h H)
theorem OG(h:Heap)(H:Hp):(jS h H).objs.size=h.objs.size:=PySem.W.hideAll_size _ _
theorem OF{h:Heap}{H:Hp}{b:JW}{o:Obj}(e:h.get? b=some o)(n:H b=none):(jS h H).get? b=some o:=
 PySem.W.hideAll_get _ e fun a=>by
  have q:(H b).isSome=true:=(QB.mp a).2;rw [n]at q;simp at q
theorem Pq{h:Heap}{H:Hp}{b:JW}{o:Obj}(e:(jS h H).get? b=some o):h.get? b=some o/\H b=none:=by
 have a:h.get? b=some o:=PySem.W.of_hideAll (uJ h H) e
 refine⟨a,?_⟩
 cases q:H b with
 | none=>rfl
 | some x=>
  have c:b∈uJ h H:=QB.mpr ⟨QR.mpr (Qo a),by simp [q]⟩;have z:(jS h H).get? b=none:=PySem.W.hideAll_none (uJ h H) c;rw [z]at e;cases e
structure Mod(K:PySem.W.Frag)(mg:Str->Option YP)(base:Heap):Prop where
 kin:K.In base
 glob:base.Ns J2 mg
 blt:∃ mb,base.Ns builtinsNs mb/\∀ x:Str,x≠"__name__"->mb x=Zb x
 nolimit:base.NoLimit
structure Cx where
 prog:JZ
 w:J1
 K:PySem.W.Frag
 mg:Str->Option YP
 base:Heap
 A:Around
 N:List Str
 s₀:JV
 H₀:Hp
 env:Env
 outer:List Env
 stack:List Env
 ex:List JW
 fn:Str->Bool
 calm:Bool
 pn:List (JW × Obj)
 xe:YP->JV->Prop
def dN(l:List Env):List JW:=l.filterMap (·.frame)
abbrev Cx.fs(X:Cx):List JW:=dN X.outer
def jQ(a:Zz)(x:Str):Prop:=a.names.lookup x=some .local ∨ a.names.lookup x=some .cell ∨ a.names.lookup x=some .free
def Loc(a:Zz)(x:Str):Prop:=a.names.lookup x=some .local ∨ a.names.lookup x=some .cell
def Ij(env:Env)(h:Heap)(m:Str->Option YP)(x:Str)(u:YP):Prop:=
 (env.kindOf x=some .local/\m x=some u) ∨ ((env.kindOf x=some .cell ∨ env.kindOf x=some .free)/\∃ c,env.cells.lookup x=some c/\h.IsCell c (some u))
structure Cx.Ok(X:Cx):Prop where
 mod:Mod X.K X.mg X.base
 kind:X.env.scope.kind=.function
 glob:X.env.globals=J2
 blt:X.env.builtins=builtinsNs
 above:X.s₀.heap.objs.size<=X.env.locals
 inj:∀ x y c,X.env.cells.lookup x=some c->X.env.cells.lookup y=some c->x=y
 has:∀ x,(X.env.kindOf x=some .cell ∨ X.env.kindOf x=some .free)->∃ c,X.env.cells.lookup x=some c
 cab:∀ x c,X.fn x=true->X.env.cells.lookup x=some c->X.s₀.heap.objs.size<=c
 hd:X.calm=true->X.A.handled=none
 frames:X.A.frames=some X.stack
 stk:X.stack=X.outer ∨ (X.stack=X.env::X.outer/\X.env.frame=some X.env.locals)
 exf:∀ b∈X.ex,b≠X.env.locals/\∀ x c,X.env.cells.lookup x=some c->c≠b
 bs:∀ b o,X.base.get? b=some o->X.s₀.heap.get? b=some o/\X.H₀ b=none
 bsz:X.base.objs.size<=X.s₀.heap.objs.size
 noex:∀ b o,X.base.get? b=some o->b∉X.ex
 exfs:∀ b∈X.ex,b∉X.fs
 funs:X.s₀.heap.FunFrames X.base X.outer
 frf:∀ b∈X.fs,X.H₀ b=none
structure Inv(X:Cx)(pins:List (JW × Obj))(σ:List (Option V))(H:Hp)(s:JV):Prop where
 ok:X.Ok
 os:s.os=X.s₀.os
 bare:Uz s.gens
 base:Un X.fs X.ex X.H₀ H X.s₀.heap s.heap
 loc:∃ m,s.heap.Ns X.env.locals m/\∀(i:Nat) (x:Str) (v:V),X.N[i]?=some x->σ[i]?=some (some v)->jQ X.env.scope x->∃ u,RelV v u/\Ij X.env s.heap m x u
 cell:∀ x c,X.env.cells.lookup x=some c->∃ v,s.heap.IsCell c v
 free:H X.env.locals=none
 freeC:∀ x c,X.env.cells.lookup x=some c->H c=none
 pin:∀ p∈X.pn++pins,s.heap.get? p.1=some p.2/\H p.1=none/\p.1≠X.env.locals/\p.1∉X.fs/\∀ v,p.2.data≠.cell v
 hok:cY X.prog X.w H s.heap
 len:σ.length=X.N.length
section
variable {X:Cx}{pins:List (JW × Obj)}{σ:List (Option V)}{H H':Hp}{s:JV}{h':Heap}
theorem Cx.Ok.nofr(ok:X.Ok){b:JW}{o:Obj}(e:X.base.get? b=some o):b∉X.fs:=fun a=>by
 have:=(ok.funs.mem a).1
 rw [e]at this;cases this
theorem Inv.bs(I:Inv X pins σ H s):∀ b o,X.base.get? b=some o->s.heap.get? b=some o/\H b=none:=fun b o e=>
 ⟨I.base.keep b o (I.ok.bs b o e).1 (I.ok.bs b o e).2 (I.ok.nofr e) (I.ok.noex b o e),I.base.free b o (I.ok.bs b o e).1 (I.ok.bs b o e).2 (I.ok.noex b o e)⟩
theorem Inv.bk(I:Inv X pins σ H s):∀ b o,X.base.get? b=some o->s.heap.get? b=some o:=fun b o e=>(I.bs b o e).1
theorem Inv.mod(I:Inv X pins σ H s):Mod X.K X.mg X.base:=I.ok.mod
theorem Inv.kIn(I:Inv X pins σ H s):X.K.In s.heap:=I.ok.mod.kin.keeps I.bk
theorem Inv.lt(I:Inv X pins σ H s):X.env.locals<s.heap.objs.size:=let⟨_,hn,_⟩:=I.loc;hn.lt
theorem Inv.sz(I:Inv X pins σ H s):X.s₀.heap.objs.size<=s.heap.objs.size:=Qv I.ok.above (YE I.lt)
theorem Inv.nofs(I:Inv X pins σ H s){a:JW}(h:s.heap.objs.size<=a):a∉X.fs:=fun c=>by
 obtain⟨_,o,b,_⟩:=I.ok.funs.mem c;exact absurd (QD (Qo b) (Qv I.sz h)) (Y1 _)
theorem Inv.cne(I:Inv X pins σ H s):∀ x c,X.env.cells.lookup x=some c->c≠X.env.locals:=fun x c e z=>by
 obtain⟨v,o,d,hd⟩:=I.cell x c e;obtain⟨m,⟨f,g,h,a,b,_⟩,_⟩:=I.loc;rw [z,a]at d;cases d;rw [b]at hd;cases hd
theorem Inv.funs(I:Inv X pins σ H s):s.heap.FunFrames X.base X.outer:=by
 have all:∀(l:List Env),(∀ b∈dN l,b∈X.fs)->X.s₀.heap.FunFrames X.base l->s.heap.FunFrames X.base l:=by
  intro l
  induction l with
  | nil=>intro _ _;trivial
  | cons n r g=>
   intro f k;obtain⟨m,⟨L,o,a,j,i,hd⟩,h⟩:=k;have d:L∈X.fs:=f L (by unfold dN;rw [Jb,a];exact Qd);obtain⟨p,e⟩:=I.base.slot L o i (I.ok.frf L d) d fun z=>I.ok.exfs L z d
   exact⟨m,⟨L,_,a,j,e,hd⟩,g (fun b c=>f b (by unfold dN;rw [Jb,a];exact Qg _ c)) h⟩
 exact all X.outer (fun _ c=>c) I.ok.funs
theorem Inv.stack(I:Inv X pins σ H s):s.heap.FunFrames X.base X.stack:=by
 rcases I.ok.stk with e | ⟨e,b⟩
 ·rw [e];exact I.funs
 ·rw [e];obtain⟨m,a,_⟩:=I.loc;refine .cons (by rw [I.ok.kind];decide) b a ?_ I.funs;exact UF (Qv I.ok.bsz I.ok.above)
theorem Inv.stkSub(I:Inv X pins σ H s):∀ b∈dN X.stack,b∈X.env.locals::X.fs:=fun b a=>by
 rcases I.ok.stk with e | ⟨e,c⟩
 ·rw [e]at a;exact Qg _ a
 ·rw [e]at a;unfold dN at a;rw [Jb,c]at a;exact a
theorem Inv.stkFree(I:Inv X pins σ H s):∀ b∈dN X.stack,H b=none:=fun b a=>by
 rcases Qi.mp (I.stkSub b a)with e | a
 ·rw [e];exact I.free
 ·obtain⟨_,o,c,_⟩:=I.ok.funs.mem a;exact I.base.free b o c (I.ok.frf b a) fun z=>I.ok.exfs b z a
theorem Inv.step{g':Array UY}{t':Nat}{d':Drawn}{ch:List JW}(I:Inv X pins σ H s)
  (g:∀ b∈ch,(b∈X.ex ∨ X.s₀.heap.objs.size<=b)/\b≠X.env.locals/\(∀ x c,X.env.cells.lookup x=some c->c≠b)/\∀ p∈X.pn++pins,p.1≠b)
  (keep:∀ b o,b≠X.env.locals->b∉X.fs->b∉ch->s.heap.get? b=some o->H b=none->h'.get? b=some o)
  (slot:∀ b o,b≠X.env.locals->b∈X.fs->b∉ch->s.heap.get? b=some o->H b=none->∃ sl,h'.get? b=some { o with slots:=sl }) (free:∀ b o,b∉ch->s.heap.get? b=some o->H b=none->H' b=none)
  (y:∀ b o,b∉ch->s.heap.get? b=some o->∃ o',h'.get? b=some o')
  (E:∀ b xs,H b=some (.tup xs)->H' b=some (.tup xs)) (J:∀ b o u,H b=some (.frz o u)->H' b=some (.frz o u)) (F:∀ b ps,H b=some (.tbl ps)->∃ more,H' b=some (.tbl (ps++more)))
  (ns:∀ m,s.heap.Ns X.env.locals m->h'.Ns X.env.locals m) (N:cY X.prog X.w H' h') (hg:Uz g'):
  Inv X pins σ H' { s with heap:=h',gens:=g',drawn:=d',toks:=t' }:=by
 have G:∀ b o,X.s₀.heap.get? b=some o->b≠X.env.locals:=fun b o e=>Qw (QD (Qo e) I.ok.above)
 have j:∀ b o,X.s₀.heap.get? b=some o->b∉X.ex->b∉ch:=fun b o e a A=>by
  rcases(g b A).1 with z | z
  ·exact a z
  ·exact absurd (QD (Qo e) z) (Y1 _)
 have h:∀ x c,X.env.cells.lookup x=some c->∀ v,s.heap.IsCell c v->h'.IsCell c v:=fun x c e v U=>by
  obtain⟨o,B,hd⟩:=U;have f:c∉ch:=fun z=>(g c z).2.2.1 x c e rfl;by_cases T:c∈X.fs
  ·obtain⟨sl,q⟩:=slot c o (I.cne x c e) T f B (I.freeC x c e)
   exact⟨_,q,hd⟩
  ·exact⟨o,keep c o (I.cne x c e) T f B (I.freeC x c e),hd⟩
 refine⟨I.ok,I.os,hg,⟨fun b o e n A a=>?_,fun b o e n A a=>?_,fun b o e n a=>?_,fun b o e a=>?_,fun b xs e=>E b xs (I.base.tups b xs e),fun b o xs e=>J b o xs (I.base.frzs b o xs e),fun b ps e=>?_⟩,?_,fun x c e=>?_,?_,fun x c e=>?_,fun p S=>?_,N,I.len⟩
 ·exact keep b o (G b o e) A (j b o e a) (I.base.keep b o e n A a) (I.base.free b o e n a)
 ·obtain⟨sl,t⟩:=I.base.slot b o e n A a;obtain⟨M,K⟩:=slot b _ (G b o e) A (j b o e a) t (I.base.free b o e n a)
  exact⟨M,K⟩
 ·obtain⟨o',t⟩:=I.base.there b o e a;exact free b o' (j b o e a) t (I.base.free b o e n a)
 ·obtain⟨o',t⟩:=I.base.there b o e a;exact y b o' (j b o e a) t
 ·obtain⟨Y,t⟩:=I.base.tbls b ps e;obtain⟨W,K⟩:=F b _ t
  exact⟨Y++W,by rw [K,Array.append_assoc]⟩
 ·obtain⟨m,Z,hl⟩:=I.loc
  refine⟨m,ns m Z,fun i x v t K e3=>?_⟩
  obtain⟨u,r,l⟩:=hl i x v t K e3
  refine⟨u,r,?_⟩
  rcases l with l | ⟨k,c,e,z⟩
  ·exact .inl l
  ·exact .inr ⟨k,c,e,h x c e _ z⟩
 ·obtain⟨v,z⟩:=I.cell x c e
  exact⟨v,h x c e v z⟩
 ·obtain⟨m,⟨o,_,_,B,_⟩,_⟩:=I.loc;exact free _ o (fun z=>(g _ z).2.1 rfl) B I.free
 ·obtain⟨v,o,B,hd⟩:=I.cell x c e;exact free c o (fun z=>(g c z).2.2.1 x c e rfl) B (I.freeC x c e)
 ·obtain⟨e,n,Q,O,d⟩:=I.pin p S;have f:p.1∉ch:=fun z=>(g p.1 z).2.2.2 p S rfl
  exact⟨keep p.1 p.2 Q O f e n,free p.1 p.2 f e n,Q,O,d⟩
theorem Inv.un{t':Nat}(I:Inv X pins σ H s)(u:Un X.fs [] H H' s.heap h')(c:cY X.prog X.w H' h'):Inv X pins σ H' { s with heap:=h',toks:=t' }:=by
 obtain⟨m,⟨o,t,v,h,r⟩,_⟩:=id I.loc;obtain⟨l,k⟩:=u.any h I.free (by simp)
 exact I.step (g':=s.gens) (d':=s.drawn) (ch:=[]) (fun _ z=>nomatch z) (fun b o _ d _ e n=>u.keep b o e n d (by simp)) (fun b o _ d _ e n=>u.slot b o e n d (by simp)) (fun b o _ e n=>u.free b o e n (by simp)) (fun b o _ e=>u.there b o e (by simp)) u.tups u.frzs u.tbls (fun q j=>by
  obtain⟨p,f,g,a,i⟩:=j;rw [h]at a;cases a
  exact⟨_,f,g,k,i⟩) c I.bare
theorem Inv.call{g':Array UY}{t':Nat}{d':Drawn}{ch:List JW}(I:Inv X pins σ H s)(u:Un (dN X.stack) ch H H' s.heap h')(g:cY X.prog X.w H' h')(t:Uz g')
  (f:∀ b∈ch,(b∈X.ex ∨ X.s₀.heap.objs.size<=b)/\b≠X.env.locals/\(∀ x c,X.env.cells.lookup x=some c->c≠b)/\∀ p∈X.pn++pins,p.1≠b):
  Inv X pins σ H' { s with heap:=h',gens:=g',drawn:=d',toks:=t' }:=by
 obtain⟨m,⟨o,E,F,k,r⟩,_⟩:=id I.loc;obtain⟨y,h⟩:=u.any k I.free fun z=>(f _ z).2.1 rfl
 exact I.step (ch:=ch) f (fun b o h v a e n=>u.keep b o e n (fun z=>(Qi.mp (I.stkSub b z)).elim h v) a) (fun b o _ _ a e n=>u.any e n a) (fun b o a e n=>u.free b o e n a) (fun b o a e=>u.there b o e a) u.tups u.frzs u.tbls (fun B q=>by
  obtain⟨A,i,j,d,l⟩:=q;rw [k]at d;cases d
  exact⟨_,i,j,h,l⟩) g t
theorem Inv.turned{t':Nat}{it:JW}(I:Inv X pins σ H s)(k:∀ b o,b≠it->s.heap.get? b=some o->h'.get? b=some o)(h:H it=none)(f:it≠X.env.locals)
  (w:it∈X.ex ∨ X.s₀.heap.objs.size<=it) (t:∀ x c,X.env.cells.lookup x=some c->c≠it) (l:∀ p∈X.pn++pins,p.1≠it):Inv X pins σ H { s with heap:=h',toks:=t' }:=by
 have d:∀ b u,H b=some u->b≠it:=fun b u e z=>by rw [z,h]at e;cases e
 refine I.step (g':=s.gens) (d':=s.drawn) (ch:=[it]) (fun b j=>?_) (fun b o _ _ a e _=>k b o (fun z=>a (by simp [z])) e) (fun b o _ _ a e _=>⟨o.slots,k b o (fun z=>a (by simp [z])) e⟩) (fun _ _ _ _ n=>n)
  (fun b o a e=>⟨o,k b o (fun z=>a (by simp [z])) e⟩) (fun _ _ e=>e) (fun _ _ _ e=>e) (fun b B e=>⟨#[],by rw [e];simp⟩) (fun m i=>?_) (fun b u e=>?_) I.bare
 ·have e:b=it:=by simpa using j
  subst e
  exact⟨w,f,t,l⟩
 ·obtain⟨o,y,A,g,r⟩:=i
  exact⟨o,y,A,k _ o (Zx f) g,r⟩
 ·refine(I.hok b u e).stay (fun c v a q=>k c v ?_ q) (fun _ q=>q) fun _ _ q=>q
  rcases a with z | z
  ·rw [z];exact d b u e
  ·exact d c _ z
theorem Inv.tok(I:Inv X pins σ H s)(t:Nat):Inv X pins σ H { s with toks:=t }:=I.un (h':=s.heap) (t':=t) Un.refl I.hok
theorem Inv.kept{t':Nat}(I:Inv X pins σ H s)(k:∀ b u,s.heap.get? b=some u->h'.get? b=some u):Inv X pins σ H { s with heap:=h',toks:=t' }:=I.un (Un.kept k) (I.hok.kept k)
theorem Inv.laid{a:JW}{o:HO}{t':Nat}(I:Inv X pins σ H s)(k:∀ b u,s.heap.get? b=some u->h'.get? b=some u)(d:s.heap.objs.size<=a)(c:gF X.prog X.w (aP H a o) h' a o):
  Inv X pins σ (aP H a o) { s with heap:=h',toks:=t' }:=I.un (Un.laid k d (I.hok.fresh d)) (I.hok.laid k d c)
theorem Inv.write{x e:JW}{o:HO}{t':Nat}(I:Inv X pins σ H s)(d:tJ (H x))(he:e=x ∨ H e=some (.own x))(k:∀ b u,b≠e->s.heap.get? b=some u->h'.get? b=some u)(a:∃ u,h'.get? e=some u)
  (c:gF X.prog X.w (aP H x o) h' x o):Inv X pins σ (aP H x o) { s with heap:=h',toks:=t' }:=I.un (Un.write d he k a) (I.hok.write d he k a c)
theorem Inv.pins_of{a:List (JW × Obj)}(I:Inv X pins σ H s)(h:∀ p∈a,s.heap.get? p.1=some p.2/\H p.1=none/\p.1≠X.env.locals/\p.1∉X.fs/\∀ v,p.2.data≠.cell v):Inv X a σ H s:=
 ⟨I.ok,I.os,I.bare,I.base,I.loc,I.cell,I.free,I.freeC,fun p b=>(Qx.mp b).elim (fun z=>I.pin p (QG _ z)) (h p),I.hok,I.len⟩
theorem G7{N:List Str}(c:N.Nodup){i j:Nat}{x:Str}(a:N[i]?=some x)(b:N[j]?=some x):i=j:=by
 obtain⟨g,e⟩:=Qe.mp a;obtain⟨f,d⟩:=Qe.mp b
 exact(List.getElem_inj c).mp (e.trans d.symm)
theorem GC{M:Model}{A:Around}{E:YP->JV->Prop}{i:Nat}{x:Str}{v:V}{u:YP}{Q:Unit->JV->Prop}(I:Inv X pins σ H s)(hN:X.N.Nodup)(Y:X.N[i]?=some x)(B:Loc X.env.scope x)(r:RelV v u)
  (h:∀ s',Inv X pins (σ.set i (some v)) H s'->(∃ a,Ze a s.heap s'.heap/\(a=X.env.locals ∨ X.env.cells.lookup x=some a))->Q () s') (hf:X.fn x=true ∨ X.env.scope.names.lookup x=some .local:=by first | exact .inl rfl | exact .inr rfl | assumption):JY M A (storeName X.env x u) Q E s:=by
 obtain⟨m,hn,hl⟩:=id I.loc
 have Z:(X.env.scope.kind == .class || (X.env.scope.kind == .module && X.env.locals != X.env.globals))=false:=by rw [I.ok.kind];rfl
 have K:i<σ.length:=by rw [I.len];exact(Qe.mp Y).1
 have cne:=I.cne
 have g:∀{a:JW}{h':Heap},(∃ o,s.heap.get? a=some o/\H a=none)->Ze a s.heap h'->cY X.prog X.w H h':=fun{a h'} ha f b ob e=>by
  obtain⟨_,_,F⟩:=ha
  refine(I.hok b ob e).stay (fun c w' t q=>(f.2 c ?_).trans q) (fun _ q=>q) fun _ _ q=>q
  rintro rfl;rcases t with rfl | t
  ·rw [F]at e;cases e
  ·rw [F]at t;cases t
 rcases B with J | J
 ·refine wpAny_storeName_local J hn (fun h' a3 f=>?_) Z;obtain⟨oL,_,_,a2,_⟩:=id hn;refine h _ ⟨I.ok,I.os,I.bare,⟨fun b o e n T B=>?_,fun b o e n T B=>?_,I.base.free,fun b o e B=>?_,I.base.tups,I.base.frzs,I.base.tbls⟩,⟨_,a3,fun j y v' l G e3=>?_⟩,fun y c e=>?_,I.free,I.freeC,fun p hp=>?_,g ⟨oL,a2,I.free⟩ f,by simpa using I.len⟩ ⟨_,f,.inl rfl⟩
  ·exact(f.2 b (Qw (QD (Qo e) I.ok.above))).trans (I.base.keep b o e n T B)
  ·obtain⟨sl,l⟩:=I.base.slot b o e n T B
   exact⟨sl,(f.2 b (Qw (QD (Qo e) I.ok.above))).trans l⟩
  ·obtain⟨o',l⟩:=I.base.there b o e B
   exact⟨o',(f.2 b (Qw (QD (Qo e) I.ok.above))).trans l⟩
  ·by_cases O:j=i
   ·subst O;rw [Y]at l;cases l;rw [QC K]at G;cases G
    exact⟨u,r,.inl ⟨J,by simp⟩⟩
   ·rw [Qz (Zx O)]at G;obtain⟨u',r',q⟩:=hl j y v' l G e3
    refine⟨u',r',?_⟩
    rcases q with⟨k,e⟩ | ⟨k,c,e,z⟩
    ·refine .inl ⟨k,?_⟩
     have:y≠x:=fun e=>O (G7 hN l (e ▸ Y))
     simp [this,e]
    ·exact .inr ⟨k,c,e,z.sameBut f (cne y c e)⟩
  ·obtain⟨w',z⟩:=I.cell y c e
   exact⟨w',z.sameBut f (cne y c e)⟩
  ·obtain⟨e,n,ne,nf,d⟩:=I.pin p hp
   exact⟨(f.2 p.1 ne).trans e,n,ne,nf,d⟩
 ·have S:X.fn x=true:=by
   rcases hf with z | z
   ·exact z
   ·rw [z]at J;cases J
  obtain⟨c,t⟩:=I.ok.has x (.inl J);obtain⟨w',z⟩:=I.cell x c t;refine wpAny_storeName_cell I.ok.kind J t z (fun h' a1 f=>?_);obtain⟨oc,W,U⟩:=id z;refine h { s with heap:=h' } ⟨I.ok,I.os,I.bare,⟨fun b o e n T B=>?_,fun b o e n T B=>?_,I.base.free,fun b o e B=>?_,I.base.tups,I.base.frzs,I.base.tbls⟩,⟨m,hn.sameBut f (Zx (cne x c t)),fun j y v' l G e3=>?_⟩,fun y c' e=>?_,I.free,I.freeC,fun p hp=>?_,g ⟨oc,W,I.freeC x c t⟩ f,by simpa using I.len⟩ ⟨c,f,.inr t⟩
  ·exact(f.2 b (Qw (QD (Qo e) (I.ok.cab x c S t)))).trans (I.base.keep b o e n T B)
  ·obtain⟨sl,l⟩:=I.base.slot b o e n T B
   exact⟨sl,(f.2 b (Qw (QD (Qo e) (I.ok.cab x c S t)))).trans l⟩
  ·obtain⟨o',l⟩:=I.base.there b o e B
   exact⟨o',(f.2 b (Qw (QD (Qo e) (I.ok.cab x c S t)))).trans l⟩
  ·by_cases O:j=i
   ·subst O;rw [Y]at l;cases l;rw [QC K]at G;cases G
    exact⟨u,r,.inr ⟨.inl J,c,t,a1⟩⟩
   ·rw [Qz (Zx O)]at G;obtain⟨u',r',q⟩:=hl j y v' l G e3
    refine⟨u',r',?_⟩
    rcases q with q | ⟨k,c',e,z'⟩
    ·exact .inl q
    ·refine .inr ⟨k,c',e,z'.sameBut f ?_⟩;rintro rfl;exact O (G7 hN l (I.ok.inj _ _ _ e t ▸ Y))
  ·by_cases a0:c'=c
   ·subst a0;exact⟨_,a1⟩
   ·obtain⟨w2,z2⟩:=I.cell y c' e
    exact⟨w2,z2.sameBut f a0⟩
  ·obtain⟨e,n,ne,nf,d⟩:=I.pin p hp
   refine⟨(f.2 p.1 ?_).trans e,n,ne,nf,d⟩
   intro q;rw [q,W]at e;have q':oc=p.2:=QJ e;exact d w' (by rw [<- q'];exact U)
theorem GB{M:Model}{A:Around}{E:YP->JV->Prop}{i:Nat}{x:Str}{v:V}{u:YP}{Q:Unit->JV->Prop}(I:Inv X pins σ H s)(d:X.N.Nodup)(b:X.N[i]?=some x)(a:Loc X.env.scope x)(r:RelV v u)
  (h:∀ s',Inv X pins (σ.set i (some v)) H s'->Q () s') (c:X.fn x=true ∨ X.env.scope.names.lookup x=some .local:=by first | exact .inl rfl | exact .inr rfl | assumption):JY M A (storeName X.env x u) Q E s:=
 GC I d b a r (fun s' e _=>h s' e) c
theorem Inv.call'{s':JV}{ch:List JW}(I:Inv X pins σ H s)(g:s'.os=s.os)(u:Un (dN X.stack) ch H H' s.heap s'.heap)(a:cY X.prog X.w H' s'.heap)(h:Uz s'.gens)
  (d:∀ b∈ch,(b∈X.ex ∨ X.s₀.heap.objs.size<=b)/\b≠X.env.locals/\(∀ x c,X.env.cells.lookup x=some c->c≠b)/\∀ p∈X.pn++pins,p.1≠b):Inv X pins σ H' s':=by
 obtain⟨i,g',d',t',f⟩:=s';have e:f=s.os:=g;subst e;exact I.call (g':=g') (t':=t') (d':=d') u a h d
end
abbrev XK:=YP->Option JW->Hp->Prop
abbrev St:=List (Option V)
abbrev VK:=V->Hp->Prop
abbrev TE:=St->Hp->VK->Prop
abbrev TT:=St->Hp->(Bool->Hp->Prop)->Prop
abbrev TA:=St->Hp->(List V->Hp->Prop)->Prop
structure jL where
 nx:St->Hp->Prop
 rt:VK
 bk:St->Hp->Prop:=fun _ _=>False
 ct:St->Hp->Prop:=fun _ _=>False
abbrev TS:=jL->St->Hp->Prop
def EP(X:Cx)(pins:List (JW × Obj))(a:St)(Q:VK)(u:YP)(b:JV):Prop:=∃ v H',Inv X pins a H' b/\RelV v u/\Q v H'
def TP(X:Cx)(pins:List (JW × Obj))(a:St)(Q:Bool->Hp->Prop)(b:Bool)(c:JV):Prop:=∃ H',Inv X pins a H' c/\Q b H'
def AP(X:Cx)(pins:List (JW × Obj))(a:St)(Q:List V->Hp->Prop)(us:List YP)(b:JV):Prop:=∃ vs H',Inv X pins a H' b/\Vals vs us/\Q vs H'
def SP(X:Cx)(pins:List (JW × Obj))(D:jL)(f:Flow)(a:JV):Prop:=
 match f with
 | .next=>∃ σ' H',Inv X pins σ' H' a/\D.nx σ' H'
 | .brk=>∃ σ' H',Inv X pins σ' H' a/\D.bk σ' H'
 | .cont=>∃ σ' H',Inv X pins σ' H' a/\D.ct σ' H'
 | .ret u=>∃ v σ' H',Inv X pins σ' H' a/\RelV v u/\D.rt v H'
def PE(X:Cx)(e:Expr)(t:TE):Prop:=
 ∀(pins:List (JW × Obj)) (s:JV) (σ:St) (H:Hp) (Q:VK),Inv X pins σ H s->t σ H Q->JY (J0 X.prog X.w) X.A (Zk e X.env) (EP X pins σ Q) X.xe s
def PT(X:Cx)(e:Expr)(t:TT):Prop:=
 ∀(pins:List (JW × Obj)) (s:JV) (σ:St) (H:Hp) (Q:Bool->Hp->Prop),Inv X pins σ H s->t σ H Q->JY (J0 X.prog X.w) X.A (isTrue e X.env (Zk e X.env)) (TP X pins σ Q) X.xe s
def PW(X:Cx)(e:Expr)(t:TT):Prop:=
 ∀(whole:Sem YP) (pins:List (JW × Obj)) (s:JV) (σ:St) (H:Hp) (Q:Bool->Hp->Prop),Inv X pins σ H s->t σ H Q->JY (J0 X.prog X.w) X.A (isTrue e X.env whole) (TP X pins σ Q) X.xe s
theorem PW.pt{X:Cx}{e:Expr}{t:TT}(h:PW X e t):PT X e t:=h _
def PA(X:Cx)(es:List Expr)(t:TA):Prop:=
 ∀(pos:Pos) (pins:List (JW × Obj)) (s:JV) (σ:St) (H:Hp) (Q:List V->Hp->Prop),Inv X pins σ H s->t σ H Q->JY (J0 X.prog X.w) X.A (spliced (Zi pos (JX es X.env))) (AP X pins σ Q) X.xe s
def PS(X:Cx)(a:Zj)(t:TS):Prop:=
 ∀(pins:List (JW × Obj)) (s:JV) (σ:St) (H:Hp) (D:jL),Inv X pins σ H s->t D σ H->JY (J0 X.prog X.w) X.A (exec a X.env) (SP X pins D) X.xe s
def fU(X:Cx)(a:List Zj)(t:TS):Prop:=
 ∀(pins:List (JW × Obj)) (s:JV) (σ:St) (H:Hp) (D:jL),Inv X pins σ H s->t D σ H->JY (J0 X.prog X.w) X.A (execs a X.env) (SP X pins D) X.xe s
theorem bA{b:Type}{t:Sem b}{Q c:b->JV->Prop}{M:Model}{A:Around}{E:YP->JV->Prop}{s:JV}(h:JY M A t Q E s)(d:∀ a s,Q a s->c a s):JY M A t c E s:=YZ h d fun _ _ x=>x
section
variable {X:Cx}
def Mf(i:Nat):TE:=fun a H Q=>∃ v,a[i]?=some (some v)/\Q v H
def tC(v:V):TE:=fun _ H Q=>Q v H
theorem nJ{i:Nat}{x:Str}{pos:Pos}(q:X.N[i]?=some x)(k:jQ X.env.scope x)(hd:(x == ("__debug__":Str))=false:=by decide)(f:(x == ("__classdict__":Str))=false:=by decide):PE X (.Name x pos) (Mf i):=by
 intro d s j H Q I h;obtain⟨v,e,h⟩:=h;obtain⟨m,n,p⟩:=I.loc;obtain⟨u,r,l⟩:=p i x v q e k;have fin:EP X d j Q u s:=⟨v,H,I,r,h⟩;rcases l with⟨b,o⟩ | ⟨b,c,g,a⟩
 ·exact wpAny_Name (wpAny_loadName_local I.ok.kind b n o fin) hd
 ·rcases b with b | b
  ·exact wpAny_Name (wpAny_loadName_cell I.ok.kind b g a fin) hd
  ·exact wpAny_Name (wpAny_loadName_free I.ok.kind b g a fin f) hd
theorem Sc{i j pos}:PE X (.Constant (.int i) j pos) (tC (.int i)):=fun _ _ _ H _ I h=>wpAny_Constant_int ⟨.int i,H,I.tok _,⟨_,rfl⟩,h⟩
theorem K6{b j pos}:PE X (.Constant (.bool b) j pos) (tC (.bl b)):=fun _ _ _ H _ I h=>Constant_bool ⟨.bl b,H,I,rfl,h⟩
theorem Sf{j pos}:PE X (.Constant .none j pos) (tC .non):=fun _ _ _ H _ I h=>Constant_none ⟨.non,H,I,rfl,h⟩
theorem Hr{x j pos}:PE X (.Constant (.str x) j pos) (tC (.str x)):=fun _ _ _ H _ I h=>Calls.Constant_str ⟨.str x,H,I.tok _,⟨_,rfl⟩,h⟩
def Gl(X:Cx)(x:Str):Prop:=X.env.kindOf x=some .globalImplicit
theorem pO{E:YP->JV->Prop}{pins:List (JW × Obj)}{s:JV}{a:St}{H:Hp}{x:Str}{u:YP}{pos:Pos}{Q:YP->JV->Prop}(I:Inv X pins a H s)(c:Gl X x)(b:X.mg x=some u)(h:Q u s)
  (hd:(x == ("__debug__":Str))=false:=by decide):JY (J0 X.prog X.w) X.A (Zk (.Name x pos) X.env) Q E s:=
 Calls.Name_function_global I.ok.kind c (Calls.loadGlobal_global (by rw [I.ok.glob];exact I.mod.glob.keeps I.bk) b h) hd
theorem kS{E:YP->JV->Prop}{pins:List (JW × Obj)}{s:JV}{a:St}{H:Hp}{x:Str}{u:YP}{pos:Pos}{Q:YP->JV->Prop}(I:Inv X pins a H s)(e:Gl X x)(d:X.mg x=none)(b:Zb x=some u)(h:Q u s)
  (c:x≠"__name__":=by decide) (hd:(x == ("__debug__":Str))=false:=by decide):JY (J0 X.prog X.w) X.A (Zk (.Name x pos) X.env) Q E s:=by
 obtain⟨i,g,f⟩:=I.mod.blt;exact Calls.Name_function_global I.ok.kind e (Calls.loadGlobal_builtin (by rw [I.ok.glob];exact I.mod.glob.keeps I.bk) d (by rw [I.ok.blt];exact g.keeps I.bk) ((f x c).trans b) h) hd
theorem Ho{x:Str}{v:V}{u:YP}{pos:Pos}(b:Gl X x)(a:X.mg x=some u)(r:RelV v u)(hd:(x == ("__debug__":Str))=false:=by decide):PE X (.Name x pos) (tC v):=
 fun _ _ _ H _ I h=>pO I b a ⟨v,H,I,r,h⟩ hd
theorem RV{x:Str}{v:V}{u:YP}{pos:Pos}(d:Gl X x)(c:X.mg x=none)(a:Zb x=some u)(r:RelV v u)(b:x≠"__name__":=by decide)(hd:(x == ("__debug__":Str))=false:=by decide):PE X (.Name x pos) (tC v):=
 fun _ _ _ H _ I h=>kS I d c a ⟨v,H,I,r,h⟩ b hd
variable {a b:Expr}{ta tb:TE}{pos:Pos}
def tB(t:TE):TT:=fun a H Q=>t a H fun x b=>∃ c,x=.bl c/\Q c b
theorem RF{e:Expr}{t:TE}(h:PE X e t)(he:∀ whole,isTrue e X.env whole=(do let v <- whole;standAt e.pos;holding [v] (truthy v)):=by intro _;rfl):PT X e (tB t):=by
 intro a s b H Q I g;refine isTrue_plain (bA (h a s b H _ I g) fun v k ⟨x,j,i,c,f⟩=>?_) (he _);obtain⟨d,rfl,q⟩:=f;cases c;exact Y4 ⟨j,i,q⟩
variable {tA tB':TT}{rest:List Expr}
def LN(t u:TT):TT:=fun a H Q=>t a H fun c b=>if c=true then u a b Q else Q false b
def L6(t u:TT):TT:=fun a H Q=>t a H fun c b=>if c=true then Q true b else u a b Q
def L4(t:TT):TT:=fun a H Q=>t a H fun c b=>Q (!c) b
theorem Rb(f:PT X a tA):PW X (.BoolOp .And [a] pos) tA:=by
 intro g b s d H Q I h;refine isTrue_and (bA (f b s d H Q I h) fun c i e=>?_)
 cases c with
 | true=>exact isTrue_and_nil e
 | false=>exact e
theorem Re(f:PT X a tA):PW X (.BoolOp .Or [a] pos) tA:=by
 intro g b s d H Q I h;refine isTrue_or (bA (f b s d H Q I h) fun c i e=>?_)
 cases c with
 | false=>exact isTrue_or_nil e
 | true=>exact e
theorem Ra(n:PT X a tA)(m:PW X (.BoolOp .And (b::rest) pos) tB'):PW X (.BoolOp .And (a::b::rest) pos) (LN tA tB'):=by
 intro k d s e H Q I h;refine isTrue_and (bA (n d s e H _ I h) fun c l j=>?_);obtain⟨i,g,f⟩:=j
 cases c with
 | true=>exact m k d l e i Q g f
 | false=>exact⟨i,g,f⟩
theorem Lc(n:PT X a tA)(m:PW X (.BoolOp .Or (b::rest) pos) tB'):PW X (.BoolOp .Or (a::b::rest) pos) (L6 tA tB'):=by
 intro k d s e H Q I h;refine isTrue_or (bA (n d s e H _ I h) fun c l j=>?_);obtain⟨i,g,f⟩:=j
 cases c with
 | true=>exact⟨i,g,f⟩
 | false=>exact m k d l e i Q g f
theorem RE(e:PT X a tA):PT X (.UnaryOp .Not a pos) (L4 tA):=by
 intro b s d H Q I h;exact isTrue_not (e b s d H (fun c f=>Q (!c) f) I h)
def LO(d tb:TE):TE:=fun a H Q=>d a H fun x b=>∃ c,x=.bl c/\if c=true then tb a b Q else Q (.bl false) b
def L5(b:TE):TE:=fun a H Q=>b a H fun x d=>∃ c,x=.bl c/\Q (.bl (!c)) d
theorem Si{op}{t:TE}(h:PE X a t):PE X (.BoolOp op [a] pos) t:=fun b s c H Q I d=>BoolOp_one (h b s c H Q I d)
theorem RU(n:PE X a ta)(m:PE X (.BoolOp .And (b::rest) pos) tb):PE X (.BoolOp .And (a::b::rest) pos) (LO ta tb):=by
 intro d s f H Q I h;refine BoolOp_and (bA (n d s f H _ I h) fun v k j=>?_);obtain⟨x,i,g,l,e⟩:=j;obtain⟨c,rfl,e⟩:=e;cases l;refine Y4 ?_
 cases c with
 | true=>exact m d k f i Q g e
 | false=>exact⟨.bl false,i,g,rfl,e⟩
theorem Sg(i:PE X a ta):PE X (.UnaryOp .Not a pos) (L5 ta):=by
 intro b s e H Q I h;refine UnaryOp_ (bA (i b s e H _ I h) fun v l f=>?_);obtain⟨x,k,j,g,d⟩:=f;obtain⟨c,rfl,d⟩:=d;cases g;exact not_of (Y4 ⟨.bl (!c),k,j,rfl,d⟩)
def LX(t:TT)(d tb:TE):TE:=fun a H Q=>t a H fun c b=>if c=true then d a b Q else tb a b Q
theorem R8{c:Expr}(m:PT X c tA)(o:PE X a ta)(n:PE X b tb):PE X (.IfExp c a b pos) (LX tA ta tb):=by
 intro e s f H Q I h;refine wpAny_IfExp (bA (m e s f H _ I h) fun d g l=>?_);obtain⟨k,j,i⟩:=l
 cases d with
 | true=>exact o e g f k Q j i
 | false=>exact n e g f k Q j i
end
def cN(K:PySem.W.Frag)(H:Hp)(a:JW)(xs:List V):Prop:=
 Rd H a (.lst xs) ∨
  ∃(o:Obj) (its:Array YP) (n:Nat),K.lookup a=some o/\o.cls=.type "list"/\o.dict=none/\o.data=.seq its n/\its.size<=sizeLine/\Vals xs its.toList
def bQ(K:PySem.W.Frag)(H:Hp)(a:JW)(xs:List V):Prop:=
 Rd H a (.tup xs) ∨
  ∃(o:Obj) (its:Array YP) (n:Nat),K.lookup a=some o/\o.cls=.type "tuple"/\o.data=.seq its n/\its.size<=sizeLine/\Vals xs its.toList
def Iq:YP->Option V
 | .none=>some .non
 | .bool b=>some (.bl b)
 | .int i _=>some (.int i)
 | .str x _=>some (.str x)
 | .bytes b _=>some (.byt b)
 | .float b _=>some (.flt b)
 | .ref a=>some (.ref a)
 | .type n=>some (.ty n)
 | _=>none
theorem RelV.abs{x:V}{u:YP}(r:RelV x u):Iq u=some x:=by
 cases x with
 | non=>cases r;rfl
 | bl _=>cases r;rfl
 | int _=>obtain⟨t,rfl⟩:=r;rfl
 | str _=>obtain⟨t,rfl⟩:=r;rfl
 | byt _=>obtain⟨t,rfl⟩:=r;rfl
 | flt _=>obtain⟨t,rfl⟩:=r;rfl
 | ref _=>cases r;rfl
 | ty _=>cases r;rfl
theorem RelV.inj{x y:V}{u:YP}(r:RelV x u)(q:RelV y u):x=y:=QJ (r.abs.symm.trans q.abs)
theorem Vals.inj{xs ys:List V}{us:List YP}(h:Vals xs us)(h':Vals ys us):xs=ys:=by
 induction h generalizing ys with
 | nil=>cases h';rfl
 | cons r t c=>
  cases h' with
  | cons b a=>rw [r.inj b,c a]
section
variable {X:Cx}{pins:List (JW × Obj)}{σ:St}{H:Hp}{s:JV}{a:JW}{xs ys:List V}
theorem cN.of{K:PySem.W.Frag}(h:H a=some (.lst xs)):cN K H a xs:=.inl (.inl h)
theorem Inv.list(I:Inv X pins σ H s)(h:cN X.K H a xs):∃ its:List YP,Vals xs its/\PlainL s.heap a its.toArray/\xs.length<=sizeLine:=by
 rcases h with h | ⟨o,its,n,c,d,hd,b,f,r⟩
 ·obtain⟨z,its,n,r,e⟩:=h.ok I.hok
  exact⟨its,r,⟨_,n,e,rfl,rfl,rfl⟩,z⟩
 ·refine⟨its.toList,r,⟨o,n,I.kIn a o c,d,hd,by simpa using b⟩,?_⟩
  have e:=r.length;simp only [Qs]at e;lia
theorem Inv.tuple(I:Inv X pins σ H s)(h:bQ X.K H a xs):∃ its:List YP,Vals xs its/\IsTup s.heap a its.toArray/\xs.length<=sizeLine:=by
 rcases h with h | ⟨o,its,n,c,d,b,f,r⟩
 ·obtain⟨z,its,r,p⟩:=h.ok I.hok
  exact⟨its,r,p,z⟩
 ·refine⟨its.toList,r,⟨o,I.kIn a o c,d,n,by simpa using b⟩,?_⟩
  have e:=r.length;simp only [Qs]at e;lia
theorem Inv.list_inj(I:Inv X pins σ H s)(h:cN X.K H a xs)(h':cN X.K H a ys):xs=ys:=by
 obtain⟨b,r,⟨o,n,e,_,_,d⟩,_⟩:=I.list h;obtain⟨its',g,⟨i,j,c,_,_,f⟩,_⟩:=I.list h';rw [e]at c;cases c;rw [d]at f
 injection f with d1 _
 have:b=its':=by simpa using congrArg Array.toList d1
 subst this;exact r.inj g
theorem Inv.tuple_inj(I:Inv X pins σ H s)(h:bQ X.K H a xs)(h':bQ X.K H a ys):xs=ys:=by
 obtain⟨b,r,⟨o,e,_,n,d⟩,_⟩:=I.tuple h;obtain⟨its',g,⟨i,c,_,j,f⟩,_⟩:=I.tuple h';rw [e]at c;cases c;rw [d]at f
 injection f with d1 _
 have:b=its':=by simpa using congrArg Array.toList d1
 subst this;exact r.inj g
end
abbrev Cx.wish(X:Cx)(E:YP->JV->Prop):Cx:={ X with xe:=E }
abbrev Cx.nox(X:Cx):Cx:=X.wish fun _ _=>False
theorem Cx.Ok.wish{X:Cx}(ok:X.Ok)(E:YP->JV->Prop):(X.wish E).Ok:=
 ⟨ok.mod,ok.kind,ok.glob,ok.blt,ok.above,ok.inj,ok.has,ok.cab,ok.hd,ok.frames,ok.stk,ok.exf,ok.bs,ok.bsz,ok.noex,ok.exfs,ok.funs,ok.frf⟩
theorem Cx.Ok.unwish{X:Cx}{E:YP->JV->Prop}(ok:(X.wish E).Ok):X.Ok:=
 ⟨ok.mod,ok.kind,ok.glob,ok.blt,ok.above,ok.inj,ok.has,ok.cab,ok.hd,ok.frames,ok.stk,ok.exf,ok.bs,ok.bsz,ok.noex,ok.exfs,ok.funs,ok.frf⟩
section
variable {X:Cx}{pins:List (JW × Obj)}{σ:St}{H:Hp}{s:JV}{E:YP->JV->Prop}
theorem Inv.wish(I:Inv X pins σ H s)(E:YP->JV->Prop):Inv (X.wish E) pins σ H s:=⟨I.ok.wish E,I.os,I.bare,I.base,I.loc,I.cell,I.free,I.freeC,I.pin,I.hok,I.len⟩
theorem Inv.unwish(I:Inv (X.wish E) pins σ H s):Inv X pins σ H s:=⟨I.ok.unwish,I.os,I.bare,I.base,I.loc,I.cell,I.free,I.freeC,I.pin,I.hok,I.len⟩
theorem SP.unwish{D:jL}{f:Flow}{s':JV}(h:SP (X.wish E) pins D f s'):SP X pins D f s':=by
 cases f with
 | next=>obtain⟨a,b,I,q⟩:=h;exact⟨a,b,I.unwish,q⟩
 | brk=>obtain⟨a,b,I,q⟩:=h;exact⟨a,b,I.unwish,q⟩
 | cont=>obtain⟨a,b,I,q⟩:=h;exact⟨a,b,I.unwish,q⟩
 | ret u=>obtain⟨v,a,b,I,r,q⟩:=h;exact⟨v,a,b,I.unwish,r,q⟩
theorem fU.nox{b:List Zj}{t:TS}(h:fU X.nox b t):fU X b t:=fun a s c H D I d=>
 YZ (h a s c H D (I.wish _) d) (fun _ _ q=>q.unwish) fun _ _ z=>Zt z
end
section
variable {X:Cx}{st:Zj}{rest:List Zj}{t u:TS}{e:Expr}{te:TE}{pos:Pos}
def L1:TS:=fun D a H=>D.nx a H
def L9(t u:TS):TS:=fun D a H=>t { D with nx:=u D } a H
theorem RB:fU X [] L1:=fun _ _ a H _ I h=>JR ⟨a,H,I,h⟩
theorem RA(g:PS X st t)(e:fU X rest u):fU X (st::rest) (L9 t u):=by
 intro a s c H D I h;refine wpAny_execs_cons (bA (g a s c H { D with nx:=u D } I h) fun f d q=>?_)
 cases f with
 | next=>
  obtain⟨b,j,i,q⟩:=q;exact e a d b j D i q
 | ret v=>exact q
 | brk=>exact q
 | cont=>exact q
theorem RC(c:PS X st t):fU X [st] t:=by
 intro a s b H D I h;refine wpAny_execs_cons (bA (c a s b H D I h) fun f d q=>?_)
 cases f with
 | next=>exact JR q
 | ret v=>exact q
 | brk=>exact q
 | cont=>exact q
theorem Inv.quiet{pins:List (JW × Obj)}{a:St}{H:Hp}{s:JV}(I:Inv X pins a H s):interactive X.env=false:=by simp [interactive,I.ok.kind]
def LV(te:TE):TS:=fun D a H=>te a H fun _ b=>D.nx a b
theorem wH(he:PE X e te)(hs:ZE e none pos.line X.env=pure false:=by rfl):PS X (.Expr e pos) (LV te):=by
 intro a s b H D I h;exact wpAny_Expr_any (bA (he a s b H _ I h) fun v g ⟨x,f,d,i,c⟩=>⟨b,f,d,c⟩) I.quiet hs
def L8(te:TE):TS:=fun D a H=>te a H D.rt
theorem GH(he:PE X e te):PS X (.Return (some e) pos) (L8 te):=by
 intro a s b H D I h;exact wpAny_Return_some (bA (he a s b H _ I h) fun v i ⟨x,g,f,c,d⟩=>⟨x,b,g,f,c,d⟩)
def LY(c:TT)(t u:TS):TS:=fun D a H=>c a H fun b d=>if b=true then t D a d else u D a d
theorem La{c:Expr}{a b:List Zj}{g:TT}(n:PT X c g)(p:fU X a t)(o:fU X b u):PS X (.If c a b pos) (LY g t u):=by
 intro e s f H D I h;refine wpAny_If (bA (n e s f H _ I h) fun d i m=>?_);obtain⟨l,k,j⟩:=m
 cases d with
 | true=>exact p e i f l D k j
 | false=>exact o e i f l D k j
end
abbrev TG:=V->St->Hp->(St->Hp->Prop)->Prop
abbrev kH:=List V->St->Hp->(St->Hp->Prop)->Prop
def PG(X:Cx)(a:Expr)(t:TG):Prop:=
 ∀(pins:List (JW × Obj)) (s:JV) (σ:St) (H:Hp) (v:V) (u:YP) (Q:St->Hp->Prop),Inv X pins σ H s->RelV v u->t v σ H Q->
  JY (J0 X.prog X.w) X.A (assign a X.env u) (fun _ b=>∃ σ' H',Inv X pins σ' H' b/\Q σ' H') X.xe s
def mM(X:Cx)(ts:List Expr)(t:kH):Prop:=
 ∀(pins:List (JW × Obj)) (s:JV) (σ:St) (H:Hp) (vs:List V) (us:List YP) (Q:St->Hp->Prop),Inv X pins σ H s->Vals vs us->t vs σ H Q->
  JY (J0 X.prog X.w) X.A (assignInOrder ((ZV ts X.env).map (·.2)) us) (fun _ a=>∃ σ' H',Inv X pins σ' H' a/\Q σ' H') X.xe s
section
variable {X:Cx}{pos:Pos}
def u7(i:Nat):TG:=fun v a H Q=>Q (a.set i (some v)) H
theorem So{i:Nat}{x:Str}(e:X.N.Nodup)(c:X.N[i]?=some x)(b:Loc X.env.scope x)(d:X.fn x=true ∨ X.env.scope.names.lookup x=some .local:=by first | exact .inl rfl | exact .inr rfl | assumption):PG X (.Name x pos) (u7 i):=by
 intro a s g H v u Q I r h;exact wpAny_assign_Name (GB I e c b r (fun j f=>⟨_,H,f,h⟩) d)
def IU:kH:=fun b a H Q=>b=[]/\Q a H
def IR(t:TG)(u:kH):kH:=fun c b H Q=>∃ v r,c=v::r/\t v b H fun a d=>u r a d Q
theorem Ro:mM X [] IU:=by
 intro a s b H c d Q I r h;obtain⟨e,h⟩:=h;subst e;cases r;exact assignInOrder_nil ⟨b,H,I,h⟩
theorem Rn{e:Expr}{es:List Expr}{t:TG}{u:kH}(k:PG X e t)(j:mM X es u)
  (hs:(ZV (e::es) X.env).map (·.2)=assign e X.env::(ZV es X.env).map (·.2):=by rfl):mM X (e::es) (IR t u):=by
 intro a s c H o q Q I r h;obtain⟨v,p,l,h⟩:=h;subst l
 cases r with
 | cons r g=>
  rw [hs];refine assignInOrder_cons (bA (k a s c H _ _ _ I r h) fun _ f d=>?_);obtain⟨b,n,m,i⟩:=d;exact j a f b n _ _ Q m g i
def IV(K:PySem.W.Frag)(n:Nat)(t:kH):TG:=fun v b H Q=>∃ a xs,v=.ref a/\bQ K H a xs/\xs.length=n/\t xs b H Q
theorem Sq{es:List Expr}{k:Nat}{t:kH}{n:Nat}(y:X.calm=true)(h:mM X es t)
  (w:(ZV es X.env).length=n:=by rfl) (f:(ZV es X.env).findIdx? (·.1)=none:=by rfl):PG X (.Tuple es k pos) (IV X.K n t):=by
 intro c s g H v u Q I r d;obtain⟨a,j,A,q,x,d⟩:=d;subst A;cases r;obtain⟨l,i,p,E⟩:=I.tuple q;refine assign_Tuple_tuple (I.ok.hd y) p (by simp [w,<- x,i.length]) f fun z m=>?_;have B:Inv X c g H { s with heap:=z }:=I.kept (t':=s.toks) fun b o e=>m b o (Qw (Qo e)) e;exact h c _ g H j _ Q B (by simpa using i) d
def CP(te:TE)(g:TG):TS:=fun D a H=>te a H fun x b=>g x a b D.nx
theorem pW{i:Nat}{x:Str}{e:Expr}{te:TE}{a:Pos}(l:X.N.Nodup)(j:X.N[i]?=some x)(g:Loc X.env.scope x)(he:PE X e te)(hs:ZE e (some (.Name x a)) pos.line X.env=pure false:=by rfl)(k:X.fn x=true ∨ X.env.scope.names.lookup x=some .local:=by first | exact .inl rfl | exact .inr rfl | assumption):
  PS X (.Assign [.Name x a] e pos) (CP te (u7 i)):=by
 intro b s c H D I h;refine wpAny_Assign_Name (bA (he b s c H _ I h) fun v q ⟨y,o,n,d,f⟩=>?_) hs;exact GB n l j g d (fun p m=>⟨_,o,m,f⟩) k
def Ti(c:TT)(tb:TS):TS:=fun D a H=>∃ W:Nat->St->Hp->Prop,(∃ m,W m a H)/\∀ m a H,W m a H->
 c a H fun b d=>if b=true then ∃ N:St->Hp->Prop,(∀ σ' H',N σ' H'->∃ m',m'<m/\W m' σ' H')/\tb { D with nx:=N,ct:=N,bk:=D.nx } a d else D.nx a d
theorem Rz{c:Expr}{g:List Zj}{r:TT}{tb:TS}(t:PassesOwn (J0 X.prog X.w) X.A X.env X.xe)(Q:PT X c r)(S:fU X g tb):PS X (.While c g [] pos) (Ti r tb):=by
 intro d s B H D I h;obtain⟨W,⟨O,G⟩,turn⟩:=h;refine wpAny_While (codeAny_whileLoop (fun n M=>∃ σ' H',Inv X d σ' H' M/\W n σ' H') ?_ O ⟨B,H,I,G⟩);rintro n K ⟨e,z,T,F⟩;refine Jn t (bA (Q d K e z _ T (turn n e z F)) fun b J E=>?_);obtain⟨y,x,k⟩:=E
 cases b with
 | true=>
  obtain⟨N,u,k⟩:=k;rw [if_pos rfl];refine Jn t (bA (S d J e y _ x k) fun f U j=>?_)
  cases f with
  | next=>
   obtain⟨a,i,q,m⟩:=j;obtain⟨o,p,l⟩:=u a i m
   exact⟨o,p,a,i,q,l⟩
  | cont=>
   obtain⟨a,i,q,m⟩:=j;obtain⟨o,p,l⟩:=u a i m
   exact⟨o,p,a,i,q,l⟩
  | brk=>exact j
  | ret v=>exact j
 | false=>
  rw [if_neg QA];exact JR ⟨e,y,x,k⟩
end
structure It where
 go:Nat->Hp->Prop
 yld:Nat->Hp->V->Hp->Prop
 stop:Nat->Hp->Prop
def gR(X:Cx)(pins:List (JW × Obj))(H:Hp)(b:JW):Prop:=
 H b=none/\b≠X.env.locals/\b∉X.fs/\(b∈X.ex ∨ X.s₀.heap.objs.size<=b)/\(∀ x c,X.env.cells.lookup x=some c->c≠b)/\∀ p∈X.pn++pins,p.1≠b
theorem Inv.fpOk{X:Cx}{pins:List (JW × Obj)}{d:St}{H H':Hp}{s:JV}{b:JW}(I:Inv X pins d H s)(a:s.heap.objs.size<=b)(g:H' b=none):gR X pins H' b:=by
 refine⟨g,YF (QD I.lt a),I.nofs a,.inr (Qv I.sz a),fun x c e z=>?_,fun p f z=>?_⟩
 ·obtain⟨v,q⟩:=I.cell x c e;exact absurd (QD q.lt (by rw [z];exact a)) (Y1 _)
 ·exact absurd (QD (Qo (I.pin p f).1) (by rw [z];exact a)) (Y1 _)
structure jP(P:JZ)(w:J1)(K:PySem.W.Frag)(tg:Expr)(J:It)(fp:List JW)(it:JW)(tn:Nat->Heap->Prop):Prop where
 mem:it∈fp
 obj:∀ i h,tn i h->∀ b∈fp,∃ o,h.get? b=some o/\∀ v,o.data≠.cell v
 keep:∀ i h h',tn i h->(∀ b∈fp,∀ o,h.get? b=some o->h'.get? b=some o)->tn i h'
 item:∀(X:Cx),X.prog=P->X.w=w->X.K=K->X.calm=true->∀(i:Nat) (pins:List (JW × Obj)) (s:JV) (σ:St) (H:Hp) (E:YP->JV->Prop),Inv X pins σ H s->(∀ b∈fp,gR X pins H b)->tn i s.heap->J.go i H->
  JY (J0 P w) X.A (Z1 (.ref it)) (fun r s1=>∃ u,r=some u /\
   JY (J0 P w) X.A (letOwnedTupleGo tg (.ref it) u) (fun _ s2=>∃ x H',Inv X pins σ H' s2/\RelV x u/\J.yld i H x H'/\tn (i+1) s2.heap/\∀ b∈fp,H' b=none) E s1) E s
 done:∀(X:Cx),X.prog=P->X.w=w->X.K=K->X.calm=true->∀(i:Nat) (pins:List (JW × Obj)) (s:JV) (σ:St) (H:Hp) (E:YP->JV->Prop),Inv X pins σ H s->(∀ b∈fp,gR X pins H b)->tn i s.heap->J.stop i H->
  JY (J0 P w) X.A (Z1 (.ref it)) (fun r s1=>r=none/\Inv X pins σ H s1) E s
 self:∀(A:Around) (i:Nat) (s:JV) (Q:YP->JV->Prop) (E:YP->JV->Prop),tn i s.heap->Q (.ref it) s->JY (J0 P w) A (pyIter (.ref it)) Q E s
abbrev TI:=St->Hp->(It->Hp->Prop)->Prop
def Ce(X:Cx)(pins:List (JW × Obj))(d:St)(e:Expr)(R:It->Hp->Prop)(a:YP)(c:JV):Prop:=
 ∃(it:JW) (fp:List JW) (tn:Nat->Heap->Prop) (J:It) (H':Hp),a=.ref it/\Inv X pins d H' c/\jP X.prog X.w X.K e J fp it tn/\tn 0 c.heap/\(∀ b∈fp,gR X pins H' b)/\R J H'
def PI(X:Cx)(c a:Expr)(b:TI):Prop:=
 ∀(pins:List (JW × Obj)) (s:JV) (σ:St) (H:Hp) (R:It->Hp->Prop),Inv X pins σ H s->b σ H R->
  JY (J0 X.prog X.w) X.A (Zk a X.env) (fun v d=>JY (J0 X.prog X.w) X.A (pyIter v) (Ce X pins σ c R) X.xe d) X.xe s
theorem rX{M:Model}{A:Around}{E:YP->JV->Prop}{s:JV}{b:Expr}{c:JW}{u:YP}{o:Obj}{n:String}{vs:Array YP}{Q:Unit->JV->Prop}(d:s.heap.get? c=some o)(f:o.cls=.type n)(hd:o.data=.fields vs)
  (e:["enumerate","zip","dict_itemiterator","dict_reverseitemiterator","odict_iterator","itertools.zip_longest","itertools.pairwise"].contains n=false) (a:Q () s):JY M A (letOwnedTupleGo b (.ref c) u) Q E s:=by
 unfold letOwnedTupleGo
 cases b <;> first
  | exact Qb a
  | (cases u <;> first
    | exact Qb a
    | (refine Qa (wpAny_load d ?_)
       rw [f,hd]
       show JY M A (if(["enumerate","zip","dict_itemiterator","dict_reverseitemiterator","odict_iterator","itertools.zip_longest","itertools.pairwise"].contains n && vs[0]? == some (Zy _))=true then _ else _) Q E s
       rw [if_neg (by intro h;rw [e,Bool.false_and]at h;cases h)]
       exact Qb a))
def BL(K:PySem.W.Frag)(a:JW):It:=
 ⟨fun i H=>∃ xs x,cN K H a xs/\xs[i]?=some x,fun i H x b=>b=H/\∀ xs,cN K H a xs->xs[i]?=some x,fun i H=>∃ xs,cN K H a xs/\xs.length<=i⟩
def BM(K:PySem.W.Frag)(a:JW):It:=
 ⟨fun i H=>∃ xs x,bQ K H a xs/\xs[i]?=some x,fun i H x b=>b=H/\∀ xs,bQ K H a xs->xs[i]?=some x,fun i H=>∃ xs,bQ K H a xs/\xs.length<=i⟩
def tG(a:Int)(n:Nat):It:=⟨fun i _=>i<n,fun i H x b=>b=H/\x=.int (a+i),fun i _=>n<=i⟩
theorem Sz{P:JZ}{w:J1}{K:PySem.W.Frag}{Y:Expr}(a it:JW):jP P w K Y (BL K a) [it] it (fun i h=>h.IsListIter it a i) where
 mem:=by simp
 obj:=fun i h f b j=>by
  have e:b=it:=by simpa using j
  subst e;obtain⟨o,e,c,d⟩:=f
  exact⟨o,e,fun v z=>by rw [d]at z;cases z⟩
 keep:=fun i h q f k=>f.at fun o e=>k it (by simp) o e
 item:=by
  intro X F A G T i g s S H E I n f B;subst F A G;obtain⟨U,x,m,y⟩:=B;obtain⟨t,r,p,hz⟩:=I.list m;obtain⟨u,hu,ru⟩:=r.get y;obtain⟨Q,O,f2,N,M,J⟩:=n it (by simp);refine wpAny_pyNext_list_item f p.isList (x:=u) (by simpa using hu) fun q l Z=>?_;have I1:Inv X g S H { s with heap:=q }:=I.turned (t':=s.toks) (fun b o j e=>(Z.2 b j).trans e) Q O N M J;obtain⟨o,e,c,d⟩:=id l
  exact⟨u,rfl,rX (s:={ s with heap:=q }) e c d (by decide) ⟨x,H,I1,ru,⟨rfl,fun ys hy=>by rw [I.list_inj hy m];exact y⟩,l,fun b j=>(n b j).1⟩⟩
 done:=by
  intro X F A G T i g s S H E I n f B;subst F A G;obtain⟨U,m,y⟩:=B;obtain⟨t,r,p,hz⟩:=I.list m;obtain⟨Q,O,f2,N,M,J⟩:=n it (by simp);have hl:=r.length;exact wpAny_pyNext_list_end (I.ok.hd T) f p.isList (by simp;lia) fun q eb=>⟨rfl,I.turned (t':=s.toks) (fun b o j e=>eb b o j e) Q O N M J⟩
 self:=fun _ _ _ _ _ f h=>wpAny_pyIter_listiter f h
theorem T5{P:JZ}{w:J1}{K:PySem.W.Frag}{Y:Expr}(a it:JW):jP P w K Y (BM K a) [it] it (fun i h=>h.IsTupleIter it a i) where
 mem:=by simp
 obj:=fun i h f b l=>by
  have e:b=it:=by simpa using l
  subst e;obtain⟨o,e,c,d⟩:=f
  exact⟨o,e,fun v z=>by rw [d]at z;cases z⟩
 keep:=fun i h r f k=>f.at fun o e=>k it (by simp) o e
 item:=by
  intro X F A G T i g s S H E I q f B;subst F A G;obtain⟨U,x,n,y⟩:=B;obtain⟨j,t,p,hz⟩:=I.tuple n;obtain⟨u,hu,ru⟩:=t.get y;obtain⟨Q,O,f2,N,M,J⟩:=q it (by simp);refine wpAny_pyNext_tuple_item f (show s.heap.IsTuple a j.toArray from p) (x:=u) (by simpa using hu) fun r m Z=>?_;have I1:Inv X g S H { s with heap:=r }:=I.turned (t':=s.toks) (fun b o l e=>(Z.2 b l).trans e) Q O N M J;obtain⟨o,e,c,d⟩:=id m
  exact⟨u,rfl,rX (s:={ s with heap:=r }) e c d (by decide) ⟨x,H,I1,ru,⟨rfl,fun ys hy=>by rw [I.tuple_inj hy n];exact y⟩,m,fun b l=>(q b l).1⟩⟩
 done:=by
  intro X F A G T i g s S H E I q f B;subst F A G;obtain⟨U,n,y⟩:=B;obtain⟨j,t,p,hz⟩:=I.tuple n;obtain⟨Q,O,f2,N,M,J⟩:=q it (by simp);have hl:=t.length;exact wpAny_pyNext_tuple_end (I.ok.hd T) f (show s.heap.IsTuple a j.toArray from p) (by simp;lia) fun r eb=>⟨rfl,I.turned (t':=s.toks) (fun b o l e=>eb b o l e) Q O N M J⟩
 self:=fun _ _ _ _ _ f h=>wpAny_pyIter_tupleiter f h
theorem SE{P:JZ}{w:J1}{K:PySem.W.Frag}{N:Expr}(it:JW)(g:Int)(n:Nat):jP P w K N (tG g n) [it] it (fun i h=>IsRangeIter h it (g+(i:Nat) * 1) ((n:Int)-(i:Nat)) 1) where
 mem:=by simp
 obj:=fun i h a b d=>by
  have e:b=it:=by simpa using d
  subst e
  exact⟨_,a,fun v z=>by
   have M:Data.fields _=Data.cell v:=z
   cases M⟩
 keep:=fun i h l a k=>k it (by simp) _ a
 item:=by
  intro X r m u q i c s G H E I j a p;subst r m u;obtain⟨F,B,S,A,y,x⟩:=j it (by simp);have W:=Walks.range (prog:=X.prog) (w:=X.w) (I.ok.hd q) it g 1 n;refine W.item i s _ _ p a fun v l J Q f O=>?_;obtain⟨t,rfl⟩:=Q;have U:Inv X c G H { s with heap:=l,toks:=J }:=I.turned (fun b o d e=>O b o (by simpa using d) e) F B A y x
  refine⟨_,rfl,rX (s:={ s with heap:=l,toks:=J }) (n:="range_iterator") f rfl rfl (by decide) ⟨.int (g+i),H,U,⟨t,?_⟩,⟨rfl,rfl⟩,f,fun b d=>(j b d).1⟩⟩
  rw [Int.mul_one]
 done:=by
  intro X r m u q i c s G H E I j a p;subst r m u;obtain⟨F,B,S,A,y,x⟩:=j it (by simp);exact wpAny_pyNext_range_end (I.ok.hd q) a (by have:n<=i:=p;lia) fun l T=>⟨rfl,I.turned (t':=s.toks) (fun b o d e=>T b o d e) F B A y x⟩
 self:=fun _ _ _ _ _ a h=>wpAny_pyIter_rangeiter a h
section
variable {X:Cx}{tg:Expr}
theorem Rh{pins:List (JW × Obj)}{c:St}{H:Hp}{s:JV}{R:It->Hp->Prop}{E:YP->JV->Prop}{lo a:Int}{t u v:Tok}{tk:Nat}(I:Inv X pins c H s)(i:-(2 ^ 62)<=lo)(h:lo<2 ^ 62)(g:-(2 ^ 62)<=a)(f:a<2 ^ 62)
  (q:R (tG lo (a-lo).toNat) H):JY (J0 X.prog X.w) X.A (pyIter (.ref s.heap.objs.size)) (Ce X pins c tg R) E { s with heap:=s.heap.push { cls:=.type "range",data:=.fields #[.int lo t,.int a u,.int 1 v] },toks:=tk }:=by
 refine wpAny_pyIter_range (IsRange.new ..) (small_one i h g f) ?_;have I1:Inv X pins c H { s with heap:=s.heap.push { cls:=.type "range",data:=.fields #[.int lo t,.int a u,.int 1 v] },toks:=tk }:=I.kept fun b o e=>Qc _ e
 refine⟨(s.heap.push { cls:=.type "range",data:=.fields #[.int lo t,.int a u,.int 1 v] }).objs.size,[(s.heap.push { cls:=.type "range",data:=.fields #[.int lo t,.int a u,.int 1 v] }).objs.size],_,_,H,rfl,
  I1.kept (t':=tk) fun b o e=>Qc _ e,SE _ lo (a-lo).toNat,?_,fun b d=>?_,q⟩
 ·have k:lo+((0:Nat):Int) * 1=lo:=by simp
  have j:(((a-lo).toNat:Nat):Int)-((0:Nat):Int)=Builtin.Range.rangeSize lo a 1:=by rw [rangeSize_one];split <;> lia
  show IsRangeIter _ _ (lo+((0:Nat):Int) * 1) ((((a-lo).toNat:Nat):Int)-((0:Nat):Int)) 1
  rw [k,j];exact Qt _ rfl
 ·have e:b=(s.heap.push { cls:=.type "range",data:=.fields #[.int lo t,.int a u,.int 1 v] }).objs.size:=by simpa using d
  subst e;exact I1.fpOk (Qk _) (I1.hok.fresh (Qk _))
def iM(c:TA):TI:=fun a H R=>c a H fun b d=>∃ j:Int,b=[.int j]/\-(2 ^ 62)<=j/\j<2 ^ 62/\R (tG 0 j.toNat) d
theorem Rq{a:Expr}{d:TA}{p pos:Pos}(m:Gl X "range")(l:X.mg "range"=none)(n:PA X [a] d)(hs:JX [a] X.env=[(false,Zk a X.env)]:=by rfl):PI X tg (.Call (.Name "range" p) [a] [] pos) (iM d):=by
 intro b s f H R I h;refine Call_ (kS I m l boot_range (YR (bA (n pos b s f H _ I h) fun v w ⟨u,x,o,i,c⟩=>?_) hs rfl));obtain⟨j,e,c,k,q⟩:=c;subst e
 cases i with
 | cons r g=>
  cases g;obtain⟨t,rfl⟩:=r;exact call_range_1 (Rh o (by lia) (by lia) c k (by simpa using q))
def LW(c:TI)(g:TG)(tb:TS):TS:=fun D a H=>c a H fun J e=>∃ W:Nat->Nat->St->Hp->Prop,(∃ m,W 0 m a e)/\∀ i m a H,W i m a H->
 (J.stop i H/\D.nx a H) ∨ (J.go i H/\∃ N:St->Hp->Prop,(∀ σ' H',N σ' H'->∃ m',m'<m/\W (i+1) m' σ' H')/\∀ x H',J.yld i H x H'->g x a H' fun b d=>tb { D with nx:=N,ct:=N,bk:=D.nx } b d)
def rA(a:List JW)(h:Heap):List (JW × Obj):=a.filterMap fun b=>(h.get? b).map fun o=>(b,o)
theorem uM{a:List JW}{h:Heap}{b:JW}{o:Obj}(c:b∈a)(e:h.get? b=some o):(b,o)∈rA a h:=List.mem_filterMap.mpr ⟨b,c,by rw [e];rfl⟩
theorem Pr{a:List JW}{h:Heap}{p:JW × Obj}(c:p∈rA a h):p.1∈a/\h.get? p.1=some p.2:=by
 obtain⟨b,d,e⟩:=List.mem_filterMap.mp c
 cases q:h.get? b with
 | none=>rw [q]at e;cases e
 | some o=>
  rw [q]at e;have f:(b,o)=p:=QJ e;subst f
  exact⟨d,q⟩
theorem Inv.pinned{pins:List (JW × Obj)}{c:St}{H:Hp}{s:JV}{a:List JW}(I:Inv X pins c H s)(j:∀ b∈a,gR X pins H b)(i:∀ b∈a,∃ o,s.heap.get? b=some o/\∀ v,o.data≠.cell v):Inv X (pins++rA a s.heap) c H s:=
 I.pins_of fun p h=>(Qx.mp h).elim (fun z=>I.pin p (Qu _ z)) fun z=>by
  obtain⟨f,e⟩:=Pr z;obtain⟨m,l,k,_⟩:=j p.1 f;obtain⟨o,g,d⟩:=i p.1 f;rw [e]at g;cases g
  exact⟨e,m,l,k,d⟩
theorem Inv.unpinned{pins b:List (JW × Obj)}{a:St}{H:Hp}{s:JV}(I:Inv X (pins++b) a H s):Inv X pins a H s:=I.pins_of fun p c=>I.pin p (Qu _ (QG _ c))
theorem Ry{l:Expr}{z:List Zj}{wi:TI}{g:TG}{tb:TS}{pos:Pos}(K:PassesOwn (J0 X.prog X.w) X.A X.env X.xe)(hc:X.calm=true)(hi:PI X tg l wi)(hg:PG X tg g)(p:fU X z tb)
  (hs:∀ x,ZC l X.env x=pure x:=by intro _;rfl):PS X (.For tg l z [] pos) (LW wi g tb):=by
 intro c s σ H D I h;refine wpAny_For (bA (hi c s σ H _ I h) fun v s1 h1=>bA h1 fun a2 s2 h2=>?_) hs;obtain⟨it,O,tn,J,H2,e,I2,T,U,f2,W,⟨m0,w0⟩,turn⟩:=h2;subst e;have k:∀{H':Hp},(∀ b∈O,H' b=none)->∀ b∈O,gR X c H' b:=fun hn b p=>⟨hn b p,(f2 b p).2⟩;refine codeAny_forLoop_any (fun n s'=>∃ i σ' H',Inv X c σ' H' s'/\tn i s'.heap/\(∀ b∈O,H' b=none)/\W i n σ' H') ?_ m0 ⟨0,σ,H2,I2,U,fun b p=>(f2 b p).1,w0⟩;rintro n s3 ⟨i,j,Q,I3,F,M,w3⟩;rcases turn i n j Q w3 with⟨stop,qn⟩ | ⟨go,N,hN,step⟩
 ·refine Jn K (bA (T.done X rfl rfl rfl hc i c s3 j Q X.xe I3 (k M) F stop) fun r s4 B=>?_);obtain⟨Z,I4⟩:=B;subst Z;exact JR ⟨j,Q,I4,qn⟩
 ·refine Jn K (bA (T.item X rfl rfl rfl hc i c s3 j Q X.xe I3 (k M) F go) fun r s4 B=>?_);obtain⟨u,Z,h4⟩:=B;subst Z;refine Jn K (bA h4 fun _ s5 B=>?_);obtain⟨x,H5,I5,r5,y5,E,a0⟩:=B;have a1:=I5.pinned (k a0) (T.obj _ _ E);refine Jn K (bA (hg _ s5 j H5 x u _ a1 r5 (step x H5 y5)) fun _ s6 B=>?_);obtain⟨S,H6,I6,q6⟩:=B;refine Jn K (bA (p _ s6 S H6 _ I6 q6) fun f Y y=>?_)
  have q:∀{a:St}{t:Hp},Inv X (c++rA O s5.heap) a t Y->N a t->∃ m,m<n/\∃ i σ' H',Inv X c σ' H' Y/\tn i Y.heap/\(∀ b∈O,H' b=none)/\W i m σ' H':=fun{a t} I7 G=>by
   obtain⟨m',hm,w7⟩:=hN a t G
   refine⟨m',hm,i+1,a,t,I7.unpinned,T.keep _ _ _ E fun b p o e=>(I7.pin (b,o) (Qu _ (Qu _ (uM p e)))).1,fun b p=>?_,w7⟩
   obtain⟨o,e,d⟩:=T.obj _ _ E b p
   exact(I7.pin (b,o) (Qu _ (Qu _ (uM p e)))).2.1
  cases f with
  | next=>obtain⟨a,t,I7,G⟩:=y;exact q I7 G
  | cont=>obtain⟨a,t,I7,G⟩:=y;exact q I7 G
  | brk=>obtain⟨a,t,I7,y⟩:=y;exact⟨a,t,I7.unpinned,y⟩
  | ret v=>obtain⟨x7,a,t,I7,r7,y⟩:=y;exact⟨x7,a,t,I7.unpinned,r7,y⟩
end
abbrev R2:=V->V->Hp->VK->Prop
def bN(X:Cx)(f:YP->YP->Sem YP)(r:R2):Prop:=
 ∀(pins:List (JW × Obj)) (s:JV) (σ:St) (H:Hp) (x y:V) (v u:YP) (Q:VK),Inv X pins σ H s->RelV x v->RelV y u->r x y H Q->
  JY (J0 X.prog X.w) X.A (f v u) (EP X pins σ Q) X.xe s
def mR(X:Cx)(f:YP->Sem YP)(r:V->Hp->VK->Prop):Prop:=
 ∀(pins:List (JW × Obj)) (s:JV) (σ:St) (H:Hp) (x:V) (v:YP) (Q:VK),Inv X pins σ H s->RelV x v->r x H Q->
  JY (J0 X.prog X.w) X.A (f v) (EP X pins σ Q) X.xe s
def fJ(X:Cx)(f:YP)(r:List V->Hp->VK->Prop):Prop:=
 ∀(pins:List (JW × Obj)) (s:JV) (σ:St) (H:Hp) (xs:List V) (us:List YP) (Q:VK),Inv X pins σ H s->Vals xs us->r xs H Q->
  JY (J0 X.prog X.w) X.A (call f us) (EP X pins σ Q) X.xe s
def qU(r:R2)(b tb:TE):TE:=fun a H Q=>b a H fun x d=>tb a d fun y c=>r x y c Q
def Me(r:V->Hp->VK->Prop)(b:TE):TE:=fun a H Q=>b a H fun x c=>r x c Q
def rI(C:Int->Int->Prop)(g:Int->Int->V):R2:=fun x y H Q=>∃ i j,x=.int i/\y=.int j/\C i j/\Q (g i j) H
def lS(g:Int->Int->V):R2:=fun x y H Q=>∃ i j,x=.int i/\y=.int j/\Q (g i j) H
def rU(g:Int->V):V->Hp->VK->Prop:=fun x H Q=>∃ i,x=.int i/\Q (g i) H
section
variable {X:Cx}{a b c:Expr}{ta tb tc:TE}{pos:Pos}
theorem xT(n:PE X a ta)(m:PE X b tb){pins:List (JW × Obj)}{s:JV}{c:St}{H:Hp}{R:V->V->Hp->Prop}(I:Inv X pins c H s)
  (h:ta c H fun x H1=>tb c H1 fun y H2=>R x y H2) {Q:YP->JV->Prop}{f:YP->YP->Sem YP}
  (l:∀ v u s2 x y H2,Inv X pins c H2 s2->RelV x v->RelV y u->R x y H2->JY (J0 X.prog X.w) X.A (f v u) Q X.xe s2):
  JY (J0 X.prog X.w) X.A (Zk a X.env) (fun v s₁=>JY (J0 X.prog X.w) X.A (Zk b X.env) (fun u s₂=>JY (J0 X.prog X.w) X.A (f v u) Q X.xe s₂) X.xe s₁) X.xe s:=by
 refine bA (n pins s c H _ I h) fun v e d=>?_;obtain⟨x,H1,p,i,k⟩:=d;refine bA (m pins e c H1 _ p k) fun u s2 d=>?_;obtain⟨y,H2,o,g,j⟩:=d;exact l v u s2 x y H2 o i g j
theorem K7{op:Operator}{r:R2}(i:bN X (Zs op) r)(k:PE X a ta)(j:PE X b tb):PE X (.BinOp a op b pos) (qU r ta tb):=by
 intro c s d H Q I h;exact wpAny_BinOp (xT k j I h fun v u e x y m l g f q=>i c e d m x y v u Q l g f q)
theorem K8{op:UnaryOp}{r:V->Hp->VK->Prop}(g:mR X (unaryOp op) r)(i:PE X a ta):PE X (.UnaryOp op a pos) (Me r ta):=by
 intro b s c H Q I h;exact UnaryOp_ (bA (i b s c H _ I h) fun v d ⟨x,k,j,e,f⟩=>g b d c k x v Q j e f)
theorem yD{f:YP->YP->Sem YP}{C:Int->Int->Prop}{g:Int->Int->Int}
  (a:∀(i j:Int) (t u:Tok) (s:JV) (Q:YP->JV->Prop) (E:YP->JV->Prop),C i j->Q (.int (g i j) s.toks) { s with toks:=s.toks+1 }->JY (J0 X.prog X.w) X.A (f (.int i t) (.int j u)) Q E s):
  bN X f (rI C fun i j=>.int (g i j)):=by
 intro b s l H x y v u Q I e d h;obtain⟨i,j,rfl,rfl,k,q⟩:=h;obtain⟨t,rfl⟩:=e;obtain⟨c,rfl⟩:=d;exact a i j t c s _ _ k ⟨.int (g i j),H,I.tok _,⟨_,rfl⟩,q⟩
theorem CK{f:YP->YP->Sem YP}{g:Int->Int->Int}
  (a:∀(i j:Int) (t u:Tok) (s:JV) (Q:YP->JV->Prop) (E:YP->JV->Prop),Q (.int (g i j) s.toks) { s with toks:=s.toks+1 }->JY (J0 X.prog X.w) X.A (f (.int i t) (.int j u)) Q E s):
  bN X f (lS fun i j=>.int (g i j)):=by
 intro b s k H x y v u Q I e d h;obtain⟨i,j,rfl,rfl,q⟩:=h;obtain⟨t,rfl⟩:=e;obtain⟨c,rfl⟩:=d;exact a i j t c s _ _ ⟨.int (g i j),H,I.tok _,⟨_,rfl⟩,q⟩
theorem yC{f:YP->YP->Sem YP}{g:Int->Int->Bool}
  (a:∀(i j:Int) (t u:Tok) (s:JV) (Q:YP->JV->Prop) (E:YP->JV->Prop),Q (.bool (g i j)) s->JY (J0 X.prog X.w) X.A (f (.int i t) (.int j u)) Q E s):
  bN X f (lS fun i j=>.bl (g i j)):=by
 intro b s k H x y v u Q I e d h;obtain⟨i,j,rfl,rfl,q⟩:=h;obtain⟨t,rfl⟩:=e;obtain⟨c,rfl⟩:=d;exact a i j t c s _ _ ⟨.bl (g i j),H,I,rfl,q⟩
def Ic(i j:Int):Prop:=0<j/\j<1073741824
def sX(i j:Int):Prop:=(-(2 ^ 64)<i/\i<2 ^ 64) ∨ (-(2 ^ 64)<j/\j<2 ^ 64)
theorem sX.ok{i j:Int}(h:sX i j):IntMulOk i j:=by
 rcases h with⟨b,a⟩ | ⟨b,a⟩
 ·exact .of_left (intBits_le_64 b a)
 ·exact .of_right (intBits_le_64 b a)
theorem PB:bN X (Zs .Add) (lS fun i j=>.int (i+j)):=CK fun _ _ _ _ _ _ _ q=>add_int q
theorem O5:bN X (Zs .Sub) (lS fun i j=>.int (i-j)):=CK fun _ _ _ _ _ _ _ q=>sub_int q
theorem O3:bN X (Zs .Mult) (rI sX fun i j=>.int (i * j)):=yD fun _ _ _ _ _ _ _ a q=>mul_int q a.ok
theorem O0:bN X (Zs .FloorDiv) (rI Ic fun i j=>.int (i / j)):=yD fun i j _ _ _ _ _ a q=>by
 have c:(0:Int)<j:=a.1;have b:j<1073741824:=a.2;exact floordiv_int (by lia) (by rw [Int.fdiv_eq_ediv_of_nonneg i (by lia)];exact q) (.inl (PyProof.noPylong_small (by lia)))
theorem O2:bN X (Zs .Mod) (rI (fun _ j=>0<j) fun i j=>.int (i % j)):=yD fun i j _ _ _ _ _ a q=>by
 have b:(0:Int)<j:=a;exact mod_int' (by lia) (by rw [Int.fmod_eq_emod_of_nonneg i (by lia)];exact q)
theorem Mi{f:YP->Sem YP}{g:Int->Int}
  (a:∀(i:Int) (t:Tok) (s:JV) (Q:YP->JV->Prop) (E:YP->JV->Prop),Q (.int (g i) s.toks) { s with toks:=s.toks+1 }->JY (J0 X.prog X.w) X.A (f (.int i t)) Q E s):
  mR X f (rU fun i=>.int (g i)):=by
 intro b s d H x v Q I c h;obtain⟨i,rfl,q⟩:=h;obtain⟨t,rfl⟩:=c;exact a i t s _ _ ⟨.int (g i),H,I.tok _,⟨_,rfl⟩,q⟩
theorem U6:mR X (unaryOp .USub) (rU fun i=>.int (-i)):=Mi fun _ _ _ _ _ q=>neg_int q
theorem Ek{pins:List (JW × Obj)}{a:St}{H:Hp}{s:JV}{Q:VK}{k b:Bool}(I:Inv X pins a H s)(q:Q (.bl k) H)(e:k=b):EP X pins a Q (.bool b) s:=by
 subst e
 exact⟨.bl k,H,I,rfl,q⟩
theorem K4:bN X (Zc .Lt) (lS fun i j=>.bl (decide (i<j))):=yC fun _ _ _ _ _ _ _ q=>lt_int q
theorem K3:bN X (Zc .LtE) (lS fun i j=>.bl (decide (i<=j))):=yC fun _ _ _ _ _ _ _ q=>le_int q
theorem K1:bN X (Zc .Gt) (lS fun i j=>.bl (decide (j<i))):=yC fun _ _ _ _ _ _ _ q=>gt_int q
theorem O1:bN X (Zc .Is) (fun x y H Q=>y=.non/\Q (.bl (decide (x=.non))) H):=by
 intro b s d H x y v u Q I a c h;obtain⟨rfl,q⟩:=h;cases c;refine is_none_gen (Ek I q ?_)
 cases x <;> first
  | (cases a;rfl)
  | (obtain⟨t,rfl⟩:=a;rfl)
theorem O4:bN X (Zc .IsNot) (fun x y H Q=>y=.non/\Q (.bl (!decide (x=.non))) H):=by
 intro b s d H x y v u Q I a c h;obtain⟨rfl,q⟩:=h;cases c;refine isnot_none_gen (Ek I q ?_)
 cases x <;> first
  | (cases a;rfl)
  | (obtain⟨t,rfl⟩:=a;rfl)
theorem bN.or{f:YP->YP->Sem YP}{r e:R2}(h:bN X f r)(h':bN X f e):bN X f (fun x y H Q=>r x y H Q ∨ e x y H Q):=by
 intro a s b H x y v u Q I d c q;rcases q with q | q
 ·exact h a s b H x y v u Q I d c q
 ·exact h' a s b H x y v u Q I d c q
theorem cR(b:Expr){op:CmpOp}(h:op≠.In:=by decide)(a:op≠.NotIn:=by decide):Z2 op b=false:=by
 have d:(op == CmpOp.In)=false:=by cases op <;> first | rfl | exact absurd rfl h
 have c:(op == CmpOp.NotIn)=false:=by cases op <;> first | rfl | exact absurd rfl a
 cases b <;> simp [Z2,d,c]
theorem RZ{op:CmpOp}{r:R2}(i:bN X (Zc op) r)(l:PE X a ta)(k:PE X b tb)(j:Z2 op b=false):PE X (.Compare a [op] [b] pos) (qU r ta tb):=by
 intro c s d H Q I h;exact wpAny_Compare1 (xT l k I h fun v u e x y n m g f q=>i c e d n x y v u Q m g f q) j
def HF(t:TE):TT:=fun a H Q=>t a H fun x b=>∃ k,x=.bl k/\Q k b
theorem RD{op:CmpOp}{r:R2}(q:bN X (Zc op) r)(A:PE X a ta)(w:PE X b tb)(t:Z2 op b=false):PT X (.Compare a [op] [b] pos) (HF (qU r ta tb)):=by
 intro d s f H Q I h
 refine wpAny_isTrue_Compare1 (bA (A d s f H _ I h) fun v i ⟨x,K,F,m,p⟩=>bA (w d i f K _ F p) fun u g ⟨y,J,E,l,o⟩=>
  bA (q d g f J x y v u _ E m l o) fun c M ⟨z,G,B,j,k,e,n⟩=>?_) t
 subst e;cases j;exact Y4 ⟨G,B,n⟩
def HE(r f:R2)(e tb d:TE):TE:=fun a H Q=>e a H fun x i=>tb a i fun y h=>r x y h fun z b=>∃ k,z=.bl k /\
 (if k=true then d a b fun c g=>f y c g Q else Q (.bl false) b)
theorem RY{op g:CmpOp}{r m:R2}(O:bN X (Zc op) r)(j:bN X (Zc g) m)(W:PE X a ta)(U:PE X b tb)(T:PE X c tc)
  (S:lastMarks [op,g] [b,c]=false:=by with_unfolding_all rfl):PE X (.Compare a [op,g] [b,c] pos) (HE r m ta tb tc):=by
 intro f s i H Q I h
 refine Compare_chain (bA (W f s i H _ I h) fun v E ⟨x,H1,I1,J,N⟩=>chain_link (bA (U f E i H1 _ I1 N) fun u B ⟨y,H2,Z,l,M⟩=>
  bA (O f B i H2 x y v u _ Z J l M) fun d A ⟨z,p,o,G,k,e,n⟩=>?_)) S
 subst e;cases G;refine Y4 ?_
 cases k with
 | false=>exact ite_ff ⟨.bl false,p,o,rfl,n⟩
 | true=>exact ite_tt (chain_last (bA (T f A i p _ o n) fun t w ⟨q,H4,Y,F,K⟩=>j f w i H4 y q u t Q Y l F K))
theorem uK:(sizeLine:Nat)<2 ^ 63:=by rw [Yf];decide
theorem OY:bN X (Zs .Add) (fun x y H Q=>∃ i j,x=.str i/\y=.str j/\i.length+j.length<=sizeLine/\Q (.str (i++j)) H):=by
 intro a s f H x y v u Q I d c h;obtain⟨i,j,rfl,rfl,e,q⟩:=h;obtain⟨t,rfl⟩:=d;obtain⟨b,rfl⟩:=c;exact add_str (fun b g=>⟨.str (i++j),H,I.tok _,⟨_,rfl⟩,q⟩) e
theorem i4{x:V}{us:List YP}(r:Vals [x] us):∃ u,us=[u]/\RelV x u:=by
 cases r with
 | cons b a=>cases a;exact⟨_,rfl,b⟩
theorem Mk{x y:V}{us:List YP}(r:Vals [x,y] us):∃ u w',us=[u,w']/\RelV x u/\RelV y w':=by
 cases r with
 | cons d c=>
  cases c with
  | cons b a=>cases a;exact⟨_,_,rfl,d,b⟩
theorem MP:fJ X (.builtin "abs") (fun xs H Q=>∃ i,xs=[.int i]/\Q (.int (if i<0 then -i else i)) H):=by
 intro a s b H xs c Q I r h;obtain⟨i,rfl,q⟩:=h;obtain⟨u,rfl,t,rfl⟩:=i4 r;exact call_abs_int fun u d=>⟨.int (if i<0 then -i else i),H,I.tok _,⟨_,rfl⟩,q⟩
end
section
variable {prog:JZ}{w:J1}{A:Around}{E:YP->JV->Prop}{s:JV}{K:PySem.W.Frag}{x dx C f:JW}{mA:Str->Option YP}{name:Str}{v:YP}
end
section
variable {P:JZ}{w:J1}{H H':Hp}{h h':Heap}{a C dx:JW}{fs fs':List (Str × V)}
end
section
variable {X:Cx}{pins:List (JW × Obj)}{σ:St}{H:Hp}{s:JV}{a C dx:JW}{fs:List (Str × V)}{f:Str}{v:V}{A:Around}{E:YP->JV->Prop}
end
section
variable {X:Cx}{o e value:Expr}{f:Str}{pos pos' tpos:Pos}{ta tv:TE}
end
section
variable {X:Cx}{pins:List (JW × Obj)}{σ:St}{H:Hp}{s:JV}{A:Around}{E:YP->JV->Prop}{Q:YP->JV->Prop}{c:YP}{b:Bool}
end
structure cT(k:Nat)(A:Around):Prop where
 hd:A.handled=none
 dp:A.depth+3 * k+5<recursionLimit
 un:A.units+16 * k+200<Za
 gd:A.guards=some []
theorem cT.mono{j k:Nat}{A:Around}(r:cT k A)(h:j<=k):cT j A:=⟨r.hd,by have:=r.dp;lia,by have:=r.un;lia,r.gd⟩
theorem cT.deeper{k:Nat}{A:Around}(r:cT (k+1) A)(env:Env):cT k (A.deeper env):=
 ⟨r.hd,by have:=r.dp;show A.depth+1+3 * k+5<_;lia,by have:=r.un;show A.units+3+16 * k+200<_;lia,r.gd⟩
theorem cT.depth{k:Nat}{A:Around}(r:cT k A):A.depth<recursionLimit:=by have:=r.dp;lia
def L3:TA:=fun _ H Q=>Q [] H
def LS(d:TE)(c:TA):TA:=fun a H Q=>d a H fun x f=>c a f fun b e=>Q (x::b) e
section
variable {X:Cx}{e:Expr}{es:List Expr}{te:TE}{t:TA}{pos:Pos}
theorem mG:PA X [] L3:=fun _ _ _ _ H Q I h=>Calls.spliced_nil ⟨[],H,I,.nil,h⟩
theorem j9(m:PE X e te)(l:PA X es t)(hs:JX (e::es) X.env=(false,Zk e X.env)::JX es X.env:=by rfl):PA X (e::es) (LS te t):=by
 intro pos a s b H Q I h;rw [hs]
 show JY _ _ (spliced ((false,Zk e X.env)::Zi pos (JX es X.env))) _ _ s
 refine Calls.spliced_cons (bA (m a s b H _ I h) fun u f c=>?_);obtain⟨x,q,o,i,k⟩:=c;exact bA (l pos a f b q _ o k) fun r v ⟨d,p,n,g,j⟩=>⟨x::d,p,n,.cons i g,j⟩
def Mc(t:TA):TE:=fun c H Q=>t c H fun a b=>a.length<=sizeLine/\∀ p,b p=none->Q (.ref p) (aP b p (.tup a))
def L0(t:TA):TE:=fun c H Q=>t c H fun a b=>a.length<=sizeLine/\∀ p,b p=none->Q (.ref p) (aP b p (.lst a))
theorem Sk{x1}(h:PA X es t):PE X (.Tuple es x1 pos) (Mc t):=by
 intro a s f H Q I j;refine wpAny_Tuple_spliced (bA (h pos a s f H _ I j) fun i c ⟨g,d,I1,r,z,q⟩=>⟨by rw [<- r.length];exact z,?_⟩);have k:d c.heap.objs.size=none:=I1.hok.fresh (Qk _)
 refine⟨.ref c.heap.objs.size,aP d c.heap.objs.size (.tup g),I1.laid (t':=c.toks) (fun b u e=>Qc _ e) (Qk _) ?_,rfl,q _ k⟩
 exact⟨z,i,r,⟨_,Qt _ rfl,rfl,_,rfl⟩⟩
theorem Hq(h:PA X es t):PE X (.List es pos) (L0 t):=by
 intro a s f H Q I j;refine wpAny_List_spliced (bA (h pos a s f H _ I j) fun i c ⟨g,d,I1,r,z,q⟩=>⟨by rw [<- r.length];exact z,?_⟩);have k:d c.heap.objs.size=none:=I1.hok.fresh (Qk _)
 refine⟨.ref c.heap.objs.size,aP d c.heap.objs.size (.lst g),I1.laid (t':=c.toks) (fun b u e=>Qc _ e) (Qk _) ?_,rfl,q _ k⟩
 exact⟨z,i,0,r,Qt _ rfl⟩
end
abbrev Sp:=List V->Hp->VK->XK->Prop
abbrev iQ:=List Env->Hp->JV->XK->YP->JV->Prop
structure p7(P:JZ)(w:J1)(K:PySem.W.Frag)(mg:Str->Option YP)(base:Heap)(A:Around)(outer:List Env)(s:JV)(H:Hp):Prop where
 frames:A.frames=some outer
 mod:Mod K mg base
 bs:∀ b o,base.get? b=some o->s.heap.get? b=some o/\H b=none
 bsz:base.objs.size<=s.heap.objs.size
 funs:s.heap.FunFrames base outer
 frf:∀ b∈dN outer,H b=none
 hok:cY P w H s.heap
 bare:Uz s.gens
def CE(outer:List Env)(P:JZ)(w:J1)(H:Hp)(s:JV)(Q:VK)(u:YP)(a:JV):Prop:=
 ∃ v H',a.os=s.os/\Uz a.gens/\Un (dN outer) [] H H' s.heap a.heap/\cY P w H' a.heap/\RelV v u/\Q v H'
def CR(b:iQ)(outer:List Env)(P:JZ)(w:J1)(H:Hp)(s:JV)(Q:VK)(E:XK)(r:Result)(a:JV):Prop:=
 match r with
 | .ok (.ret u)=>CE outer P w H s Q u a
 | .ok _=>False
 | .error e=>b outer H s E e a
structure aN(P:JZ)(w:J1)(K:PySem.W.Frag)(mg:Str->Option YP)(base:Heap)(CX:iQ)(k:Nat)(f:JW)(fd:Zg)(ps:List Str)(sp:Sp):Prop where
 len:∀ vs H Q E,sp vs H Q E->vs.length=ps.length
 run:∀(A:Around) (outer:List Env) (s:JV) (H:Hp) (args:Args) (us:List YP) (vs:List V) (Q:VK) (E:XK),cT k A->p7 P w K mg base A outer s H->BindsTo s fd args (ps.zip us)->Vals vs us->sp vs H Q E->
  ZY (J0 P w) A (.call (.ref f) args) (CR CX outer P w H s Q E) s
theorem aN.imp{P:JZ}{w:J1}{K:PySem.W.Frag}{mg:Str->Option YP}{base:Heap}{g:iQ}{k:Nat}{f:JW}{e:Zg}{d:List Str}{c sp':Sp}(F:aN P w K mg base g k f e d c)
  (h:∀ vs H Q E,sp' vs H Q E->c vs H Q E):aN P w K mg base g k f e d sp':=
 ⟨fun vs H Q E q=>F.len vs H Q E (h _ _ _ _ q),fun A a s H b i vs Q E m n o j l=>F.run A a s H b i vs Q E m n o j (h _ _ _ _ l)⟩
section
variable {X:Cx}{pins:List (JW × Obj)}{σ:St}{H:Hp}{s s':JV}
theorem Inv.env0(I:Inv X pins σ H s):p7 X.prog X.w X.K X.mg X.base X.A X.stack s H:=
 ⟨I.ok.frames,I.ok.mod,I.bs,Qv I.ok.bsz I.sz,I.stack,I.stkFree,I.hok,I.bare⟩
theorem Inv.after{Q:VK}{u:YP}(I:Inv X pins σ H s)(h:CE X.stack X.prog X.w H s Q u s'):EP X pins σ Q u s':=by
 obtain⟨v,i,os,a,un,e,r,q⟩:=h;obtain⟨f,g,d,t,c⟩:=s'
 obtain rfl:c=s.os:=os
 exact⟨v,i,I.call (h':=f) (g':=g) (d':=d) (t':=t) (ch:=[]) un e a (fun b z=>absurd z (by simp)),r,q⟩
end
def LR(d:Sp)(a:List V)(E:XK)(t:TA):TE:=fun b H Q=>t b H fun c e=>d (c++a) e Q E
def Binds(K:PySem.W.Frag)(b:Zg)(a:List Str)(ds:List YP):Prop:=
 ∀(s:JV) (us:List YP),K.In s.heap->(us++ds).length=a.length->BindsTo s b ⟨us,[]⟩ (a.zip (us++ds))
theorem Binds.all{K:PySem.W.Frag}{c:Zg}{a:List Str}(h:∀ us:List YP,us.length=a.length->Z3 c ⟨us,[]⟩=pure (a.zip us)):Binds K c a []:=fun s us _ b=>by
 rw [QO]at b ⊢;exact .of_eq (h us b)
def zO(a:iQ)(X:Cx)(E:XK):Prop:=∀(pins:List (JW × Obj)) (σ:St) (H:Hp) (s:JV) (e:YP) (s':JV),Inv X pins σ H s->a X.stack H s E e s'->X.xe e s'
section
variable {X:Cx}{CX:iQ}{k:Nat}{f C:JW}{fd:Zg}{ps:List Str}{sp:Sp}{dvs:List V}{ds:List YP}{E:XK}{x m:Str}{p pos apos:Pos}{e o:Expr}{es:List Expr}{ta:TE}{t:TA}
theorem Tx{pins:List (JW × Obj)}{b:St}{H:Hp}{s:JV}{Q:VK}{us:List YP}{vs:List V}(F:aN X.prog X.w X.K X.mg X.base CX k f fd ps sp)(i:cT k X.A)(l:Binds X.K fd ps ds)(hd:Vals dvs ds)(g:zO CX X E)
  (I:Inv X pins b H s) (r:Vals vs us) (h:sp (vs++dvs) H Q E):JY (J0 X.prog X.w) X.A (call (.ref f) us) (EP X pins b Q) X.xe s:=by
 have c:Vals (vs++dvs) (us++ds):=r.append hd
 have j:(us++ds).length=ps.length:=by rw [<- c.length];exact F.len _ _ _ _ h
 refine UR (Jd (F.run X.A X.stack s H ⟨us,[]⟩ (us++ds) (vs++dvs) Q E i I.env0 (l s us I.kIn j) c h) fun r d a=>?_)
 cases r with
 | error e=>exact g pins b H s e d I a
 | ok m=>
  cases m with
  | ret u=>exact I.after a
  | next=>exact Zt a
  | brk=>exact Zt a
  | cont=>exact Zt a
theorem Hn(F:aN X.prog X.w X.K X.mg X.base CX k f fd ps sp)(g:cT k X.A)(l:Gl X x)(i:X.mg x=some (.ref f))(j:PySem.W.keepIn X.K (.ref f)=true)(m:Binds X.K fd ps ds)(hd:Vals dvs ds)(d:zO CX X E)
  (n:PA X (e::es) t) (b:(x == ("__debug__":Str))=false:=by decide) (he:JX (e::es) X.env=(false,Zk e X.env)::JX es X.env:=by rfl) (hpl:(Zi pos (JX es X.env)).any (·.1)=false:=by rfl):
  PE X (.Call (.Name x p) (e::es) [] pos) (LR sp dvs E t):=by
 intro a s c H Q I h;refine YB (pO I l i ?_ b);refine PySem.W.callWith_K (h₀:=X.base) I.ok.mod.kin j (bA (n pos a s c H _ I h) fun u v ⟨o,y,I1,r,q⟩=>⟨I1.kIn,?_⟩) he hpl;exact Tx F g m hd d I1 r q
end
section
variable {X:Cx}{CX:iQ}{k:Nat}{f C:JW}{fd:Zg}{ps ks:List Str}{sp:Sp}{E:XK}{x m:Str}{p pos apos kpos:Pos}{e o:Expr}{es:List Expr}{kws:List UA}{te ta:TE}{t tk:TA}{nm:Option Str}
variable {g:List YP->List YP->List YP}{gV:List V->List V->List V}
end
structure cB(N P:List Str)(sc:Zz):Prop where
 kind:sc.kind=.function
 co:sc.isCoroutine=false
 gen:sc.isGenerator=false
 nd:N.Nodup
 pre:N.take P.length=P
 par:∀ x∈P,sc.names.lookup x=some .local ∨ sc.names.lookup x=some .cell
 nofree:∀ y∈sc.names,y.2≠.free
theorem C3{a:Str->Option UG}{x:Str}:∀{binds:List (Str × YP)}{m:Str->Option YP},(∀ v,(x,v)∉binds)->bindL a binds m x=m x
 | [],_,_=>rfl
 | (n,v)::r,m,h=>by
  unfold bindL;rw [C3 fun w b=>h w (Qg _ b)];split
  ·have:x≠n:=by rintro rfl;exact h v Qd
   simp [this]
  ·rfl
theorem C1{a:Str->Option UG}{x:Str}:∀{binds:List (Str × YP)}{m:Str->Option YP},(∀ v,(x,v)∉binds)->bindC a binds m x=m x
 | [],_,_=>rfl
 | (n,v)::r,m,h=>by
  unfold bindC;rw [C1 fun w b=>h w (Qg _ b)];split
  ·rfl
  ·have:x≠n:=by rintro rfl;exact h v Qd
   simp [this]
theorem C2{a:Str->Option UG}{x:Str}{v:YP}:∀{P:List Str}{vs:List YP}{i:Nat}{m:Str->Option YP},P.Nodup->P[i]?=some x->vs[i]?=some v->a x=some .local->
  bindL a (P.zip vs) m x=some v
 | [],_,_,_,_,h,_,_=>by simp at h
 | _::_,[],_,_,_,_,h,_=>by simp at h
 | p::P,w::vs,0,m,nd,h1,h2,hk=>by
  simp at h1 h2;subst h1;subst h2
  show bindL a ((p,w)::P.zip vs) m p=_
  unfold bindL;rw [C3 fun v b=>(Yu.mp nd).1 (List.of_mem_zip b).1,if_pos hk];simp
 | p::P,w::vs,i+1,m,nd,h1,h2,hk=>by
  show bindL a ((p,w)::P.zip vs) m x=_
  unfold bindL;exact C2 (i:=i) (Yu.mp nd).2 (by simpa using h1) (by simpa using h2) hk
theorem C0{a:Str->Option UG}{x:Str}{v:YP}:∀{P:List Str}{vs:List YP}{i:Nat}{m:Str->Option YP},P.Nodup->P[i]?=some x->vs[i]?=some v->a x≠some .local->
  bindC a (P.zip vs) m x=some v
 | [],_,_,_,_,h,_,_=>by simp at h
 | _::_,[],_,_,_,_,h,_=>by simp at h
 | p::P,w::vs,0,m,nd,h1,h2,hk=>by
  simp at h1 h2;subst h1;subst h2
  show bindC a ((p,w)::P.zip vs) m p=_
  unfold bindC;rw [C1 fun v b=>(Yu.mp nd).1 (List.of_mem_zip b).1,if_neg hk];simp
 | p::P,w::vs,i+1,m,nd,h1,h2,hk=>by
  show bindC a ((p,w)::P.zip vs) m x=_
  unfold bindC;exact C0 (i:=i) (Yu.mp nd).2 (by simpa using h1) (by simpa using h2) hk
def start(N:List Str)(vs:List V):St:=vs.map some++List.replicate (N.length-vs.length) none
def hX(d:iQ)(P:JZ)(w:J1)(K:PySem.W.Frag)(mg:Str->Option YP)(base:Heap)(N:List Str)(a:Str)(scope:Zz)(f:JW)(c:YP)(A:Around)(outer:List Env)(s:JV)(H:Hp)(E:XK):Cx where
 prog:=P
 w:=w
 K:=K
 mg:=mg
 base:=base
 A:=A.deeper (envOfC a scope s.heap.objs.size f c)
 N:=N
 s₀:=s
 H₀:=H
 env:=envOfC a scope s.heap.objs.size f c
 outer:=outer
 stack:=envOfC a scope s.heap.objs.size f c::outer
 ex:=[]
 calm:=true
 fn:=fun _=>true
 pn:=[]
 xe:=fun e g=>JY (J0 P w) (A.deeper (envOfC a scope s.heap.objs.size f c)) (leaving (envOfC a scope s.heap.objs.size f c) e) (fun _ b=>d outer H s E e b) (fun h b=>d outer H s E h b) g
theorem C5{a:Zz}{n:Nat}{x:Str}(h:a.names.lookup x=some .cell):∃ c,(cellsFrom n a.names []).lookup x=some c:=by
 have q:=PySem.W.cellsFrom_some a.names n [] (.inl h);exact Option.isSome_iff_exists.mp q
theorem ON{O:iQ}{P:JZ}{w:J1}{K:PySem.W.Frag}{mg:Str->Option YP}{base:Heap}{N l:List Str}{d:Str}{scope:Zz}{f:JW}{I:YP}{A:Around}{outer:List Env}{s s1:JV}{H:Hp}{E:XK}{us:List YP}{vs:List V}
  (S:cB N l scope) (hd:A.handled=none) (j:p7 P w K mg base A outer s H) (Y:vs.length=l.length) (r:Vals vs us)
  (x:InCallC s s.heap.objs.size (bindL (envOfC d scope s.heap.objs.size f I).kindOf (l.zip us) fun _=>none) (cellsFrom (s.heap.objs.size+1) scope.names []) (bindC (envOfC d scope s.heap.objs.size f I).kindOf (l.zip us) fun _=>none) s1):
  Inv (hX O P w K mg base N d scope f I A outer s H E) [] (start N vs) H s1:=by
 have T:l.length<=N.length:=by have:=congrArg List.length S.pre;rw [Q0]at this;lia
 obtain⟨G,X,rfl,M⟩:=x.done;have m:∀ b:JW,b∉(hX O P w K mg base N d scope f I A outer s H E).ex:=fun b z=>absurd (show b∈([]:List JW)from z) (by simp)
 refine⟨⟨j.mod,S.kind,rfl,rfl,Qk _,fun y z c G g=>?_,fun y o=>?_,fun y c _ h=>?_,fun _=>hd,Around.frames_deeper j.frames,.inr ⟨rfl,rfl⟩,fun b z=>absurd z (m b),j.bs,j.bsz,fun b _ _=>m b,fun b z=>absurd z (m b),j.funs,j.frf⟩,
  rfl,j.bare,Un.kept M,⟨_,x.toInCall.ns,fun i y v G g Z=>?_⟩,fun y c h=>⟨_,x.cell y c h⟩,j.hok.fresh (Qk _),fun y c h=>?_,fun p B=>absurd (show p∈([]:List (JW × Obj))from B) (by simp),j.hok.kept M,?_⟩
 ·exact name_of_addr x.apart (PySem.mem_of_lookup G) (PySem.mem_of_lookup g)
 ·have o:scope.names.lookup y=some .cell ∨ scope.names.lookup y=some .free:=o;rcases o with o | o
  ·exact C5 o
  ·exact absurd rfl (S.nofree _ (PySem.mem_of_lookup o))
 ·exact YE (x.above y c (PySem.mem_of_lookup h))
 ·have F:i<vs.length:=by
   unfold start at g;by_cases F:i<vs.length
   ·exact F
   ·rw [YS (by simpa using F)]at g;rw [YA]at g
    split at g <;> cases g
  have U:vs[i]?=some v:=by
   unfold start at g;rw [YW (by simpa using F),QS]at g
   cases e:vs[i]? with
   | none=>rw [e]at g;cases g
   | some a=>rw [e]at g;cases g;rfl
  obtain⟨u,J,Q⟩:=r.get U
  have B:l[i]?=some y:=by
   rw [<- S.pre,List.getElem?_take_of_lt (by lia)];exact G
  have t:l.Nodup:=by rw [<- S.pre];exact S.nd.sublist (List.take_sublist _ _)
  refine⟨u,Q,?_⟩
  rcases S.par y (QP B)with k | k
  ·exact .inl ⟨k,C2 t B J k⟩
  ·obtain⟨c,e⟩:=C5 (n:=s.heap.objs.size+1) k;refine .inr ⟨.inl k,c,e,?_⟩;have q:=x.cell y c e;rw [C0 t B J (by show scope.names.lookup y≠_;rw [k];decide)]at q;exact q
 ·exact j.hok.fresh (YE (x.above y c (PySem.mem_of_lookup h)))
 ·unfold start
  show _=N.length
  rw [Qf,Ql,List.length_replicate];lia
theorem u5{F:iQ}{P:JZ}{w:J1}{K:PySem.W.Frag}{mg:Str->Option YP}{base:Heap}{k:Nat}{f:JW}{name a:Str}{d:Uu}{g:List Zj}{scope:Zz}{Y kV z X c ct oc:YP}{an od:Option JW}
  {M:Array (Option YP)}{N B:List Str}{sp:Sp} (lk:K.lookup f=some ⟨oc,od,.func (PySem.W.fnOf name a d g scope Y kV z X an c ct),M⟩) (U:PySem.W.codeIn K c a=true) (S:cB N B scope)
  (len:∀ vs H Q E,sp vs H Q E->vs.length=B.length)
  (j:∀(A:Around) (outer:List Env) (s:JV) (H:Hp) (vs:List V) (Q:VK) (E:XK),cT k (A.deeper (envOfC a scope s.heap.objs.size f c))->sp vs H Q E->
   ∃ t,fU (hX F P w K mg base N a scope f c A outer s H E) g t/\t { nx:=fun _ H'=>Q .non H',rt:=Q } (start N vs) H):
  aN P w K mg base F (k+1) f (PySem.W.fnOf name a d g scope Y kV z X an c ct) B sp:=by
 refine⟨len,fun A outer s H Z us vs Q E T p hb r m=>?_⟩
 have hl:=len _ _ _ _ m;have KX:K.In s.heap:=p.mod.kin.keeps fun b o e=>(p.bs b o e).1;have O:s.heap.NoLimit:=p.mod.nolimit.keeps fun b o e=>(p.bs b o e).1
 have i:∀ y∈B.zip us,scope.names.lookup y.1=some .local ∨ (scope.names.lookup y.1=some .cell/\((cellsFrom (s.heap.objs.size+1) scope.names []).lookup y.1).isSome=true):=fun zz hy=>by
  obtain⟨n,v⟩:=zz;rcases S.par n (List.of_mem_zip hy).1 with q | q
  ·exact .inl q
  ·exact .inr ⟨q,PySem.W.cellsFrom_some _ _ _ (.inl q)⟩
 refine codeAny_call_function T.depth (KX _ _ lk) rfl S.co S.gen rfl (PySem.W.codeRec_of KX U) (hb _ _ _ _ ?_);refine wpAny_newFunctionEnv_cells S.kind i fun a0 he s1 x=>?_;subst he
 refine⟨O.keeps x.toInCall.keep,codeAny_func ?_⟩
 obtain⟨t,ht,hq⟩:=j A outer s H vs Q E (T.deeper _) m;have I:Inv (hX F P w K mg base N a scope f c A outer s H E) [] (start N vs) H s1:=ON S T.hd p hl r x;refine YZ (ht [] s1 (start N vs) H _ I hq) (fun fl s' l=>?_) fun e s' l=>l
 have fin:∀{h:St}{H':Hp}{v:V}{u:YP},Inv (hX F P w K mg base N a scope f c A outer s H E) [] h H' s'->RelV v u->Q v H'->CE outer P w H s Q u s':=
  fun{h H' v u} J G q=>⟨v,H',J.os,J.bare,J.base,J.hok,G,q⟩
 cases fl with
 | ret u=>
  obtain⟨v,h,H',J,G,q⟩:=l;exact fin J G q
 | next=>
  obtain⟨h,H',J,q⟩:=l;exact fin (v:=V.non) (u:=J6) J rfl q
 | brk=>
  obtain⟨_,_,_,q⟩:=l;exact Zt q
 | cont=>
  obtain⟨_,_,_,q⟩:=l;exact Zt q
section
variable {X:Cx}{x:Str}{p pos:Pos}{e:Expr}{es:List Expr}{t:TA}{id T:String}{r:List V->Hp->VK->Prop}
def zA(r:List V->Hp->VK->Prop)(t:TA):TE:=fun a H Q=>t a H fun b c=>r b c Q
theorem AN(o:fJ X (.builtin id) r)(n:Gl X x)(m:X.mg x=none)(k:Zb x=some (.builtin id))(q:PA X (e::es) t)(l:x≠"__name__":=by decide)(b:(x == ("__debug__":Str))=false:=by decide)
  (he:JX (e::es) X.env=(false,Zk e X.env)::JX es X.env:=by rfl) (hpl:(Zi pos (JX es X.env)).any (·.1)=false:=by rfl):PE X (.Call (.Name x p) (e::es) [] pos) (zA r t):=by
 intro a s c H Q I h;refine YB (kS I n m k ?_ l b);exact Jq (bA (q pos a s c H _ I h) fun f g ⟨d,v,u,i,j⟩=>o a g c v d f Q u i j) he hpl
theorem AO(o:fJ X (.type T) r)(n:Gl X x)(m:X.mg x=none)(k:Zb x=some (.type T))(q:PA X (e::es) t)(l:x≠"__name__":=by decide)(b:(x == ("__debug__":Str))=false:=by decide)
  (he:JX (e::es) X.env=(false,Zk e X.env)::JX es X.env:=by rfl) (hpl:(Zi pos (JX es X.env)).any (·.1)=false:=by rfl):PE X (.Call (.Name x p) (e::es) [] pos) (zA r t):=by
 intro a s c H Q I h;refine YB (kS I n m k ?_ l b);exact YR (bA (q pos a s c H _ I h) fun f g ⟨d,v,u,i,j⟩=>o a g c v d f Q u i j) he hpl
end
end L2
namespace HT
def lexLt:List Int->List Int->Bool
 | [],[]=>false
 | [],_::_=>true
 | _::_,[]=>false
 | x::xs,y::ys=>if x=y then lexLt xs ys else decide (x<y)
theorem lexLt_cons(x y:Int)(xs a:List Int):lexLt (x::xs) (y::a)=if x=y then lexLt xs a else decide (x<y):=rfl
theorem lexLt_nil_nil:lexLt [] []=false:=rfl
theorem NZ(y:Int)(a:List Int):lexLt [] (y::a)=true:=rfl
theorem NY(x:Int)(xs:List Int):lexLt (x::xs) []=false:=rfl
theorem Np(A:Around)(s:JV)(a:Int)(t:Tok)(c:Int)(u:Tok):∃ e,SeqAt.EqAt A s (.int a t) (.int c u) e/\(e=true ↔ a=c):=
 ⟨(a == c),SeqAt.EqAt.int_int a t c u,by simp⟩
theorem rcLt_int(A:Around)(s:JV)(a:Int)(t:Tok)(c:Int)(u:Tok)(prog:JZ)(w:J1)(E:YP->JV->Prop)(Q:YP->JV->Prop)(h:Q (.bool (decide (a<c))) s):
  JY (J0 prog w) A (UH .Lt (.int a t) (.int c u)) Q E s:=
 (PyProof.Rows.lt_int h:JY (J0 prog w) A (Zc .Lt (.int a t) (.int c u)) Q E s)
section
open PySem.SeqAt
open PySem.AutoSeq1 (wpAny_loadPart')
open PySem.MeetsSeq PySem.MeetsSeq2 PySem.MeetsSeq3
theorem Sw(l b:JW)(i f:Array YP)(n Z:Nat)(dd T:Option JW)(Y O:Array (Option YP))(ns M:List Int)(X:Ue i.toList ns)(W:Ue f.toList M):
  Meets (Builtin.«tuple.__lt__» ⟨[.ref l,.ref b],[]⟩)
   (fun _ R s=>s.heap.get? l=some { cls:=.type "tuple",dict:=dd,data:=.seq i n,slots:=Y }/\s.heap.get? b=some { cls:=.type "tuple",dict:=T,data:=.seq f Z,slots:=O } /\
    R (.ok (.ret (.bool (lexLt ns M)))) s):=
 .of_wp fun v w A R s h=>by
  obtain⟨N,g,d,J,K⟩:=s;obtain⟨hl,hb,h⟩:=h;have f2:=AutoSeq1.sub_tuple_tuple
  have z1:i.size=ns.length:=by rw [<- X.length];simp
  have z2:f.size=M.length:=by rw [<- W.length];simp
  wp_walk using ZJ hl,ZJ hb,Y0 _ (fun r b Q=>b.1=none/\Q=⟨N,g,d,J,K⟩/\∃(I ws:List YP) (k m:List Int),r=I.zip ws /\
   Ue I k/\Ue ws m/\k.length+f.size=m.length+i.size/\R (.ok (.ret (.bool (lexLt k m)))) ⟨N,g,d,J,K⟩) _
  case turn=>
   rintro⟨y,x⟩ r b Q ⟨F,rfl,I,ws,k,m,o,E,p,j,B⟩
   cases E with
   | nil=>rw [List.zip_nil_left]at o;cases o
   | cons a t H=>
    cases p with
    | nil=>rw [List.zip_nil_right]at o;cases o
    | cons c u G=>
     rw [Jx]at o
     injection o with hyx hrest
     injection hyx with hy hx
     subst hy hx;rw [lexLt_cons]at B;simp only [QE]at j;obtain⟨e,he,z⟩:=Np A.in1 ⟨N,g,d,J,K⟩ a t c u;refine Qa (he v w _ _ ?_)
     cases e with
     | true=>
      rw [if_pos (z.mp rfl)]at B
      wp_walk
      exact⟨rfl,rfl,_,_,_,_,hrest,H,G,by lia,B⟩
     | false=>
      rw [if_neg (fun q=>absurd (z.mpr q) QA)]at B;have S:=rcLt_int A.in1 ⟨N,g,d,J,K⟩ a t c u v w
      wp_walk using S
      exact⟨_,rfl,by simpa using B⟩
  case fin=>
   rintro⟨b1,b2⟩ Q ⟨F,rfl,I,ws,k,m,o,E,p,j,B⟩
   simp only at F
   subst F
   have U:lexLt k m=decide (i.size<f.size):=by
    cases E with
    | nil=>
     cases p with
     | nil=>
      simp only [Y9]at j;rw [lexLt_nil_nil]
      exact(decide_eq_false (by lia)).symm
     | cons c u hw=>
      simp only [Y9,QE]at j;rw [NZ]
      exact(decide_eq_true (by lia)).symm
    | cons a t U=>
     cases p with
     | nil=>
      simp only [Y9,QE]at j;rw [NY]
      exact(decide_eq_false (by lia)).symm
     | cons c u hw=>
      rw [Jx]at o;cases o
   rw [U]at B
   wp_walk
   exact⟨_,rfl,by simpa [Builtin.Tuple.tupleCompareSizes]using B⟩
  case h=>
   exact⟨rfl,rfl,i.toList,f.toList,ns,M,rfl,X,W,by lia,h⟩
end
section
variable {prog:JZ}{w:J1}{A:Around}{E:YP->JV->Prop}{s:JV}
theorem lt_tupInts{l b:JW}{c a:Array YP}{ns d:List Int}{Q:YP->JV->Prop}(v:IsTup s.heap l c)(B:IsTup s.heap b a)(z:Ue c.toList ns)(y:Ue a.toList d)
  (u:A.units<Za) (h:Q (.bool (lexLt ns d)) s):JY (J0 prog w) A (Zc .Lt (.ref l) (.ref b)) Q E s:=by
 obtain⟨⟨G,dd,p,r⟩,m,o,n,hd⟩:=id v;obtain⟨⟨q,j,k,i⟩,e,g,t,f⟩:=id B
 simp only at o hd g f
 subst o hd g f
 exact richCompare_meets_room (op:=.Lt) ⟨_,m,rfl⟩ ⟨_,e,rfl⟩ PySem.F.slot_tuple_lt PySem.F.entry_tuple_lt (PySem.F.args_tuple_lt_2 _ _) (Sw l b c a n t dd j r i ns d z y)
  ⟨m,e,show Value.bool (lexLt ns d)≠Value.notImplemented/\Q (.bool (lexLt ns d)) s from⟨(fun x=>nomatch x),h⟩⟩ u
theorem cat_tup{t b:JW}{vs ws:List YP}{Q:YP->JV->Prop}(q:IsTup s.heap t vs.toArray)(r:IsTup s.heap b ws.toArray)(m:vs≠[])
  (v:ws=[]->Q (.ref t) s) (u:ws≠[]->Q (.ref s.heap.objs.size) { s with heap:=s.heap.push { cls:=.type "tuple",data:=.seq (vs++ws).toArray } })
  (hsz:vs.length+ws.length<=sizeLine):JY (J0 prog w) A (Zs .Add (.ref t) (.ref b)) Q E s:=by
 obtain⟨⟨cls,dd,data,k⟩,i,o,n,hd⟩:=id q;obtain⟨⟨p,g,j,c⟩,a,f,l,d⟩:=id r
 simp only at o hd f d
 subst o hd f d
 have e:vs.toArray++ws.toArray=(vs++ws).toArray:=by simp
 by_cases h:ws=[]
 ·exact concat_meets ⟨_,i,rfl⟩ ⟨_,a,rfl⟩ noFill_tuple_add seq_tuple_add PySem.F.slot_tuple_add PySem.F.entry_tuple_add (PySem.F.args_tuple_add_2 _ _)
   (tuple_addW1 t b vs.toArray ws.toArray n l dd g k c (by simpa using m) (by simp [h])) ⟨i,a,v h⟩
 ·refine concat_meets ⟨_,i,rfl⟩ ⟨_,a,rfl⟩ noFill_tuple_add seq_tuple_add PySem.F.slot_tuple_add PySem.F.entry_tuple_add (PySem.F.args_tuple_add_2 _ _)
   (tuple_addW2 t b vs.toArray ws.toArray n l dd g k c (by simpa using m) (by simpa using h) (by rw [QH,QH];exact hsz)) ⟨i,a,?_⟩
  rw [e];exact u h
def sIx(n d:Nat):Option Int->Nat
 | none=>d
 | some v=>if v<0 then(v+(n:Int)).toNat else min v.toNat n
theorem sIx_none(n d:Nat):sIx n d none=d:=rfl
theorem sIx_nat(n d k:Nat):sIx n d (some (k:Int))=min k n:=by
 show(if(k:Int)<0 then((k:Int)+(n:Int)).toNat else min (k:Int).toNat n)=min k n
 rw [if_neg (by lia),Y5]
theorem TJ(n d:Nat)(hd:d<=n)(o:Option Int):sIx n d o<=n:=by
 cases o with
 | none=>exact hd
 | some v=>
  show(if v<0 then(v+(n:Int)).toNat else min v.toNat n)<=n
  by_cases a:v<0
  ·rw [if_pos a];lia
  ·rw [if_neg a];exact Nat.min_le_right _ _
theorem sb1{i:Int}{n:Nat}(h:i<0):max 0 (min (i+(n:Int)) (n:Int))=(((i+(n:Int)).toNat:Nat):Int):=by
 rw [Int.min_eq_left (by lia),Int.max_comm,<- Int.ofNat_toNat]
theorem CN{i:Int}{n:Nat}(h:¬ i<0):min i (n:Int)=((min i.toNat n:Nat):Int):=by
 obtain⟨k,rfl⟩:=Int.eq_ofNat_of_zero_le (Int.not_lt.mp h);rw [Y5];by_cases c:k<=n
 ·rw [Nat.min_eq_left c,Int.min_eq_left (Int.ofNat_le.mpr c)]
 ·rw [Nat.min_eq_right (Nat.le_of_not_le c),Int.min_eq_right (Int.ofNat_le.mpr (Nat.le_of_not_le c))]
theorem sb2{i:Int}{n:Nat}(h:¬ i<0):max 0 (min i (n:Int))=((min i.toNat n:Nat):Int):=by
 rw [CN h,Int.max_eq_right (Jh _)]
theorem Lo{i:Int}{n:Nat}:max (i+(n:Int)) 0=(((i+(n:Int)).toNat:Nat):Int):=(Int.ofNat_toNat _).symm
theorem Ew(v:Int)(n d:Nat):(if v<0 then max (v+(n:Int)) 0 else min v (n:Int))=((sIx n d (some v):Nat):Int):=by
 show(if v<0 then max (v+(n:Int)) 0 else min v (n:Int))=(((if v<0 then(v+(n:Int)).toNat else min v.toNat n):Nat):Int)
 by_cases a:v<0
 ·simp only [if_pos a];exact Lo
 ·simp only [if_neg a];exact CN a
theorem Mx(a b:Option Int)(n:Nat):Z0 a b 1 (n:Int)=(((sIx n 0 a:Nat):Int),((sIx n n b:Nat):Int)):=by
 have c:¬ ((1:Int)<0):=by lia
 unfold Z0;simp only [c,if_false];refine YX ?_ ?_
 ·cases a with
  | none=>rfl
  | some v=>exact Ew v n 0
 ·cases b with
  | none=>rfl
  | some v=>exact Ew v n n
theorem Rt(i j:Nat):ZH (i:Int) (j:Int) 1=j-i:=by
 unfold ZH
 have a:(1:Int) > 0:=by lia
 simp only [a,if_true,Int.ediv_one]
 split <;> lia
theorem Gx{v:YP}{o:Option Int}{Q:Option Int->JV->Prop}(p:U0 v o)(h:Q o s):JY (J0 prog w) A (Builtin.Slice.slicePartIndex v) Q E s:=by
 cases p with
 | none=>exact slicePart_none h
 | int i t=>exact slicePart_int h
theorem Gw{g:JW}{f e:YP}{a c:Option Int}{n:Nat}{Q:Int × Int × Nat->JV->Prop}(hs:s.heap.IsSliceOf g f e .none)(j:U0 f a)(i:U0 e c)
  (h:Q (((sIx n 0 a:Nat):Int),1,sIx n n c-sIx n 0 a) s):JY (J0 prog w) A (Builtin.Slice.sliceApplied (.ref g) (pure (n:Int))) Q E s:=by
 obtain⟨l,b,k,d⟩:=id hs;unfold Builtin.Slice.sliceApplied Builtin.Slice.sliceFields;refine Qa (Qa (YQ b d (x:=f) rfl (Qa (YQ b d (x:=e) rfl (Qa (YQ b d (x:=.none) rfl (Qb ?_)))))));refine Qa (slicePart_none ?_)
 show JY _ _ (if((1:Int) == 0)=true then _ else _) _ _ s
 rw [if_neg (by decide)];refine Qa (Gx j (Qa (Gx i (Qa (Qb ?_)))))
 show JY _ _ (match Z0 a c 1 (n:Int)with | (a,c)=>pure (a,(1:Int),ZH a c 1)) _ _ s
 rw [Mx a c n]
 show JY _ _ (pure (((sIx n 0 a:Nat):Int),(1:Int),ZH ((sIx n 0 a:Nat):Int) ((sIx n n c:Nat):Int) 1)) _ _ s
 rw [Rt];exact Qb h
theorem Rs(xs:Array YP)(i k:Nat):((List.range k).filterMap fun(m:Nat)=>xs[((i:Int)+(m:Int) * 1).toNat]?).toArray=((xs.toList.drop i).take k).toArray:=by
 have e:(fun(m:Nat)=>xs[((i:Int)+(m:Int) * 1).toNat]?)=fun m=>xs[i+m]?:=by
  funext m
  have:((i:Int)+(m:Int) * 1).toNat=i+m:=by lia
  rw [this]
 rw [e]
 have:=pick_run xs i k
 rw [List.filterMap_map]at this;have a:((fun x=>xs[x]?) ∘ fun x=>i+x)=fun m=>xs[i+m]?:=rfl;rw [a]at this;rw [this]
theorem getItem_tuple_cut{t f:JW}{a:Array YP}{n l:YP}{c d:Option Int}{Q:YP->JV->Prop}(e:IsTup s.heap t a)(hs:s.heap.IsSliceOf f n l .none)(p:U0 n c)(o:U0 l d)
  (u:¬ (sIx a.size 0 c=0/\sIx a.size a.size d=a.size))
  (h:Q (.ref s.heap.objs.size) { s with heap:=s.heap.push { cls:=.type "tuple",data:=.seq ((a.toList.drop (sIx a.size 0 c)).take (sIx a.size a.size d-sIx a.size 0 c)).toArray } })
  (hsz:a.size<=sizeLine):JY (J0 prog w) A (getItem (.ref t) (.ref f)) Q E s:=by
 have b:sizeOk (.seq ((a.toList.drop (sIx a.size 0 c)).take (sIx a.size a.size d-sIx a.size 0 c)).toArray):=by
  show((a.toList.drop (sIx a.size 0 c)).take (sIx a.size a.size d-sIx a.size 0 c)).toArray.size<=sizeLine
  rw [QH,Q0,YG,Qs];lia
 have z:sIx a.size a.size d<=a.size:=TJ _ _ (Qk _) d;obtain⟨r,g,j,v⟩:=id hs;have k:s.TypeIs (.ref f) "slice":=⟨r,g,j⟩;unfold getItem
 try with_reducible refine Q7 ?_
 first | refine Qa (Qb ?_) | skip
 refine Qa (wpAny_sequenceKey e.typeIs (by decide) ?_)
 refine Qa (Yp (name:=Zu "__getitem__") e.typeIs YV
  (Yc YV e.typeIs entry_tuple_getitem ?_ (args_tuple_getitem _ _)))
 show JY _ _ (Builtin.Tuple.tupleItemsOf (.ref t) >>= _) _ _ s
 refine Qa (tupleItemsOf_ e ?_);refine Qa (Y2 k ?_);rw [if_pos (by decide)];refine Qa (Gw hs p o ?_)
 have i:¬ ((((sIx a.size 0 c:Nat):Int) == 0 && (1:Int) == 1 && (sIx a.size a.size d-sIx a.size 0 c) == a.size)=true):=by
  intro q;rw [Qy,Qy]at q;have y:((sIx a.size 0 c:Nat):Int)=0:=Yv q.1.1;have x:sIx a.size a.size d-sIx a.size 0 c=a.size:=Yv q.2;exact u ⟨by lia,by lia⟩
 show JY _ _ (if(((sIx a.size 0 c:Nat):Int) == 0 && (1:Int) == 1 && (sIx a.size a.size d-sIx a.size 0 c) == a.size)=true then _ else _) _ _ s
 rw [if_neg i,Rs]
 first
  | exact Qa (m:=ZK _) (Yd (Qb ⟨_,rfl,Qb h⟩) b)
  | exact Qa (m:=ZK _) (Yd (Qa (Qb (Qb ⟨_,rfl,Qb h⟩))) b)
  | exact Qa (Qa (m:=ZK _) (Yd (Qb (Qb ⟨_,rfl,Qb h⟩)) b))
  | exact Qa (Qa (m:=ZK _) (Yd (Qb ⟨_,rfl,Qb h⟩) b))
end
end HT
namespace L2
open PySem.Spec
abbrev TO:=St->Hp->(Option Int->Hp->Prop)->Prop
def PO(X:Cx)(e:Option Expr)(t:TO):Prop:=
 ∀(pins:List (JW × Obj)) (s:JV) (σ:St) (H:Hp) (Q:Option Int->Hp->Prop),Inv X pins σ H s->t σ H Q->
  JY (J0 X.prog X.w) X.A (evalPart e X.env) (fun u a=>∃ o H',Inv X pins σ H' a/\U0 u o/\Q o H') X.xe s
def Th:TO:=fun _ H Q=>Q none H
def L7(t:TE):TO:=fun a H Q=>t a H fun x b=>∃ i,x=.int i/\Q (some i) b
section
variable {X:Cx}{e:Expr}{te:TE}{lo hi:Option Expr}{tl th:TO}{pos p2:Pos}
theorem Rv:PO X none Th:=by
 intro a s b H Q I h;rw [evalPart_none];exact Qb ⟨none,H,I,.none,h⟩
theorem Rw(h:PE X e te):PO X (some e) (L7 te):=by
 intro a s b H Q I g;rw [evalPart_some];refine bA (h a s b H _ I g) fun u l c=>?_;obtain⟨x,k,j,d,f⟩:=c;obtain⟨i,rfl,q⟩:=f;obtain⟨t,rfl⟩:=d
 exact⟨some i,k,j,.int i t,q⟩
def lF(X:Cx)(r:V->Option Int->Option Int->Hp->VK->Prop):Prop:=
 ∀(pins:List (JW × Obj)) (s:JV) (σ:St) (H:Hp) (x:V) (v vl vu:YP) (lo hi:Option Int) (sl:JW) (Q:VK),Inv X pins σ H s->RelV x v->s.heap.IsSliceOf sl vl vu .none->U0 vl lo->U0 vu hi->r x lo hi H Q->
  ∃ T id,typeLookup (.type T) "__getitem__"=pure (some (.builtin id))/\s.TypeIs v T/\JY (J0 X.prog X.w) X.A (getItem v (.ref sl)) (EP X pins σ Q) X.xe s
theorem lF.or{r g:V->Option Int->Option Int->Hp->VK->Prop}(h:lF X r)(h':lF X g):lF X (fun x lo hi H Q=>r x lo hi H Q ∨ g x lo hi H Q):=by
 intro a s b H x v d c lo hi e Q I f k j i q;rcases q with q | q
 ·exact h a s b H x v d c lo hi e Q I f k j i q
 ·exact h' a s b H x v d c lo hi e Q I f k j i q
def Mb(r:V->Option Int->Option Int->Hp->VK->Prop)(te:TE)(b c:TO):TE:=fun a H Q=>te a H fun x f=>b a f fun l e=>c a e fun u d=>r x l u d Q
theorem Sj{r:V->Option Int->Option Int->Hp->VK->Prop}(F:lF X r)(he:PE X e te)(G:PO X lo tl)(B:PO X hi th):PE X (.Subscript e (.Slice lo hi none p2) pos) (Mb r te tl th):=by
 intro a s d H Q I h;refine Subscript_ (bA (he a s d H _ I h) fun v m i=>?_);obtain⟨x,U,O,n,t⟩:=i;refine wpAny_Slice (bA (G a m d U _ O t) fun g k ⟨l,S,N,z,p⟩=>bA (B a k d S _ N p) fun f c i=>?_);obtain⟨u,j,I3,y,o⟩:=i;rw [evalPart_none];refine Qb ?_;have M:Inv X a d j { c with heap:=c.heap.push { cls:=.type "slice",data:=.fields #[g,f,.none] } }:=I3.kept (t':=c.toks) fun b W q=>Qc _ q;obtain⟨T,id,K,E,J⟩:=F a { c with heap:=c.heap.push { cls:=.type "slice",data:=.fields #[g,f,.none] } } d j x v g f l u c.heap.objs.size Q M n (Heap.IsSliceOf.new ..) z y o
 show JY (J0 X.prog X.w) X.A (UB e (.Slice lo hi none p2) v (.ref c.heap.objs.size)) (EP X a d Q) X.xe { c with heap:=c.heap.push { cls:=.type "slice",data:=.fields #[g,f,.none] } }
 exact tail_any (ops:=[.ref c.heap.objs.size,v]) E K J (by with_unfolding_all rfl)
def lH(xs:List V)(a b:Option Int):List V:=(xs.drop (HT.sIx xs.length 0 a)).take (HT.sIx xs.length xs.length b-HT.sIx xs.length 0 a)
theorem EA(xs:List V)(a b:Option Int):(lH xs a b).length<=xs.length:=by
 unfold lH;rw [Q0,YG];lia
def Lk(K:PySem.W.Frag):V->Option Int->Option Int->Hp->VK->Prop:=fun x b c H Q=>∃ a xs,x=.ref a/\bQ K H a xs /\
 ¬ (HT.sIx xs.length 0 b=0/\HT.sIx xs.length xs.length c=xs.length)/\∀ p,H p=none->Q (.ref p) (aP H p (.tup (lH xs b c)))
theorem SH:lF X (Lk X.K):=by
 intro i s w H x v z y e g A Q I l u n m h;obtain⟨a,d,rfl,p,t,q⟩:=h;cases l;obtain⟨f,r,k,j⟩:=I.tuple p
 have c:f.toArray.size=d.length:=by rw [QH];exact r.length.symm
 refine⟨"tuple",_,YV.lookup,k.typeIs,?_⟩
 refine HT.getItem_tuple_cut k u n m (by rw [c];exact t) ?_ (by rw [c];exact j);rw [c]
 refine⟨.ref s.heap.objs.size,_,I.laid (t':=s.toks) (o:=.tup (lH d e g)) (fun b B q=>Qc _ q) (Qk _) ?_,rfl,q _ (I.hok.fresh (Qk _))⟩
 exact⟨Qv (EA d e g) j,_,(r.drop (HT.sIx d.length 0 e)).take (HT.sIx d.length d.length g-HT.sIx d.length 0 e),IsTup.new _ _⟩
def Ld(K:PySem.W.Frag):R2:=fun x y H Q=>∃ a b xs ys,x=.ref a/\y=.ref b/\bQ K H a xs/\bQ K H b ys/\xs≠[]/\xs.length+ys.length<=sizeLine /\
 (ys=[]->Q (.ref a) H)/\(ys≠[]->∀ p,H p=none->Q (.ref p) (aP H p (.tup (xs++ys))))
theorem Vals.nil_iff{xs:List V}{us:List YP}(r:Vals xs us):us=[] ↔ xs=[]:=by
 cases r with
 | nil=>simp
 | cons _ _=>simp
theorem OZ:bN X (Zs .Add) (Ld X.K):=by
 intro e s F H x y v u Q I l k h;obtain⟨a,b,j,i,rfl,rfl,E,B,A,g,n,m⟩:=h;cases l;cases k;obtain⟨t,d,r,_⟩:=I.tuple E;obtain⟨f,c,p,_⟩:=I.tuple B;refine HT.cat_tup r p (fun z=>A (d.nil_iff.mp z)) (fun z=>⟨.ref a,H,I,rfl,n (c.nil_iff.mp z)⟩) (fun z=>?_) (by rw [<- d.length,<- c.length];exact g)
 refine⟨.ref s.heap.objs.size,_,I.laid (t':=s.toks) (o:=.tup (j++i)) (fun b G q=>Qc _ q) (Qk _) ?_,rfl,m (fun w=>z (c.nil_iff.mpr w)) _ (I.hok.fresh (Qk _))⟩
 exact⟨by rw [Qf];exact g,_,d.append c,IsTup.new _ _⟩
end
def ixN(n:Nat)(i:Int):Option Nat:=if 0<=i then(if i<n then some i.toNat else none)else if -(n:Int)<=i then some (i+n).toNat else none
def atI{α:Type}(xs:List α)(i:Int):Option α:=(ixN xs.length i).bind fun j=>xs[j]?
theorem N7{n:Nat}{i:Int}{j:Nat}(h:ixN n i=some j):seqIndex? i n=some j/\j<n/\-(n:Int)<=i/\i<n:=by
 unfold ixN at h;by_cases b:0<=i
 ·rw [if_pos b]at h;by_cases a:i<n
  ·rw [if_pos a]at h;have e:i.toNat=j:=QJ h
   exact⟨by rw [seqIndex_of b a,e],by lia,by lia,a⟩
  ·rw [if_neg a]at h;cases h
 ·rw [if_neg b]at h;by_cases a:-(n:Int)<=i
  ·rw [if_pos a]at h;have e:(i+n).toNat=j:=QJ h
   exact⟨by rw [seqIndex_neg (by lia) a,e],by lia,a,by lia⟩
  ·rw [if_neg a]at h;cases h
theorem Dx{a:Type}{xs:List a}{i:Int}{v:a}(h:atI xs i=some v):∃ j,seqIndex? i xs.length=some j/\xs[j]?=some v/\j<xs.length/\-(xs.length:Int)<=i/\i<xs.length:=by
 unfold atI at h
 cases e:ixN xs.length i with
 | none=>rw [e]at h;cases h
 | some j=>
  rw [e]at h;obtain⟨f,d,c,b⟩:=N7 e
  exact⟨j,f,h,d,c,b⟩
def vQ(b:Expr):Prop:=∀ o i,UV b false o i=operate [o,i] (getItem o i)
def hE(X:Cx)(r:R2):Prop:=
 ∀(value slice:Expr) (pins:List (JW × Obj)) (s:JV) (σ:St) (H:Hp) (x y:V) (v u:YP) (Q:VK),Inv X pins σ H s->RelV x v->RelV y u->r x y H Q->
  UV slice false v u=operate [v,u] (getItem v u)->JY (J0 X.prog X.w) X.A (UB value slice v u) (EP X pins σ Q) X.xe s
def xF(X:Cx)(id:String)(r:V->List V->Hp->VK->Prop):Prop:=
 ∀(pins:List (JW × Obj)) (s:JV) (σ:St) (H:Hp) (x:V) (xs:List V) (v:YP) (us:List YP) (Q:VK),Inv X pins σ H s->RelV x v->Vals xs us->r x xs H Q->
  JY (J0 X.prog X.w) X.A (call (.builtin id) (v::us)) (EP X pins σ Q) X.xe s
section
variable {X:Cx}{a b:Expr}{ta tb:TE}{pos:Pos}
theorem hE.or{r g:R2}(h:hE X r)(h':hE X g):hE X (fun x y H Q=>r x y H Q ∨ g x y H Q):=by
 intro a b c s d H x y v u Q I f e q i;rcases q with q | q
 ·exact h a b c s d H x y v u Q I f e q i
 ·exact h' a b c s d H x y v u Q I f e q i
theorem AQ{r:R2}(i:hE X r)(k:PE X a ta)(j:PE X b tb)(hs:vQ b):PE X (.Subscript a b pos) (qU r ta tb):=by
 intro c s d H Q I h;exact Subscript_ (xT k j I h fun v u e x y m l g f q=>i a b c e d m x y v u Q l g f q (hs _ _))
def Lg(K:PySem.W.Frag):R2:=fun x y H Q=>∃ p xs i v,x=.ref p/\y=.int i/\cN K H p xs/\atI xs i=some v/\Q v H
def Lh(K:PySem.W.Frag):R2:=fun x y H Q=>∃ p xs i v,x=.ref p/\y=.int i/\bQ K H p xs/\atI xs i=some v/\Q v H
theorem N8:hE X (Lg X.K):=by
 intro c d a s l H x y v u Q I E B h m;obtain⟨p,S,i,z,rfl,rfl,F,J,q⟩:=h;cases E;obtain⟨t,rfl⟩:=B;obtain⟨g,r,f,T⟩:=I.list F;obtain⟨j,b,O,W,N,M⟩:=Dx J;obtain⟨w,o,e⟩:=r.get O;have G:=r.length;have U:=uK;have fin:EP X a l Q w s:=⟨z,H,I,e,q⟩;by_cases n:0<=i
 ·have k:i.toNat=j:=by
   rw [seqIndex_of n M]at b;exact QJ b
  exact item_listR f.isList n (by lia) (by rw [k];simpa using o) fin m
 ·have k:(i+(g.toArray.size:Int)).toNat=j:=by
   rw [seqIndex_neg (by lia) N]at b;rw [QH,<- G];exact QJ b
  exact subscriptTail_builtinR (x:=w) f.isList.typeIs slot_list_getitem.lookup
   (wpAny_getItem_list_neg (Q:=fun r A=>r=w/\EP X a l Q r A) f.isList (by lia) (by rw [QH] <;> lia) (by lia) (by rw [k];simpa using o) ⟨rfl,fin⟩) m
theorem Ob:hE X (Lh X.K):=by
 intro b c a s e H x y v u Q I l k h n;obtain⟨p,J,i,z,rfl,rfl,o,B,q⟩:=h;cases l;obtain⟨t,rfl⟩:=k;obtain⟨m,r,f,M⟩:=I.tuple o;obtain⟨j,F,E,T,S,O⟩:=Dx B;obtain⟨w,G,d⟩:=r.get E;have A:=r.length;have N:=uK;have fin:EP X a e Q w s:=⟨z,H,I,d,q⟩
 exact subscriptTail_builtinR (x:=w) f.typeIs slot_tuple_getitem.lookup
  (getItem_tuple (j:=j) (Q:=fun r g=>r=w/\EP X a e Q r g) f (by lia) (by lia) (by rw [QH,<- A];exact F) (by simpa using G) ⟨rfl,fin⟩) n
theorem SJ(a b:Option Int)(n:Nat):(Uc a b none n).1=((HT.sIx n 0 a:Nat):Int)/\(Uc a b none n).2.1=((HT.sIx n n b:Nat):Int)/\(Uc a b none n).2.2=1:=by
 refine⟨?_,?_,rfl⟩
 ·cases a with
  | none=>simp [Uc,HT.sIx]
  | some i=>
   simp only [Uc,HT.sIx,Option.getD_none,show(1:Int) > 0 by decide,if_true];by_cases h:i<0
   ·simp only [h,if_true];exact HT.sb1 h
   ·simp only [h,if_false];exact HT.sb2 h
 ·cases b with
  | none=>simp [Uc,HT.sIx]
  | some i=>
   simp only [Uc,HT.sIx,Option.getD_none,show(1:Int) > 0 by decide,if_true];by_cases h:i<0
   ·simp only [h,if_true];exact HT.sb1 h
   ·simp only [h,if_false];exact HT.sb2 h
theorem SI(a:List YP)(b c:Option Int):slicePick a.toArray b c none=((a.drop (HT.sIx a.length 0 b)).take (HT.sIx a.length a.length c-HT.sIx a.length 0 b)).toArray:=by
 obtain⟨f,e,d⟩:=SJ b c a.toArray.size;unfold slicePick;rw [f,e,d]
 simp only [sliceRange_one,pick_run,QH] <;> rfl
def Lj(K:PySem.W.Frag):V->Option Int->Option Int->Hp->VK->Prop:=fun x b c H Q=>∃ a xs,x=.ref a/\cN K H a xs/\∀ p,H p=none->Q (.ref p) (aP H p (.lst (lH xs b c)))
theorem T4:lF X (Lj X.K):=by
 intro g s u H x v y w e f z Q I j t l k h;obtain⟨a,c,rfl,p,q⟩:=h;cases j;obtain⟨m,r,i,n⟩:=I.list p;have d:=r.length
 refine⟨"list",_,slot_list_getitem.lookup,i.isList.typeIs,?_⟩
 refine wpAny_getItem_list_slice i.isList t l k .none (by simp) ?_ (by rw [QH] <;> lia);rw [SI,<- d]
 refine⟨.ref s.heap.objs.size,_,I.laid (t':=s.toks) (o:=.lst (lH c e f)) (fun b A q=>Qc _ q) (Qk _) ?_,rfl,q _ (I.hok.fresh (Qk _))⟩
 exact⟨Qv (EA c e f) n,_,0,(r.drop (HT.sIx c.length 0 e)).take (HT.sIx c.length c.length f-HT.sIx c.length 0 e),Qt _ rfl⟩
theorem Mm:fJ X (.builtin "len") (fun xs H Q=>∃ p ys,xs=[.ref p]/\(cN X.K H p ys ∨ bQ X.K H p ys)/\Q (.int ys.length) H):=by
 intro f s j H xs k Q I r h;obtain⟨p,ys,rfl,b,q⟩:=h;obtain⟨u,rfl,g⟩:=i4 r;cases g;have l:=uK;rcases b with b | b
 ·obtain⟨e,c,d,i⟩:=I.list b;have a:=c.length;exact Calls.call_len_list d.isList (by simp only [QH] <;> lia) ⟨.int ys.length,H,I.tok _,⟨s.toks+1,by rw [QH,a]⟩,q⟩
 ·obtain⟨e,c,d,i⟩:=I.tuple b;have a:=c.length;exact len_tuple d (by simp only [QH] <;> lia) ⟨.int ys.length,H,I.tok _,⟨s.toks+1,by rw [QH,a]⟩,q⟩
theorem Mn:fJ X (.builtin "len") (fun xs H Q=>∃ z,xs=[.str z]/\z.length<=sizeLine/\Q (.int z.length) H):=by
 intro a s b H xs c Q I r h;obtain⟨z,rfl,d,q⟩:=h;obtain⟨u,rfl,t,rfl⟩:=i4 r;have e:=uK;exact len_str (by lia) ⟨.int z.length,H,I.tok _,⟨_,rfl⟩,q⟩
theorem Mq:fJ X (.type "tuple") (fun xs H Q=>∃ p ys,xs=[.ref p]/\((cN X.K H p ys/\∀ l,H l=none->Q (.ref l) (aP H l (.tup ys))) ∨ (bQ X.K H p ys/\Q (.ref p) H))):=by
 intro a s j H xs x Q I r h;obtain⟨p,ys,rfl,h⟩:=h;obtain⟨u,rfl,n⟩:=i4 r;cases n;rcases h with⟨i,q⟩ | ⟨i,q⟩
 ·obtain⟨c,f,g,k⟩:=I.list i;have m:=f.length;refine call_tuple_list g.isList (fun d t=>?_) (by simp only [QH] <;> lia);have I1:Inv X a j H { s with heap:=d }:=I.kept (t':=s.toks) t
  have v:Inv X a j (aP H d.objs.size (.tup ys)) { s with heap:=d.push { cls:=.type "tuple",data:=.seq c.toArray } }:=
   I1.laid (t':=s.toks) (fun b o e=>Qc _ e) (Qk _) (show gF X.prog X.w _ _ _ (.tup ys)from⟨k,c,f,IsTup.new _ _⟩)
  exact⟨.ref d.objs.size,_,v,rfl,q _ (I1.hok.fresh (Qk _))⟩
 ·obtain⟨c,f,g,k⟩:=I.tuple i;exact call_tuple_same g ⟨.ref p,H,I,rfl,q⟩
def CV(K:PySem.W.Frag)(T:String)(x:V)(H:Hp):Prop:=match x with
 | .str _=>T="str"
 | .int _=>T="int"
 | .ref p=>(T="list"/\∃ xs,cN K H p xs) ∨ (T="tuple"/\∃ o,K.lookup p=some o/\o.cls=.type "tuple"/\o.dict=none) ∨
   (T="dict"/\((∃ kvs,H p=some (.dK kvs)) ∨ ∃ kvs,H p=some (.dT kvs))) ∨ (T="set"/\∃ S n,H p=some (.set S n))
 | _=>False
theorem U3{pins:List (JW × Obj)}{j:St}{H:Hp}{s:JV}{T:String}{x:V}{v:YP}(I:Inv X pins j H s)(r:RelV x v)(ty:CV X.K T x H):
  s.TypeIs v T/\∀ a,v=.ref a->∃ ob,s.heap.get? a=some ob/\ob.dict=none:=by
 cases x with
 | str z=>
  obtain⟨t,rfl⟩:=r
  cases(show T="str" from ty)
  exact⟨typeIs_str s z t,fun _ e=>nomatch e⟩
 | int i=>
  obtain⟨t,rfl⟩:=r
  cases(show T="int" from ty)
  exact⟨typeIs_int s i t,fun _ e=>nomatch e⟩
 | ref p=>
  cases r;rcases ty with⟨rfl,q,l⟩ | ⟨rfl,o,b,m,hd⟩ | ⟨rfl,b⟩ | ⟨rfl,S,n,b⟩
  ·obtain⟨k,_,h,_⟩:=I.list l
   refine⟨h.isList.typeIs,fun a e=>?_⟩
   cases e;obtain⟨o,n,e,c,hd,_⟩:=h
   exact⟨o,e,hd⟩
  ·refine⟨⟨o,I.kIn p o b,m⟩,fun a e=>?_⟩
   cases e
   exact⟨o,I.kIn _ o b,hd⟩
  ·have z:∃ o,s.heap.get? p=some o/\o.ExactDict:=by
    rcases b with⟨f,b⟩ | ⟨f,b⟩
    ·obtain⟨_,_,_,_,o,_,_,e,d,_⟩:=I.hok p _ b
     exact⟨o,e,d⟩
    ·obtain⟨_,_,_,_,o,_,_,e,d,_⟩:=I.hok p _ b
     exact⟨o,e,d⟩
   obtain⟨o,e,d⟩:=z
   refine⟨⟨o,e,d.1⟩,fun a g=>?_⟩
   cases g
   exact⟨o,e,d.2.1⟩
  ·obtain⟨o,_,_,_,e,d,_⟩:=I.hok p _ b
   refine⟨⟨o,e,d.1⟩,fun a g=>?_⟩
   cases g
   exact⟨o,e,d.2.1⟩
 | _=>exact Zt ty
def LP(K:PySem.W.Frag)(T:String)(r:V->List V->Hp->VK->Prop)(to:TE)(t:TA):TE:=fun a H Q=>to a H fun x b=>CV K T x b/\t a b fun c d=>r x c d Q
variable {o e:Expr}{es:List Expr}{to:TE}{t:TA}{name:Str}{apos cpos:Pos}{T id:String}{r:V->List V->Hp->VK->Prop}
theorem Hm(A:PlainAttrs T)(slot:Slot T name id)(i:typeOf (.builtin id)=pure (.type "method_descriptor"))(E:xF X id r)(B:PE X o to)(F:PA X (e::es) t)
  (d:UC o name X.env (Zk o X.env)=Zk o X.env:=by rfl)
  (f:((Zi cpos (JX (e::es) X.env)).all (fun x => !x.1) && (backToKw cpos (UW [] X.env)).all (fun x=>x.1.isSome)
   && decide ((e::es).length+([]:List UA).length+(if([]:List UA).isEmpty then 0 else 1)<30))=true:=by rfl)
  (c:(apos.endLine == cpos.line)=true:=by rfl) (hs:JX (e::es) X.env=(false,Zk e X.env)::JX es X.env:=by rfl) (b:(Zi cpos (JX es X.env)).any (·.1)=false:=by rfl):
  PE X (.Call (.Attribute o name apos) (e::es) [] cpos) (LP X.K T r to t):=by
 intro a s g H Q I h;refine wpAny_Call_method_late d f c rfl (bA (B a s g H _ I h) fun v u m=>?_);obtain⟨x,O,l,j,ty,z⟩:=m;obtain⟨J,G⟩:=U3 l j ty
 refine⟨T,id,A,slot,i,J,G,?_⟩
 have k:=F cpos a u g O _ l z;rw [hs]at k ⊢;refine Calls.callWith_builtin (by show(false || (Zi cpos (JX es X.env)).any (·.1))=false;rw [b] <;> rfl) (JI ?_);exact bA k fun p q ⟨n,N,M,w,y⟩=>E a q g N x n v p Q M j w y
end
def BO(X:Cx)(id:String)(r:V->List V->Hp->VK->Prop):Prop:=
 ∀(pins:List (JW × Obj)) (s:JV) (σ:St) (H:Hp) (x:V) (xs:List V) (v:YP) (us:List YP) (Q:VK),Inv X pins σ H s->RelV x v->Vals xs us->r x xs H Q->
  JY (J0 X.prog X.w) X.A (call (.builtin id) (v::us)) (EP X pins σ Q) X.xe s
theorem Vals.one{x:V}{us:List YP}(h:Vals [x] us):∃ u,us=[u]/\RelV x u:=by
 cases h with
 | cons r h=>cases h;exact⟨_,rfl,r⟩
section
variable {X:Cx}{pins:List (JW × Obj)}{σ:St}{H:Hp}{s:JV}{l b:JW}{xs ys zs:List V}
theorem Inv.lset{a its':List YP}{n:Nat}{f:Array YP->Array YP}{t':Nat}(I:Inv X pins σ H s)(h:H l=some (.lst xs))
  (e:s.heap.get? l=some { cls:=.type "list",data:=.seq a.toArray n }) (d:f a.toArray=its'.toArray) (b:Vals ys its') (hz:ys.length<=sizeLine):
  Inv X pins σ (aP H l (.lst ys)) { s with heap:=s.heap.update l (ZS f),toks:=t' }:=by
 have q:=PySem.IsL.update e f;rw [d]at q;refine I.write (x:=l) (e:=l) (by rw [h];exact trivial) (.inl rfl) (fun i u g c=>(Ya s.heap (ZS f) (Zx g)).trans c) ⟨_,q⟩ ?_
 exact⟨hz,its',_,b,q⟩
theorem Inv.lstM(I:Inv X pins σ H s)(a:H l=some (.lst xs)):xs.length<=sizeLine/\∃(its:List YP) (n:Nat),Vals xs its/\xs.length=its.length/\s.heap.get? l=some { cls:=.type "list",data:=.seq its.toArray n }:=by
 obtain⟨z,its,n,r,e⟩:=I.hok l _ a
 exact⟨z,its,n,r,r.length,e⟩
theorem Po{n:Nat}(h:n<=sizeLine):Z4 n=false:=by
 unfold Z4;exact decide_eq_false (by lia)
end
section
variable {X:Cx}
def Rf:V->List V->Hp->VK->Prop:=fun x a H Q=>∃ l xs y,x=.ref l/\a=[y]/\H l=some (.lst xs)/\xs.length<sizeLine/\Q .non (aP H l (.lst (xs++[y])))
theorem Fb:BO X "list.append" Rf:=by
 intro b s i H x k v m Q I d f h;obtain⟨l,j,y,rfl,rfl,c,o,q⟩:=h;cases d;obtain⟨u,rfl,g⟩:=f.one;obtain⟨z,a,n,r,p,e⟩:=I.lstM c;refine call_meets F.slot_list_append ⟨_,e,rfl⟩ F.entry_list_append (F.args_list_append_2 _ _) (PySem.list_append l a.toArray n u (by rw [QH];lia)) ⟨e,?_⟩
 refine⟨.non,_,I.lset (its':=a++[u]) c e (by simp) (r.append (.cons g .nil)) ?_,rfl,q⟩
 rw [Qf,QF];lia
end
section
variable {prog:JZ}{w:J1}{A:Around}{E:YP->JV->Prop}{s:JV}
end
section
variable {X:Cx}
end
end L2
namespace Att
open PySem.W PySem.Calls
theorem OM{P:Params}{h:Heap}:∀(ns:List Int) (vs:List YP),WellAll P h vs (ns.map WData.int)->Ue vs ns:=by
 intro ns
 induction ns with
 | nil=>
  intro vs w;rw [List.map_nil]at w;cases w;exact .nil
 | cons n ns c=>
  intro vs w;rw [Qp]at w
  cases w with
  | cons a b=>
   cases a;exact .cons _ _ (c _ b)
theorem TM{l:OpenLaw}{n:Nat}(u:l.most=some n){P:Params}{h:Heap}{args:List WData}{b:List YP}
  (c:l.row.toRowW.claim.pre args=true) (j:WellAll P h b args):
  ∃ a vs ns,b=[J5 a]/\args=[WData.list (ns.map WData.int)]/\h.get? a=some { cls:=.type "list",data:=.seq vs.toArray }/\Ue vs ns/\ns.length<=n:=by
 have k:WShape.hasAll [] args [.list .int]=true:=(pre_splitW c).1;have m:l.pre.holds [] { args:=args }=true:=(pre_splitW c).2;obtain⟨d,r,rfl,x,w⟩:=hasAllW_cons k
 obtain rfl:=hasAllW_nil w
 obtain⟨y,rfl,v⟩:=hasW_list x;obtain⟨ns,rfl⟩:=items_int v
 have e:ns.length<=n:=by
  unfold OpenLaw.pre at m
  have i:(WTm.not (.lt (.lit (.int (n:Int))) (.len (.arg 0)))).holds [] { args:=[.list (ns.map .int)] }=true:=by
   have i:=(holds_andW m).1;rw [u]at i;exact i
  have g:=condW_of i (w_not (w_lt w_lit (w_len_list (w_arg rfl))));rw [Ql]at g;refine Jr fun q=>?_
  have s:(n:Int)<((ns.length:Nat):Int):=by lia
  first
   | (rw [decide_eq_true s]at g;exact absurd g (by decide))
   | (simp at g;lia)
 cases j with
 | cons p o=>
  cases o
  cases p with
  | list t f=>exact⟨_,_,ns,rfl,rfl,t,OM ns _ f,e⟩
theorem Rx(l:OpenLaw)(args:List WData):l.row.toRowW.claim.post args (.bool true) args=true:=
 postW_of (r:=l.row.toRowW) (X:=(true == true))
  (show WShape.has [] (.bool true) .bool=true by first | rfl | decide | simp [WShape.has,WShape.arms,WShape.armsAll])
  (show(WTm.eq .res (.lit (.bool true))).value [] { args:=args,res:=some (.bool true),after:=args }=some (.bool (true == true))from w_eq_bool (w_res rfl) w_lit) rfl
theorem attach_call{l:OpenLaw}{n:Nat}{q:JZ}{b:List Str}{x:(Str->Option YP)->Heap->Prop}{v:J1->Heap->Prop}{d:DefRec}
  (B:l.most=some n) (k:d.params.defaults=[])
  (call:∀(w:J1) (s₀ s₁:JV) (mg mb:Str->Option YP) (fa:JW) (o:Obj) (pm cd doc:YP) (a:JW) (vs:List YP) (ns:List Int),
   Ground q b [] x w s₀ mg mb s₁.heap->v w s₁.heap->
   s₁.heap.get? fa=some o->o.data=.func (docDef d.name d.params d.body d.scope pm cd doc)->s₁.heap.CodeRec cd d.name->mg d.name=some (.ref fa)->
   s₁.heap.get? a=some { cls:=.type "list",data:=.seq vs.toArray }->Ue vs ns->ns.length<=n->s₁.gens=#[]->
   ZY (J0 l.prog w) callerA (.call (.ref fa) ⟨[.ref a],[]⟩) (fun r s'=>r=.ok (.ret (.bool true))/\OldK s₁.heap s'.heap/\s'.os=s₁.os/\Uz s'.gens) s₁):
  WalkO q b x v l.row.toRowW d [] (fun f vs=>PySem.call f vs):=by
 intro w s₀ s₁ mg mb G Y fa o pm cd doc M kV A hd m t j H u p N e s y i F
 obtain rfl:M=.none:=Dflts.none t k
 obtain rfl:kV=.none:=Dflts.noKw t
 obtain⟨a,vs,ns,rfl,rfl,g,c,h⟩:=TM B e i;refine enter_call (Jd (call w s₀ s₁ mg mb fa o pm cd doc a vs ns G Y A (fd_plain hd) m j g c h H) fun r s' z=>?_);obtain⟨rfl,K,J,I⟩:=z
 exact⟨.inl ⟨.bool true,.bool true,[],rfl,fun _=>rfl,.bool true,Rx l _,fun _=>⟨List.Pairwise.nil,fun _ E=>(nomatch E)⟩⟩,K,J,I⟩
section
variable {prog:JZ}{w:J1}{A:Around}{E:YP->JV->Prop}{s:JV}{K:Frag}
end
end Att
namespace L2
open PySem.Spec
theorem HY:∀{vs:List YP}{ns:List Int},Ue vs ns->Vals (ns.map V.int) vs
 | _,_,.nil=>.nil
 | _,_,.cons n t h=>.cons ⟨t,rfl⟩ (HY h)
def gY(s:Zj):Uu:=match s with
 | .FunctionDef _ a _ _ _ _ _ _ _ _=>a
 | _=>{ posonlyargs:=[],args:=[],vararg:=none,kwonlyargs:=[],kw_defaults:=[],kwarg:=none,defaults:=[] }
def eY(s:Zj):List Zj:=match s with
 | .FunctionDef _ _ b _ _ _ _ _ _ _=>b
 | _=>[]
def aW(s:Zj):Zz:=match s with
 | .FunctionDef _ _ _ _ _ _ a _ _ _=>a
 | _=>{ kind:=.function,names:=[],isGenerator:=false,isCoroutine:=false }
abbrev aQ:iQ:=fun _ _ _ _ _ _=>False
abbrev E0:XK:=fun _ _ _=>False
theorem Hl{X:Cx}:zO aQ X E0:=fun _ _ _ _ _ _ _ h=>h.elim
structure kF(K:PySem.W.Frag)(x qual:Str)(st:Zj)(f:JW)(fd:Zg):Prop where
 ex:∃(oc:YP) (od:Option JW) (kV doc pm:YP) (an:Option JW) (cdv ct:YP) (osl:Array (Option YP)),
  fd=PySem.W.fnOf x qual (gY st) (eY st) (aW st) .none kV doc pm an cdv ct/\K.lookup f=some ⟨oc,od,.func fd,osl⟩/\PySem.W.codeIn K cdv qual=true
 kp:PySem.W.keepIn K (.ref f)=true
section
variable {P:JZ}{w:J1}{K:PySem.W.Frag}{mg:Str->Option YP}{base:Heap}
theorem kF.ok{x a:Str}{c:Zj}{f:JW}{i:Zg}{N d:List Str}{k:Nat}{sp:Sp}(F:kF K x a c f i)(S:cB N d (aW c))(len:∀ vs H Q E,sp vs H Q E->vs.length=d.length)
  (b:∀(cdv:YP) (A:Around) (outer:List Env) (s:JV) (H:Hp) (vs:List V) (Q:VK) (E:XK),cT k (A.deeper (envOfC a (aW c) s.heap.objs.size f cdv))->sp vs H Q E->
   ∃ t,fU (hX aQ P w K mg base N a (aW c) f cdv A outer s H E).nox (eY c) t/\t { nx:=fun _ H'=>Q .non H',rt:=Q } (start N vs) H):aN P w K mg base aQ (k+1) f i d sp:=by
 obtain⟨r,p,kV,n,o,v,cdv,u,j,rfl,l,g⟩:=F.ex;refine u5 l g S len fun A outer s H vs Q E m e=>?_;obtain⟨t,h,q⟩:=b cdv A outer s H vs Q E m e
 exact⟨t,h.nox,q⟩
theorem u6{x a:Str}{d:Zj}{f:JW}{m:YP}{j i:Option JW}{g:Array (Option YP)}{kV e h b ct:YP}(l:K.lookup f=some ⟨m,j,.func (PySem.W.fnOf x a (gY d) (eY d) (aW d) .none kV e h i b ct),g⟩)
  (c:PySem.W.codeIn K b a=true) (k:PySem.W.keepIn K (.ref f)=true):kF K x a d f (PySem.W.fnOf x a (gY d) (eY d) (aW d) .none kV e h i b ct):=⟨⟨m,j,kV,e,h,i,b,ct,g,rfl,l,c⟩,k⟩
end
theorem Bs{n:Nat}(h:n<=1000):n<sizeLine:=Yh h (by decide)
section
variable {X:Cx}
end
def dA(H H':Hp):Prop:=∀ b o,H b=some o->H' b=some o
theorem dA.refl(H:Hp):dA H H:=fun _ _ h=>h
theorem dA.trans{H d H2:Hp}(a:dA H d)(b:dA d H2):dA H H2:=fun c o h=>b c o (a c o h)
theorem dA.free{H H':Hp}(e:dA H H'){l:JW}(h:H' l=Option.none):H l=Option.none:=by
 cases q:H l with
 | none=>rfl
 | some o=>
  rw [e l o q]at h;cases h
end L2
namespace CL
open PySem.Spec L2
theorem zV{env:Env}:∀(names:List (Str × UG)) (acc:List (Str × JW)),(∀ x∈names,x.2=.free->∃ c,env.cells.lookup x.1=some c)->
  (∀ x c,acc.lookup x=some c->env.cells.lookup x=some c)->
  ∃ cl,(forIn names acc (fun(x:Str × UG) (cs:List (Str × JW))=>(do
    if x.2 == .free then
     let c <- cellOf env x.1
     pure (ZD ((x.1,c)::cs))
    else pure (ZD cs):Sem (ForInStep (List (Str × JW)))))=(pure cl:Sem _))/\(∀ x c,cl.lookup x=some c->env.cells.lookup x=some c) /\
   (∀ x,(x,J7)∈names->∃ c,cl.lookup x=some c)/\(∀ x c,acc.lookup x=some c->∃ c',cl.lookup x=some c')/\(∀ x c,cl.lookup x=some c->(x,J7)∈names ∨ acc.lookup x=some c)
 | [],acc,_,h2=>⟨acc,by rw [List.forIn_nil],h2,fun x h=>by simp at h,fun x c h=>⟨c,h⟩,fun x c h=>.inr h⟩
 | (n,k)::r,acc,h1,h2=>by
  rw [List.forIn_cons];by_cases f:k=.free
  ·subst f;obtain⟨c,m⟩:=h1 (n,.free) (Qd) rfl;have b:env.cells.lookup n=some c:=m
   have g:∀ x c',((n,c)::acc).lookup x=some c'->env.cells.lookup x=some c':=fun x c' h=>by
    rw [Q3]at h
    cases e:x == n with
    | true=>rw [e]at h;cases h;rw [Yv e];exact b
    | false=>rw [e]at h;exact h2 x c' h
   obtain⟨cl,q,l,j,d,i⟩:=zV r ((n,c)::acc) (fun x a=>h1 x (Qg _ a)) g
   refine⟨cl,?_,l,fun x a=>?_,fun x c' h=>?_,fun x c' h=>?_⟩
   ·have o:cellOf env n=pure c:=by unfold cellOf;rw [b]
    simp only [beq_self_eq_true,if_true,o,pure_bind];exact q
   ·rcases Qi.mp a with a | a
    ·cases a;exact d n c (by rw [Q3,beq_self_eq_true])
    ·exact j x a
   ·cases e:x == n with
    | true=>rw [Yv e];exact d n c (by rw [Q3,beq_self_eq_true])
    | false=>exact d x c' (by rw [Q3,e];exact h)
   ·rcases i x c' h with h | h
    ·exact .inl (Qg _ h)
    ·rw [Q3]at h
     cases e:x == n with
     | true=>rw [Yv e];exact .inl Qd
     | false=>rw [e]at h;exact .inr h
  ·obtain⟨cl,q,l,j,d,i⟩:=zV r acc (fun x a=>h1 x (Qg _ a)) h2
   refine⟨cl,?_,l,fun x a=>?_,d,fun x c h=>(i x c h).imp (Qg _) id⟩
   ·have e:(k == J7)=false:=by simpa using f
    simp only [e,Qq,if_false,pure_bind];exact q
   ·rcases Qi.mp a with a | a
    ·cases a;exact absurd rfl f
    ·exact j x a
theorem xU{env:Env}{scope:Zz}(h:∀ x∈scope.names,x.2=.free->∃ c,env.cells.lookup x.1=some c):
  ∃ cl,closureFor scope env=pure cl/\(∀ x c,cl.lookup x=some c->env.cells.lookup x=some c)/\(∀ x,(x,J7)∈scope.names->∃ c,cl.lookup x=some c)/\(∀ x c,cl.lookup x=some c->(x,J7)∈scope.names):=by
 obtain⟨cl,q,d,b,_,a⟩:=zV (env:=env) scope.names [] h (fun x c h=>by simp at h)
 refine⟨cl,?_,d,b,fun x c h=>(a x c h).elim id fun z=>by simp at z⟩
 simp only [closureFor]
 first
  | exact q
  | (rw [<- q];congr 1;funext x cs;obtain⟨n,k⟩:=x;rfl)
  | simpa using q
def eI(X:Cx)(N':List Str)(scope:Zz)(b:List (Str × JW))(C:JW)(a:List JW)(s:JV)(H:Hp):Cx:=
 { X with N:=N',s₀:=s,H₀:=H,env:=compEnvC scope b C X.env,outer:=X.stack,ex:=a,fn:=fun x=>scope.names.lookup x == some .local,pn:=[],xe:=fun _ _=>False }
structure lY(X:Cx)(N':List Str)(scope:Zz)(inner:List (Option Nat)):Prop where
 kind:scope.kind=.function
 nocell:∀ x∈scope.names,x.2≠.cell
 loc:∀ x∈scope.names,x.2=.local->scope.names.lookup x.1=some .local
 free:∀ x∈scope.names,x.2=.free->scope.names.lookup x.1=some .free/\(X.env.scope.names.lookup x.1=some .cell ∨ X.env.scope.names.lookup x.1=some .free)
 len:inner.length=N'.length
 out:∀(i j:Nat),inner[i]?=some (some j)->∃ x,N'[i]?=some x/\X.N[j]?=some x/\scope.names.lookup x=some .free
def jT(inner:List (Option Nat))(a:L2.St):L2.St:=inner.map fun o=>o.bind fun j=>(a[j]?).bind id
theorem GK{env:Env}:∀{names:List (Str × UG)}{x:Str},names.lookup x=some .free->
  (names.map fun(n,k)=>if(k == J7 && env.scope.kind == .function && env.kindOf n == some .cell)then(n,Z5)else(n,k)).lookup x=some .free ∨
  (names.map fun(n,k)=>if(k == J7 && env.scope.kind == .function && env.kindOf n == some .cell)then(n,Z5)else(n,k)).lookup x=some .cell
 | [],_,h=>by simp at h
 | (n,k)::r,x,h=>by
  have c:=@GK env r x;rw [Qp]
  show List.lookup x ((if(k == J7 && env.scope.kind == .function && env.kindOf n == some .cell)=true then(n,Z5)else(n,k))::_)=_ ∨ List.lookup x ((if(k == J7 && env.scope.kind == .function && env.kindOf n == some .cell)=true then(n,Z5)else(n,k))::_)=_
  cases a:x == n with
  | true=>
   simp only [Q3,a]at h;cases h;by_cases b:(J7 == J7 && env.scope.kind == .function && env.kindOf n == some .cell)=true
   ·rw [if_pos b];right;simp [Q3,a]
   ·rw [if_neg b];left;simp [Q3,a]
  | false=>
   simp only [Q3,a]at h;by_cases b:(k == J7 && env.scope.kind == .function && env.kindOf n == some .cell)=true
   ·rw [if_pos b];simp only [Q3,a];exact c h
   ·rw [if_neg b];simp only [Q3,a];exact c h
theorem Aq{env:Env}:∀{names:List (Str × UG)}{x:Str}{q:UG},(∀ y∈names,y.2≠.cell)->(q=.cell ∨ q=.free)->
  (names.map fun(n,k)=>if(k == J7 && env.scope.kind == .function && env.kindOf n == some .cell)then(n,Z5)else(n,k)).lookup x=some q->(x,J7)∈names
 | [],_,_,_,_,h=>by simp at h
 | (n,k)::r,x,q,hn,hq,h=>by
  have f:=@Aq env r x q (fun y g=>hn y (Qg _ g)) hq;rw [Qp]at h;have a:List.lookup x ((if(k == J7 && env.scope.kind == .function && env.kindOf n == some .cell)=true then(n,Z5)else(n,k))::_)=some q:=h
  cases c:x == n with
  | true=>
   have e:x=n:=Yv c;by_cases b:(k == J7 && env.scope.kind == .function && env.kindOf n == some .cell)=true
   ·have:k=.free:=by
     have:=b
     simp only [Qy,beq_iff_eq]at this;exact this.1.1
    rw [e,this];exact Qd
   ·rw [if_neg b]at a;simp only [Q3,c]at a;have d:k=q:=QJ a;rcases hq with z | z
    ·exact absurd (d.trans z) (hn (n,k) Qd)
    ·rw [e,<- z,<- d];exact Qd
  | false=>
   by_cases b:(k == J7 && env.scope.kind == .function && env.kindOf n == some .cell)=true
   ·rw [if_pos b]at a;simp only [Q3,c]at a;exact Qg _ (f a)
   ·rw [if_neg b]at a;simp only [Q3,c]at a;exact Qg _ (f a)
section
variable {X:Cx}{N':List Str}{scope:Zz}{inner:List (Option Nat)}{cl:List (Str × JW)}{C:JW}{fp:List JW}{s s4:JV}{H:Hp}{σ:L2.St}{pins:List (JW × Obj)}
theorem OK(CS:lY X N' scope inner)(I:Inv X pins σ H s)(t:∀ b∈fp,gR X pins H b)(n:∀ x c,cl.lookup x=some c->X.env.cells.lookup x=some c)(N:∀ x,(x,J7)∈scope.names->∃ c,cl.lookup x=some c)(c3:∀ x c,cl.lookup x=some c->(x,J7)∈scope.names)
  (G:∀ b∈fp,b<s.heap.objs.size) (w:C=s.heap.objs.size) {h':Heap}{tk:Nat} (r:∀ b o,s.heap.get? b=some o->h'.get? b=some o) (F:h'.Ns C fun _=>none) (E:s4={ s with heap:=h',toks:=tk }):
  Inv (eI X N' scope cl C fp s H) [] (jT inner σ) H s4:=by
 subst E
 have old:∀ b o,s.heap.get? b=some o->b≠C:=fun b o e=>by rw [w];exact Qw (Qo e)
 have cC:∀ x c,cl.lookup x=some c->c≠C:=fun x c e=>by
  obtain⟨v,o,q,_⟩:=I.cell x c (n x c e);exact old c o q
 refine⟨⟨I.ok.mod,CS.kind,I.ok.glob,I.ok.blt,?_,fun x y c h1 h2=>I.ok.inj x y c (n x c h1) (n y c h2),fun x B=>?_,fun x c B h=>?_,I.ok.hd,I.ok.frames,.inl rfl,fun b l=>⟨?_,fun x c e z=>(t b l).2.2.2.2.1 x c (n x c e) z⟩,I.bs,Qv I.ok.bsz I.sz,fun b o e l=>?_,fun b l=>?_,I.stack,I.stkFree⟩,
  rfl,I.bare,Un.kept r,⟨_,F,fun i x v M g e3=>?_⟩,fun x c e=>?_,?_,fun x c e=>I.freeC x c (n x c e),fun p hp=>absurd (show p∈([]:List (JW × Obj))from hp) (by simp),I.hok.kept r,?_⟩
 ·show s.heap.objs.size<=C
  rw [w];exact Qk _
 ·have d:(relabel scope X.env).names.lookup x=some .cell ∨ (relabel scope X.env).names.lookup x=some .free:=B;rcases d with d | d
  ·exact N x (Aq CS.nocell (.inl rfl) d)
  ·exact N x (Aq CS.nocell (.inr rfl) d)
 ·have d:(scope.names.lookup x == some NameKind.local)=true:=B;have M:scope.names.lookup x=some .local:=Yv d;have g:=(CS.free _ (c3 x c h) rfl).1;rw [M]at g;cases g
 ·show b≠C
  rw [w];exact Qw (G b l)
 ·rcases(t b l).2.2.2.1 with z | z
  ·exact I.ok.noex b o e z
  ·exact absurd (QD (Qo e) (Qv I.ok.bsz z)) (Y1 _)
 ·intro z;rcases Qi.mp (I.stkSub b z)with q | q
  ·exact(t b l).2.1 q
  ·exact(t b l).2.2.1 q
 ·
  unfold jT at g;rw [QS]at g
  cases J:inner[i]? with
  | none=>rw [J]at g;cases g
  | some o=>
   rw [J]at g
   cases o with
   | none=>cases g
   | some j=>
    have k:(σ[j]?).bind id=some v:=by simpa using g
    have e4:σ[j]?=some (some v):=by
     cases T:σ[j]? with
     | none=>rw [T]at k;cases k
     | some w'=>rw [T]at k;exact congrArg some k
    obtain⟨x',S,g2,Q⟩:=CS.out i j J;have K:N'[i]?=some x:=M;rw [K]at S;cases S;have mem:(x,J7)∈scope.names:=PySem.mem_of_lookup Q;have f:=(CS.free _ mem rfl).2;obtain⟨m,hm,hl⟩:=I.loc;have vis:jQ X.env.scope x:=f.elim (fun z=>.inr (.inl z)) fun z=>.inr (.inr z);obtain⟨u,W,Y⟩:=hl j x v g2 e4 vis
    refine⟨u,W,?_⟩
    obtain⟨c,O⟩:=N x mem;rcases Y with⟨k1,_⟩ | ⟨_,c',k2,Z⟩
    ·have A:X.env.scope.names.lookup x=some .local:=k1
     rcases f with z | z <;> (rw [A]at z;cases z)
    ·have U:=n x c O;rw [k2]at U;cases U;refine .inr ⟨?_,c,O,(let⟨o,q1,q2⟩:=Z;⟨o,r _ o q1,q2⟩)⟩
     have:=GK (env:=X.env) Q
     exact this.elim .inr .inl
 ·obtain⟨v,q⟩:=I.cell x c (n x c e)
  exact⟨v,(let⟨o,q1,q2⟩:=q;⟨o,r _ o q1,q2⟩)⟩
 ·show H C=none
  exact I.hok.fresh (by rw [w];exact Qk _)
 ·show(jT inner σ).length=N'.length
  unfold jT;rw [Ql];exact CS.len
theorem OJ(I:Inv X pins σ H s)(g:∀ b∈fp,gR X pins H b)(p:C=s.heap.objs.size){h:L2.St}{H':Hp}{s5:JV}(J:Inv (eI X N' scope cl C fp s H) [] h H' s5){h':Heap}(f:Ze C s5.heap h'):
  Inv X pins σ H' { s5 with heap:=h' }:=by
 have old:∀ b o,s.heap.get? b=some o->b≠C:=fun b o e=>by rw [p];exact Qw (Qo e)
 have U:Un (dN X.stack) fp H H' s.heap s5.heap:=J.base;have l:H' C=none:=J.free;refine I.call' (ch:=fp) J.os ⟨fun b o e n a d=>?_,fun b o e n a d=>?_,U.free,fun b o e d=>?_,U.tups,U.frzs,U.tbls⟩ (fun b u e=>?_) J.bare fun b a=>?_
 ·rw [f.2 b (old b o e)];exact U.keep b o e n a d
 ·obtain⟨j,q⟩:=U.slot b o e n a d
  exact⟨j,by rw [f.2 b (old b o e)];exact q⟩
 ·obtain⟨k,q⟩:=U.there b o e d
  exact⟨k,by rw [f.2 b (old b o e)];exact q⟩
 ·have i:∀ c v,H' c=some v->c≠C:=fun c v q z=>by rw [z,l]at q;cases q
  refine(J.hok b u e).stay (fun c v m q=>?_) (fun _ q=>q) fun _ _ q=>q
  rw [f.2 c ?_]
  ·exact q
  ·rcases m with z | z
   ·rw [z];exact i b u e
   ·exact i c _ z
 ·exact⟨(g b a).2.2.2.1,(g b a).2.1,(g b a).2.2.2.2.1,(g b a).2.2.2.2.2⟩
end
def n7(X:Cx)(a:List Expr)(t:TT):Prop:=
 ∀(pins:List (JW × Obj)) (s:JV) (σ:L2.St) (H:Hp) (Q:Bool->Hp->Prop),Inv X pins σ H s->t σ H Q->
  JY (J0 X.prog X.w) X.A (forIn a true fun c r=>if r=true then do let ok <- isTrue c X.env (Zk c X.env);pure (ZD ok)else pure (ZD r)) (TP X pins σ Q) X.xe s
theorem RG{X:Cx}{c:Expr}{t:TT}(h:PT X c t):n7 X [c] t:=fun a s b H Q I q=>wpAny_tests_one (h a s b H Q I q)
def Bx(h:TI)(g:TG)(ti:TT)(te:TE)(inner:List (Option Nat)):TE:=fun c H Q=>h c H fun J f=>∀ D,f D=none->∃ W:Nat->Nat->L2.St->Hp->Prop,(∃ m,W 0 m (jT inner c) (aP f D (.lst [])))/\∀ i m σ' H',W i m σ' H'->
 (J.stop i H'/\Q (.ref D) H') ∨ (J.go i H'/\∀ x H2,J.yld i H' x H2->g x σ' H2 fun a j=>ti a j fun b e=>if b=true then te a e fun y d=>∃ ys,d D=some (.lst ys)/\ys.length<sizeLine/\∃ m',m'<m/\W (i+1) m' a (aP d D (.lst (ys++[y])))else ∃ m',m'<m/\W (i+1) m' a e)
section
variable {X:Cx}{elt tg iter:Expr}{ifs:List Expr}{scope:Zz}{pos:Pos}{N':List Str}{inner:List (Option Nat)}{wi:TI}{g:TG}{ti:TT}{te:TE}
theorem ND{Y:Cx}{D G:JW}{f:List JW}{p:Nat->Heap->Prop}{J:It}{W:Nat->Nat->L2.St->Hp->Prop}{Qn:Hp->Prop}{RR:Result->JV->Prop}{l:L2.St}{U:Hp}{s4:JV}{m0:Nat}
  (hc:Y.calm=true) (c:∀ v s,¬ Y.xe v s) (hg:PG Y tg g) (ht:n7 Y ifs ti) (he:PE Y elt te) (T:jP Y.prog Y.w Y.K tg J f G p) (I:∀{H'':Hp},(∀ b∈f,H'' b=none)->∀ b∈f,gR Y [] H'' b)
  (I4:Inv Y [] l U s4) (t4:p 0 s4.heap) (N:∀ b∈f,U b=none) (w0:W 0 m0 l U)
  (step:∀ i m σ' H',W i m σ' H'->(J.stop i H'/\Qn H') ∨ (J.go i H'/\∀ x H3,J.yld i H' x H3->g x σ' H3 fun σ3 H3=>ti σ3 H3 fun b H4=>if b=true then te σ3 H4 fun y H5=>∃ ys,H5 D=some (.lst ys)/\ys.length<sizeLine/\∃ m',m'<m/\W (i+1) m' σ3 (aP H5 D (.lst (ys++[y])))else ∃ m',m'<m/\W (i+1) m' σ3 H4))
  (fin:∀ σ' H' s5,Inv Y [] σ' H' s5->Qn H'->RR (.ok .next) s5):
  ZY (J0 Y.prog Y.w) Y.A (.compLoop (.ListComp elt [⟨tg,iter,ifs,0⟩] scope pos) 0 (.ref G) (.ref D) Y.env) RR s4:=by
 refine codeAny_loop rfl (fun m j=>∃ i σ' H',Inv Y [] σ' H' j/\p i j.heap/\(∀ b∈f,H' b=none)/\W i m σ' H') (fun m j hI=>?_) m0 ⟨0,_,_,I4,t4,N,w0⟩;obtain⟨i,σ',H',I',Z,n,w'⟩:=hI
 show JY _ Y.A ((compTurn (.ListComp elt [⟨tg,iter,ifs,0⟩] scope pos) 0 (.ref G) (.ref D) Y.env).onRaise (fun x=>do noteFrame x Y.env;theTreesLotGoes x)) _ _ j
 refine wpAny_noted ?_;rw [compTurn_list];refine Qa (wpAny_standAt (Qa ?_));rcases step i m σ' H' w' with⟨stop,qn⟩ | ⟨go,F⟩
 ·refine YZ (T.done Y rfl rfl rfl hc i [] j σ' H' (fun _ _=>False) I' (I n) Z stop) (fun r s5 d=>?_) fun _ _ z=>z.elim;obtain⟨d,I5⟩:=d;subst d;exact Qb (fin σ' H' s5 I5 qn)
 ·refine YZ (T.item Y rfl rfl rfl hc i [] j σ' H' (fun _ _=>False) I' (I n) Z go) (fun r s5 d=>?_) fun _ _ z=>z.elim;obtain⟨u,d,h5⟩:=d;subst d;refine Qa (YZ h5 (fun _ s6 h6=>?_) fun _ _ z=>z.elim);obtain⟨x,H6,I6,r6,y6,E,M⟩:=h6;have Q:=I6.pinned (I M) (T.obj _ _ E)
  have back:∀{m':Nat}{a:L2.St}{k:Hp}{h:JV},Inv Y ([]++rA f s6.heap) a k h->m'<m->W (i+1) m' a k->
    ∃ m',m'<m/\∃ i σ' H',Inv Y [] σ' H' h/\p i h.heap/\(∀ b∈f,H' b=none)/\W i m' σ' H':=fun{m' a k h} I7 lt w7=>by
   refine⟨m',lt,i+1,a,k,I7.unpinned,T.keep _ _ _ E fun b t o e=>(I7.pin (b,o) (Qu _ (Qu _ (uM t e)))).1,fun b t=>?_,w7⟩
   obtain⟨o,e,_⟩:=T.obj _ _ E b t
   exact(I7.pin (b,o) (Qu _ (Qu _ (uM t e)))).2.1
  refine Qa (YZ (hg _ s6 σ' H6 x u _ Q r6 (F x H6 y6)) (fun _ h h7=>?_) fun _ _ z=>absurd z (c _ _));obtain⟨a,k,I7,q7⟩:=h7;refine Qa (YZ (ht _ h a k _ I7 q7) (fun ok s8 h8=>?_) fun _ _ z=>absurd z (c _ _));obtain⟨H8,I8,q⟩:=h8
  cases ok with
  | false=>
   simp only [Qq,if_false]at q ⊢;obtain⟨m',lt,w8⟩:=q;exact Qb ⟨rfl,back I8 lt w8⟩
  | true=>
   simp only [if_true]at q ⊢;refine Qa (Qa (YZ (he _ s8 a H8 _ I8 q) (fun y s9 h9=>?_) fun _ _ z=>absurd z (c _ _)));obtain⟨B,H9,I9,r9,ys,d9,l9,m',lt,w9⟩:=h9;refine Qa (YZ (Fb (X:=Y) _ s9 a H9 (.ref D) [B] _ [y] (fun v H'=>H'=aP H9 D (.lst (ys++[B]))) I9 rfl (.cons r9 .nil) ⟨_,ys,B,rfl,rfl,d9,l9,rfl⟩) (fun _ a0 H=>?_) fun _ _ z=>absurd z (c _ _));obtain⟨_,a1,S,_,O⟩:=H;subst O;exact Qb (Qb ⟨rfl,back S lt w9⟩)
theorem rO(hc:X.calm=true)(CS:lY X N' scope inner)(hg:∀ f C d s H,PG (eI X N' scope f C d s H) tg g)(ht:∀ f C d s H,n7 (eI X N' scope f C d s H) ifs ti)(he:∀ f C d s H,PE (eI X N' scope f C d s H) elt te)
  {pins:List (JW × Obj)}{r:L2.St}{s2:JV}{l:Hp}{E:JW}{d:List JW}{B:Nat->Heap->Prop}{J:It}{f:List (Str × JW)}{Q:VK}{RR:YP->JW->Result->JV->Prop}
  (c1:∀ x c,f.lookup x=some c->X.env.cells.lookup x=some c) (c2:∀ x,(x,J7)∈scope.names->∃ c,f.lookup x=some c) (c3:∀ x c,f.lookup x=some c->(x,J7)∈scope.names)
  (I2:Inv X pins r l s2) (T:jP X.prog X.w X.K tg J d E B) (U:B 0 s2.heap) (f2:∀ b∈d,gR X pins l b)
  (q:∀ D,l D=none->∃ W:Nat->Nat->L2.St->Hp->Prop,(∃ m,W 0 m (jT inner r) (aP l D (.lst [])))/\∀ i m σ' H',W i m σ' H'->
   (J.stop i H'/\Q (.ref D) H') ∨ (J.go i H'/\∀ x H3,J.yld i H' x H3->g x σ' H3 fun σ3 H3=>ti σ3 H3 fun b H4=>if b=true then te σ3 H4 fun y H5=>∃ ys,H5 D=some (.lst ys)/\ys.length<sizeLine/\∃ m',m'<m/\W (i+1) m' σ3 (aP H5 D (.lst (ys++[y])))else ∃ m',m'<m/\W (i+1) m' σ3 H4))
  (fin:∀(D C:JW) (H':Hp) (s5:JV) (m:Str->Option YP),s5.heap.Ns C m->Q (.ref D) H'->(∀ h',Ze C s5.heap h'->Inv X pins r H' { s5 with heap:=h' })->(H' C=none/\C≠X.env.locals/\X.s₀.heap.objs.size<=C/\(∀ x c,X.env.cells.lookup x=some c->c≠C)/\∀ p∈X.pn++pins,p.1≠C)->RR (.ref D) C (.ok .next) s5):
  JY (J0 X.prog X.w) X.A (newList []) (fun acc s₃=>JY (J0 X.prog X.w) X.A (newFunctionEnv scope X.env.globals f [] X.env.qual none .none (some X.env)) (fun cenv s₄=>
   ZY (J0 X.prog X.w) X.A (.compStart (.ListComp elt [⟨tg,iter,ifs,0⟩] scope pos) 0 (.ref E) acc { cenv with scope:=relabel scope X.env }) (RR acc cenv.locals) s₄) X.xe s₃) X.xe s2:=by
 refine wpAny_newList ?_;have hD:l s2.heap.objs.size=none:=I2.hok.fresh (Qk _);generalize hs3:({ s2 with heap:=s2.heap.push { cls:=.type "list",data:=.seq ([]:List YP).toArray } }:JV)=s3
 have G:∀ b o,s2.heap.get? b=some o->s3.heap.get? b=some o:=fun b o e=>by rw [<- hs3];exact Qc _ e
 have F:s3.heap.objs.size=s2.heap.objs.size+1:=by rw [<- hs3];exact YT _ _
 have I3:Inv X pins r (aP l s2.heap.objs.size (.lst [])) s3:=by
  rw [<- hs3];exact I2.laid (t':=s2.toks) (o:=.lst []) (fun b o e=>Qc _ e) (Qk _) ⟨QY _,[],0,.nil,Qt _ rfl⟩
 have u:∀ b∈d,b<s2.heap.objs.size:=fun b j=>by
  obtain⟨o,e,_⟩:=T.obj 0 _ U b j;exact Qo e
 have O:∀ b∈d,gR X pins (aP l s2.heap.objs.size (.lst [])) b:=fun b j=>by
  obtain⟨g0,g1⟩:=f2 b j
  exact⟨by rw [aU (Qw (u b j))];exact g0,g1⟩
 have t3:B 0 s3.heap:=T.keep _ _ _ U fun b _ o e=>G b o e;obtain⟨W,⟨m0,Z⟩,step⟩:=q _ hD;refine wpAny_newFunctionEnv (fun x hx=>CS.nocell x hx) (by intro y hy;simp at hy) (fun k a h=>?_) CS.kind
 try dsimp only at a h ⊢
 have t:∀ b o,s3.heap.get? b=some o->k.get? b=some o:=fun b o e=>h.extBut b o (Qw (Qo e)) (Qc _ e)
 have M:k.Ns s3.heap.objs.size fun _=>none:=by
  have:(fun x=>([]:List (Str × YP)).reverse.lookup x)=(fun _=>none:Str->Option YP):=by funext x;rfl
  rw [this]at a;exact a
 generalize hs4:({ s3 with heap:=k,toks:=s3.toks+([]:List (Str × YP)).length }:JV)=s4
 have I4:Inv (eI X N' scope f s3.heap.objs.size d s3 (aP l s2.heap.objs.size (.lst []))) [] (jT inner r) (aP l s2.heap.objs.size (.lst [])) s4:=
  OK CS I3 O c1 c2 c3 (fun b j=>by rw [F];exact Y6 (u b j)) rfl t M hs4.symm
 have S:B 0 s4.heap:=by rw [<- hs4];exact T.keep _ _ _ t3 fun b _ o e=>t b o e
 have CL:s3.heap.objs.size≠X.env.locals:=YF I3.lt
 have CC:∀ x c,X.env.cells.lookup x=some c->c≠s3.heap.objs.size:=fun x c e=>by
  obtain⟨v,o,z,_⟩:=I3.cell x c e;exact Qw (Qo z)
 show ZY (J0 X.prog X.w) X.A (.compStart (.ListComp elt [⟨tg,iter,ifs,0⟩] scope pos) 0 (.ref E) (.ref s2.heap.objs.size) (compEnvC scope f s3.heap.objs.size X.env)) (RR (.ref s2.heap.objs.size) s3.heap.objs.size) s4
 have n:ZY (J0 X.prog X.w) X.A (.compLoop (.ListComp elt [⟨tg,iter,ifs,0⟩] scope pos) 0 (.ref E) (.ref s2.heap.objs.size) (compEnvC scope f s3.heap.objs.size X.env)) (RR (.ref s2.heap.objs.size) s3.heap.objs.size) s4:=by
  have fx:∀{H'':Hp},(∀ b∈d,H'' b=none)->∀ b∈d,gR (eI X N' scope f s3.heap.objs.size d s3 (aP l s2.heap.objs.size (.lst []))) [] H'' b:=fun{H''} z b j=>
   ⟨z b j,(I4.ok.exf b j).1,I4.ok.exfs b j,.inl j,fun x c e=>(I4.ok.exf b j).2 x c e,fun p I=>absurd (show p∈([]:List (JW × Obj))from I) (by simp)⟩
  refine ND (Y:=eI X N' scope f s3.heap.objs.size d s3 (aP l s2.heap.objs.size (.lst []))) hc (fun _ _ z=>z) (hg _ _ _ _ _) (ht _ _ _ _ _) (he _ _ _ _ _) T fx I4 S (fun b j=>(O b j).1) Z step fun σ' H' s5 I5 qn=>?_;obtain⟨m5,N,_⟩:=id I5.loc;exact fin _ _ H' s5 m5 N qn (fun h' sb=>OJ I3 O rfl I5 sb) ⟨I5.free,CL,I3.sz,CC,fun p I=>Qw (Qo (I3.pin p I).1)⟩
 exact codeAny_compStart_list n (T.self X.A 0 s4 _ _ S n)
theorem R5(t:X.calm=true)(CS:lY X N' scope inner)(p:PI X tg iter wi)(r:∀ cl C fp s H,PG (eI X N' scope cl C fp s H) tg g)(k:∀ cl C fp s H,n7 (eI X N' scope cl C fp s H) ifs ti)(he:∀ cl C fp s H,PE (eI X N' scope cl C fp s H) elt te)
  (hs:∀ x,ZC iter X.env x=pure x:=by intro _;rfl):PE X (.ListComp elt [⟨tg,iter,ifs,0⟩] scope pos) (Bx wi g ti te inner):=by
 intro a s d H Q I h;obtain⟨cl,b,G,F,E⟩:=xU (env:=X.env) (scope:=scope) fun x j o=>I.ok.has x.1 (CS.free x j o).2;rw [eval_ListComp];refine wpAny_comprehension_free (use:=none) rfl hs b CS.kind CS.loc (bA (p a s d H _ I h) fun N W y=>bA y fun i U v=>?_);obtain⟨Y,fp,O,J,Z,rfl,K,T,e,B,q⟩:=v;refine rO (RR:=fun c C=>compPost (J0 X.prog X.w) X.A X.xe none (EP X a d Q) c C) t CS r k he G F E K T e B q ?_;intro D C M S m n l u _
 exact⟨m,n,fun z f=>⟨.ref D,M,u z f,rfl,l⟩⟩
theorem GG{i:Nat}{y:Str}{f d:Pos}(hN:X.N.Nodup)(hc:X.calm=true)(CS:lY X N' scope inner)(hi:PI X tg iter wi)(hg:∀ cl C fp s H,PG (eI X N' scope cl C fp s H) tg g)(ht:∀ cl C fp s H,n7 (eI X N' scope cl C fp s H) ifs ti)(he:∀ cl C fp s H,PE (eI X N' scope cl C fp s H) elt te)
  (r:ZE (.ListComp elt [⟨tg,iter,ifs,0⟩] scope pos) (some (.Name y f)) d.line X.env=pure true:=by rfl) (hy:X.N[i]?=some y:=by rfl) (p:Loc X.env.scope y:=by first | exact ZG rfl | exact Zr rfl) (hf:X.fn y=true ∨ X.env.scope.names.lookup y=some .local:=by first | exact .inl rfl | exact .inr rfl | assumption)
  (hs:∀ x,ZC iter X.env x=pure x:=by intro _;rfl):PS X (.Assign [.Name y f] (.ListComp elt [⟨tg,iter,ifs,0⟩] scope pos) d) (CP (Bx wi g ti te inner) (u7 i)):=by
 intro c s E H D I h;obtain⟨cl,u,c1,c2,c3⟩:=xU (env:=X.env) (scope:=scope) fun x p hk=>I.ok.has x.1 (CS.free x p hk).2;rw [exec_Assign_Name_used _ _ _ _ r];refine Qa (wpAny_standAt (Qa ?_))
 show JY _ X.A (do let _ <- comprehension (.ListComp elt [⟨tg,iter,ifs,0⟩] scope pos) scope X.env _ (newList []) false (Zk iter X.env) (some (assign (.Name y f) X.env))) _ _ s
 refine Qa (YZ (wpAny_comprehension_free (use:=some (assign (.Name y f) X.env)) (Q:=fun _ k=>SP X c D .next k) rfl hs u CS.kind CS.loc
  (bA (hi c s E H _ I h) fun xv s1 h1=>bA h1 fun a0 s2 h2=>?_)) (fun _ k t=>Qb (Qb t)) fun _ _ e=>e)
 obtain⟨it,fp,tn,J,H2,rfl,I2,T,S,f2,q⟩:=h2;refine rO (Q:=fun v B=>u7 i v E B D.nx) (RR:=fun z C=>compPost (J0 X.prog X.w) X.A X.xe (some (assign (.Name y f) X.env)) (fun _ k=>SP X c D .next k) z C) hc CS hg ht he c1 c2 c3 I2 T S f2 q ?_;intro l C B Y m hm t hI hC;obtain⟨O,G,M,F,K⟩:=hC
 show JY _ X.A (assign (.Name y f) X.env (.ref l)) _ _ _
 have I5:=hI Y.heap (JF ..);refine wpAny_assign_Name (GC (v:=.ref l) I5 hN hy p (show L2.RelV (.ref l) (J5 l)from rfl) (fun W I6 k6=>?_) hf);obtain⟨a,U,j⟩:=k6
 have Z:C≠a:=by
  rcases j with j | j
  ·rw [j];exact G
  ·exact(F y a j).symm
 refine⟨m,hm.sameBut U Z,fun h' n=>⟨_,B,?_,t⟩⟩
 exact I6.turned (t':=W.toks) (fun b o nb e=>by rw [n.2 b nb];exact e) O G (.inr M) F K
end
end CL
namespace LM
open PySem.Spec L2 CL
section
variable {X:Cx}{A:Around}{N':List Str}{qual x0:Str}{scope:Zz}{inner:List (Option Nat)}{cl:List (Str × JW)}{f c:JW}{s s4:JV}{H:Hp}{σ:L2.St}{pins:List (JW × Obj)}{v0:V}{u0:YP}
end
def jO(P:JW)(a:Array YP)(H:Hp):Prop:=∃ more,H P=some (.tbl (a++more))
theorem jO.inv{X:Cx}{P:JW}{a:Array YP}{pins:List (JW × Obj)}{b:L2.St}{H:Hp}{s:JV}(T:jO P a X.H₀)(I:Inv X pins b H s):jO P a H:=by
 obtain⟨m,e⟩:=T;obtain⟨c,d⟩:=I.base.tbls P _ e
 exact⟨m++c,by rw [d,Array.append_assoc]⟩
def Bm(mg:Str->Option YP)(h:Heap):Prop:=∃ bm o,mg "__builtins__"=some (.ref bm)/\bm≠builtinsNs/\bm≠J2/\h.get? bm=some o/\o.cls=.type "module"/\o.dict=some builtinsNs/\o.data=.plain
def iT(pos:Pos)(a:Str):Array YP:=#[Zy pos.line,Zy pos.col,.str a 0]
theorem vI{pos:Pos}{a:Str}{more:Array YP}{i:Nat}(h:i<3):(iT pos a++more)[i]?=(iT pos a)[i]?:=Array.getElem?_append_left (by exact h)
theorem HN{a b:Int}{t u:Tok}{c:YP}:∀(l:List YP),TriplesOk l->TriplesOk (l++[.int a t,.int b u,c])
 | [],_=>trivial
 | .int _ _::.int _ _::_::r,h=>HN r h
theorem MB{pos a:Pos}(e:a.line=pos.line)(d:a.col=pos.col)(l:List YP):Ut a l=Ut pos l:=by
 fun_induction Ut pos l with
 | case1 line t col u c b h=>rw [Ut,e,d,if_pos h]
 | case2 line t col u c b h f=>rw [Ut,e,d,if_neg h,f]
 | case3 l h=>
  unfold Ut;split
  ·exact absurd rfl (h _ _ _ _ _ _)
  ·rfl
section
variable {X:Cx}{params:Uu}{body:Expr}{scope:Zz}{pos:Pos}{c P:JW}{qual:Str}{cl:List (Str × JW)}{s:JV}{H:Hp}{σ:L2.St}{pins:List (JW × Obj)}
theorem Oq{A:Around}{E:YP->JV->Prop}{Q:YP->JV->Prop}(I:Inv X pins σ H s)(M:defaultsOf params X.env=([],[]))(N:closureFor scope X.env=pure cl)(g:X.env.code=.ref c)(C:PySem.W.CodeHd X.base c P)(B:Bm X.mg X.base)(hq:X.env.qual++"<lambda>"=qual)(T:jO P (iT pos qual) H)
  (h:∀ f c' pm ctv H' s',(H'=H ∨ (H c'=none/\H'=aP H c' (.cod qual)))->Inv X pins σ H' s'->H' c'=some (.cod qual)->s.heap.objs.size<=f->H' f=none->s'.heap.get? f=some (PySem.W.kla_obj "<lambda>" qual params body scope cl pm c' ctv)->Q (.ref f) s'):
  JY (J0 X.prog X.w) A (Zk (.Lambda params body scope pos) X.env) Q E s:=by
 obtain⟨l,O⟩:=T;have a2:nW H s.heap P (iT pos qual++l):=I.hok P _ O;obtain⟨qs,S,U,am⟩:=a2;have am:=am pos qual (vI (by decide)) (vI (by decide)) (vI (by decide));have x:=I.mod.glob.keeps I.bk;have CH:=C.keeps I.bk
 have a0:J2≠P:=fun q=>by
  obtain⟨o,es,ep,e,hd,_⟩:=x;rw [q,S]at e;cases e;cases hd
 obtain⟨bm,ob,b1,b2,b3,b4,b5,b6,b7⟩:=B;have y:=I.bk _ _ b4
 have j:bm≠P:=fun q=>by rw [q,S]at y;cases y;cases b5
 have BA:s.heap.BuiltinsAt X.mg P:=⟨bm,ob,b1,b2,b3,j,y,b5,b6,b7⟩;refine PySem.W.kla_eval M ?_;rw [hq];rcases am with nf | ⟨c',hf,a1⟩
 ·refine PySem.W.kla_makeFunction (mg:=X.mg) N I.ok.glob x g CH S U nf a0 BA fun c' ctv h' Y hx a t K G=>?_;have F:H c'=none:=I.hok.fresh a;have a3:P<s.heap.objs.size:=Qo S;have cP:c'≠P:=YF (QD a3 a)
  have Z:∀ b,H b=none->b≠P:=fun b i z=>by rw [z,O]at i;cases i
  have old:∀(o:Obj) b u,b≠P->s.heap.get? b=some u->(h'.push o).get? b=some u:=fun o b u i e=>Qc _ (hx b u i e)
  have a4:aP H c' (.cod qual) P=some (.tbl (iT pos qual++l)):=by rw [aU (Zx cP)];exact O
  have I':∀ o:Obj,Inv X pins σ (aP H c' (.cod qual)) { s with heap:=h'.push o,toks:=Y }:=fun o=>
   I.step (g':=s.gens) (d':=s.drawn) (t':=Y) (ch:=[]) (fun _ z=>nomatch z) (fun b u _ _ _ e n=>old o b u (Z b n) e) (fun b u _ _ _ e n=>⟨u.slots,old o b u (Z b n) e⟩)
    (fun b u _ e n=>by rw [aU (Qw (QD (Qo e) a))];exact n)
    (fun b u _ e=>by
     by_cases i:b=P
     ·exact⟨_,Qc _ (by rw [i];exact G)⟩
     ·exact⟨u,old o b u i e⟩)
    (fun b xs e=>by rw [aU (eE e F)];exact e) (fun b ob u e=>by rw [aU (eE e F)];exact e) (fun b ps e=>⟨#[],by rw [aU (eE e F),e];simp⟩)
    (fun m hm=>by
     obtain⟨ol,es,ep,hl,r⟩:=hm
     exact⟨ol,es,ep,old o _ _ (Z _ I.free) hl,r⟩)
    (fun b u e=>by
     by_cases i:b=c'
     ·subst i;rw [cQ]at e;cases e;exact K.push o
     ·rw [aU i]at e;by_cases j:b=P
      ·subst j;rw [O]at e;cases e
       refine⟨_,Qc _ G,?_,fun k p e1 e2 e3=>?_⟩
       ·rw [Array.toList_append];exact HN _ U
       ·rw [vI (by decide)]at e1 e2 e3;have g1:k.line=pos.line:=Int.ofNat.inj (by simpa [iT,Zy]using e1.symm);have g2:k.col=pos.col:=Int.ofNat.inj (by simpa [iT,Zy]using e2.symm)
        have g3:p=qual:=by simpa [iT]using e3.symm
        subst g3;refine .inr ⟨c',?_,cQ⟩;rw [Array.toList_append]
        have:=codeAmong_snoc (pos:=pos) (c:=.ref c') qs.toList U nf
        rw [MB g1 g2];exact this
      ·refine(I.hok b u e).stay (fun d v hd q=>?_) (fun d q=>by rw [aU (eE q F)];exact q) fun d xs q=>by rw [aU (eE q F)];exact q
       refine old o d v ?_ q;rcases hd with rfl | hd
       ·exact j
       ·rintro rfl
        rw [O]at hd;cases hd) I.bare
  exact h _ c' _ ctv _ _ (.inr ⟨F,rfl⟩) (I' _) cQ (YE (Yh a t)) (by rw [aU (YF t)];exact I.hok.fresh (YE (Yh a t))) (Qt _ rfl)
 ·refine PySem.W.kla_makeFunctionHit (mg:=X.mg) N I.ok.glob x g CH S U hf BA fun ctv h' Y hk J=>?_;exact h _ c' _ ctv H _ (.inl rfl) (I.kept fun b u e=>Qc _ (hk b u e)) a1 J (I.hok.fresh J) (Qt _ rfl)
end
end LM
namespace ST
open PySem.SetTable
def fI(M i:Nat):Nat:=(i * 5+1) % (M+1)
def i6(M:Nat):Nat->Nat->Nat
 | 0,i=>i
 | n+1,i=>i6 M n (fI M i)
theorem rZ(M:Nat):∀ a b i,i6 M (a+b) i=i6 M b (i6 M a i)
 | 0,b,i=>by rw [JK];rfl
 | a+1,b,i=>by rw [Nat.succ_add];exact rZ M a b (fI M i)
def yF(M:Nat):Nat->Nat->List Nat
 | 0,_=>[]
 | n+1,i=>i::yF M n (fI M i)
theorem Hf(M:Nat):∀(n i j:Nat),j∈yF M n i->∃ k,k<n/\i6 M k i=j
 | 0,i,j,h=>nomatch h
 | n+1,i,j,h=>by
  rcases Qi.mp h with h | h
  ·exact⟨0,Nat.succ_pos n,h.symm⟩
  ·obtain⟨k,b,a⟩:=Hf M n _ j h
   exact⟨k+1,Nat.succ_lt_succ b,a⟩
def k8(M:Nat):Bool:=(i6 M (M+1) 0 == 0) && (List.range (M+1)).all fun j=>(yF M (M+1) 0).contains j
theorem IH:k8 7=true:=by decide +kernel
theorem IF:k8 31=true:=by decide +kernel
theorem NK:k8 127=true:=by decide +kernel
theorem IE:k8 15=true:=by decide +kernel
theorem IG:k8 63=true:=by decide +kernel
theorem NL:k8 255=true:=by decide +kernel
theorem NM:k8 511=true:=by decide +kernel
def fC(M:Nat):Prop:=M=7 ∨ M=31 ∨ M=127 ∨ M=15 ∨ M=63 ∨ M=255 ∨ M=511
theorem fC.cyc{M:Nat}(g:fC M):k8 M=true:=by
 rcases g with rfl | rfl | rfl | rfl | rfl | rfl | rfl
 ·exact IH
 ·exact IF
 ·exact NK
 ·exact IE
 ·exact IG
 ·exact NL
 ·exact NM
theorem ID{M:Nat}(g:fC M):i6 M (M+1) 0=0/\∀ j,j<=M->∃ k,k<=M/\i6 M k 0=j:=by
 have h:=g.cyc;unfold k8 at h;rw [Qy,beq_iff_eq,QM]at h
 refine⟨h.1,fun j b=>?_⟩
 have:=h.2 j (QR.mpr (by lia))
 obtain⟨k,c,a⟩:=Hf M (M+1) 0 j (Qr.mp this)
 exact⟨k,by lia,a⟩
theorem cyc{M i j:Nat}(g:fC M)(b:i<=M)(a:j<=M):∃ k,k<=M/\i6 M k i=j:=by
 obtain⟨z,c⟩:=ID g;obtain⟨m,e,rfl⟩:=c i b;obtain⟨n,d,rfl⟩:=c j a;by_cases q:m<=n
 ·refine⟨n-m,by lia,?_⟩
  rw [<- rZ];congr 1;lia
 ·refine⟨n+(M+1)-m,by lia,?_⟩
  rw [<- rZ,show m+(n+(M+1)-m)=(M+1)+n by lia,rZ,z]
def iE(M:Nat)(p:Probe):Probe:=
 if p.more > 0 then{ p with j:=p.j+1,more:=p.more-1 } else
 { p with j:=(leap M p.i p.perturb).1,more:=ZM M (leap M p.i p.perturb).1-(leap M p.i p.perturb).1,i:=(leap M p.i p.perturb).1,perturb:=(leap M p.i p.perturb).2 }
def run(M:Nat)(l:Nat × Nat):Probe:={ j:=l.1,more:=ZM M l.1-l.1,i:=l.1,perturb:=l.2,dummy:=none }
def L(M:Nat)(h:Int):Nat->Nat × Nat
 | 0=>(bits h % (M+1),bits h)
 | k+1=>leap M (L M h k).1 (L M h k).2
def P(M:Nat)(h:Int):Nat->Probe
 | 0=>run M (L M h 0)
 | n+1=>iE M (P M h n)
theorem tH(M:Nat)(h:Int):∀ k,(L M h k).1<=M
 | 0=>Y7 (Nat.mod_lt _ (Nat.succ_pos _))
 | k+1=>Y7 (Nat.mod_lt _ (Nat.succ_pos _))
theorem wM{M i:Nat}(h:i<=M):i<=ZM M i/\ZM M i<=M/\ZM M i-i<=9:=by
 unfold ZM
 split <;> lia
theorem xR(M:Nat)(h:Int):∀ n,(P M h n).j+(P M h n).more<=M/\(P M h n).dummy=none
 | 0=>by
  have:=wM (tH M h 0)
  show(L M h 0).1+(ZM M (L M h 0).1-(L M h 0).1)<=M/\none=none
  exact⟨by lia,rfl⟩
 | n+1=>by
  obtain⟨b,a⟩:=xR M h n
  show(iE M (P M h n)).j+(iE M (P M h n)).more<=M/\(iE M (P M h n)).dummy=none
  unfold iE;split
  ·exact⟨by show(P M h n).j+1+((P M h n).more-1)<=M;lia,a⟩
  ·refine⟨?_,a⟩
   have:(leap M (P M h n).i (P M h n).perturb).1<=M:=Y7 (Nat.mod_lt _ (Nat.succ_pos _))
   have:=wM this
   show(leap M (P M h n).i (P M h n).perturb).1+(ZM M (leap M (P M h n).i (P M h n).perturb).1-(leap M (P M h n).i (P M h n).perturb).1)<=M
   lia
theorem xQ(M:Nat)(h:Int)(n:Nat):(P M h n).j<=M:=by have:=(xR M h n).1;lia
theorem zN{M:Nat}{h:Int}{n k:Nat}(e:P M h n=run M (L M h k)):∀ d,d<=ZM M (L M h k).1-(L M h k).1->
  P M h (n+d)={ j:=(L M h k).1+d,more:=ZM M (L M h k).1-(L M h k).1-d,i:=(L M h k).1,perturb:=(L M h k).2,dummy:=none }
 | 0,_=>e
 | d+1,hd=>by
  show iE M (P M h (n+d))=_
  rw [zN e d (by lia)];unfold iE;rw [if_pos (show ZM M (L M h k).1-(L M h k).1-d > 0 by lia)];rfl
theorem Dr{M:Nat}{h:Int}{n k:Nat}(e:P M h n=run M (L M h k)):P M h (n+(ZM M (L M h k).1-(L M h k).1)+1)=run M (L M h (k+1)):=by
 show iE M (P M h (n+(ZM M (L M h k).1-(L M h k).1)))=_
 rw [zN e _ (Qk _)];unfold iE;rw [if_neg (show ¬ ZM M (L M h k).1-(L M h k).1-(ZM M (L M h k).1-(L M h k).1) > 0 by lia)];rfl
theorem Cf(M:Nat)(h:Int):∀ k,∃ n,n<=10 * k/\P M h n=run M (L M h k)
 | 0=>⟨0,Qk _,rfl⟩
 | k+1=>by
  obtain⟨n,a,e⟩:=Cf M h k
  have:=wM (tH M h k)
  exact⟨_,by lia,Dr e⟩
theorem DJ(M:Nat)(h:Int):∀ k,(L M h k).2=bits h / 32 ^ k
 | 0=>by show bits h=_;rw [Nat.pow_zero,Nat.div_one]
 | k+1=>by
  show(L M h k).2 / 32=_
  rw [DJ M h k,Nat.div_div_eq_div_mul,<- Nat.pow_succ]
theorem MK(h:Int):bits h<36893488147419103232:=by
 unfold bits
 have:h % (2 ^ 64:Int)<2 ^ 64:=Jy _ (by decide)
 have a:(2 ^ 64:Int)=18446744073709551616:=by decide
 rw [a]at this ⊢;lia
theorem BN(M:Nat)(h:Int):∀ k,(L M h (13+k)).2=0/\(L M h (13+k)).1=i6 M k (L M h 13).1
 | 0=>by
  refine⟨?_,rfl⟩
  rw [DJ];exact Nat.div_eq_of_lt (MK h)
 | k+1=>by
  obtain⟨b,a⟩:=BN M h k
  show(L M h (13+k)).2 / 32=0/\((L M h (13+k)).1 * 5+1+(L M h (13+k)).2 / 32) % (M+1)=i6 M (k+1) (L M h 13).1
  rw [b,a,rZ]
  exact⟨rfl,rfl⟩
theorem Ez{M:Nat}(g:fC M)(h:Int){j:Nat}(a:j<=M):∃ k,k<U1 M/\(L M h k).1=j:=by
 obtain⟨k,b,e⟩:=cyc g (tH M h 13) a
 exact⟨13+k,by unfold U1;lia,by rw [(BN M h k).2,e]⟩
theorem IC{M:Nat}(g:fC M)(h:Int){j:Nat}(a:j<=M):∃ n,n<10 * U1 M/\(P M h n).j=j:=by
 obtain⟨k,c,e⟩:=Ez g h a;obtain⟨n,b,q⟩:=Cf M h k
 exact⟨n,by lia,by rw [q,<- e];rfl⟩
abbrev Up(l:List Nat):Prop:=l.Pairwise (· < ·)
theorem Up.at{l:List Nat}(s:Up l){i k x y:Nat}(b:l[i]?=some x)(a:l[k]?=some y)(h:i<k):x<y:=by
 obtain⟨d,rfl⟩:=Qe.mp b;obtain⟨c,rfl⟩:=Qe.mp a;exact List.pairwise_iff_getElem.mp s i k d c h
theorem Up.le{l:List Nat}(s:Up l){i k x y:Nat}(b:l[i]?=some x)(a:l[k]?=some y)(h:i<=k):x<=y:=by
 by_cases e:i=k
 ·subst e;rw [b]at a;cases a;exact Qk _
 ·exact YE (s.at b a (by lia))
theorem Up.nodup{l:List Nat}(s:Up l):l.Nodup:=s.imp fun h=>Qw h
theorem Ba(xs:Array Nat)(s:Up xs.toList)(j:Nat):∀ fuel lo hi,lo<=hi->hi<=xs.size->hi-lo<=fuel->
  (∀ i x,xs.toList[i]?=some x->i<lo->x<j)->(∀ i x,xs.toList[i]?=some x->hi<=i->j<=x)->
  below.go xs j fuel lo hi<=xs.size/\(∀ i x,xs.toList[i]?=some x->i<below.go xs j fuel lo hi->x<j)/\(∀ i x,xs.toList[i]?=some x->below.go xs j fuel lo hi<=i->j<=x)
 | 0,lo,hi,h1,h2,h3,a,b=>by
  have e:lo=hi:=by lia
  subst e
  exact⟨h2,a,b⟩
 | fuel+1,lo,hi,h1,h2,h3,a,b=>by
  unfold below.go;by_cases c:lo<hi
  ·rw [if_pos c];dsimp only
   have k:(lo+hi) / 2<xs.size:=by lia
   have h:xs.toList[(lo+hi) / 2]?=some (xs.getD ((lo+hi) / 2) j):=by
    rw [QN,QK k]
    simp [US,k]
   by_cases d:xs.getD ((lo+hi) / 2) j<j
   ·rw [if_pos d];exact Ba xs s j fuel _ _ (by lia) h2 (by lia) (fun i x g f=>Yh (s.le g h (by lia)) d) b
   ·rw [if_neg d];exact Ba xs s j fuel _ _ (by lia) (by lia) (by lia) a (fun i x g f=>Qv (by lia) (s.le h g f))
  ·rw [if_neg c]
   have e:lo=hi:=by lia
   subst e
   exact⟨h2,a,b⟩
theorem oY(xs:Array Nat)(s:Up xs.toList)(j:Nat):Zh xs j<=xs.size/\(∀ i x,xs.toList[i]?=some x->i<Zh xs j->x<j)/\(∀ i x,xs.toList[i]?=some x->Zh xs j<=i->j<=x):=
 Ba xs s j _ _ _ (QY _) (Qk _) (by lia) (fun i x _ h=>absurd h (YD _)) fun i x a h=>by
  obtain⟨q,_⟩:=Qe.mp a;rw [Qs]at q;lia
structure gL(t:SetTable)(hs:List Int):Prop where
 good:fC t.mask
 dum:t.dummies=#[]
 len:t.place.toList.length=hs.length
 up:Up t.place.toList
 le:∀ x∈t.place.toList,x<=t.mask
 room:t.place.toList.length * 5<t.mask * 3
 reach:∀ q∈t.place.toList.zip hs,∃ n,(P t.mask q.2 n).j=q.1/\∀ m,m<n->(P t.mask q.2 m).j∈t.place.toList
theorem wW{t:SetTable}(hd:t.dummies=#[])(s:Up t.place.toList)(j:Nat):(∃ i,t.slot j=.live i/\t.place.toList[i]?=some j) ∨ (t.slot j=.empty/\j∉t.place.toList):=by
 obtain⟨m,l,k⟩:=oY t.place s j;unfold slot;dsimp only;by_cases c:(t.place[Zh t.place j]? == some j)=true
 ·rw [if_pos c];exact .inl ⟨_,rfl,by rw [QN];exact Yv c⟩
 ·rw [if_neg c,hd];refine .inr ⟨rfl,fun g=>c ?_⟩;obtain⟨i,d⟩:=Q5 g
  have e:i=Zh t.place j:=by
   by_cases a:i<Zh t.place j
   ·have:=l i j d a;lia
   ·by_cases b:i=Zh t.place j
    ·exact b
    ·have h:Zh t.place j<t.place.toList.length:=by
      obtain⟨q,_⟩:=Qe.mp d;lia
     have f:=Qh h
     have:=s.at f d (by lia)
     have:=k _ _ f (Qk _)
     lia
  rw [<- e,<- QN,d];simp
theorem Gy{t:SetTable}(hd:t.dummies=#[])(s:Up t.place.toList){j i:Nat}(h:t.slot j=.live i):t.place.toList[i]?=some j:=by
 rcases wW hd s j with⟨c,a,b⟩ | ⟨a,_⟩
 ·rw [h]at a;cases a;exact b
 ·rw [h]at a;cases a
theorem Kd{p:Nat->Prop}[DecidablePred p]:∀ n,p n->∃ m,m<=n/\p m/\∀ k,k<m->¬ p k:=by
 intro n
 induction n using Nat.strongRecOn with
 | ind n d=>
  intro h;by_cases c:∃ k,k<n/\p k
  ·obtain⟨k,b,a⟩:=c;obtain⟨m,g,f,e⟩:=d k b a
   exact⟨m,by lia,f,e⟩
  ·exact⟨n,Qk _,h,fun k b a=>c ⟨k,b,a⟩⟩
theorem LL{M:Nat}{l:List Nat}(h:l.length<=M):∃ j,j<=M/\j∉l:=by
 refine YI fun c=>?_
 have:List.range (M+1) ⊆ l:=fun j b=>YI fun a=>c ⟨j,by have:=QR.mp b;lia,a⟩
 have:=Yq List.nodup_range this
 rw [Yg]at this;lia
theorem DQ{M:Nat}{l:List Nat}(g:fC M)(h:l.length<=M)(x:Int):∃ n,n<10 * U1 M/\(P M x n).j∉l/\∀ m,m<n->(P M x m).j∈l:=by
 obtain⟨j,e,c⟩:=LL h;obtain⟨n,o,f⟩:=IC g x e;obtain⟨m,i,b,a⟩:=Kd (p:=fun n=>(P M x n).j∉l) n (by rw [f];exact c)
 exact⟨m,by lia,b,fun k d=>YI (a k d)⟩
section
variable {t:SetTable}{hs:List Int}{hashAt:Nat->Int}{h:Int}{n:Nat}
theorem FZ(T:gL t hs)(u:(P t.mask h n).j∉t.place.toList)(s:∀ m,m<n->(P t.mask h m).j∈t.place.toList):∀ fuel c,c<=n->n-c<fuel->
  (UI t hashAt h fuel (P t.mask h c)=some (.empty (P t.mask h n).j none)/\∀ m,c<=m->m<n->∀ i,t.slot (P t.mask h m).j=.live i->hashAt i≠h)
  ∨ ∃ m i,c<=m/\m<n/\t.slot (P t.mask h m).j=.live i/\hashAt i=h/\(∀ m',c<=m'->m'<m->∀ i,t.slot (P t.mask h m').j=.live i->hashAt i≠h)/\UI t hashAt h fuel (P t.mask h c)=some (.candidate (P t.mask h m).j i (P t.mask h (m+1)))
 | 0,c,_,hf=>absurd hf (YD _)
 | fuel+1,c,hc,hf=>by
  unfold UI;by_cases e:c=n
  ·subst e;rcases wW T.dum T.up (P t.mask h c).j with⟨i,f,l⟩ | ⟨f,_⟩
   ·exact absurd (QP l) u
   ·rw [f];refine .inl ⟨?_,fun m a b=>by lia⟩
    show some (Met.empty (P t.mask h c).j (P t.mask h c).dummy)=_
    rw [(xR t.mask h c).2]
  ·rcases wW T.dum T.up (P t.mask h c).j with⟨i,f,l⟩ | ⟨_,l⟩
   ·rw [f];dsimp only;by_cases k:(hashAt i == h)=true
    ·rw [if_pos k];exact .inr ⟨c,i,Qk _,by lia,f,Yv k,fun m' a b=>by lia,rfl⟩
    ·rw [if_neg k];have r:hashAt i≠h:=fun e=>k (by rw [e];simp);rcases FZ T u s fuel (c+1) (by lia) (by lia)with⟨a,b⟩ | ⟨m,i',a1,a2,a3,a4,a5,a6⟩
     ·refine .inl ⟨a,fun m p g o d=>?_⟩;by_cases q:m=c
      ·subst q;rw [f]at d;cases d;exact r
      ·exact b m (by lia) g o d
     ·refine .inr ⟨m,i',by lia,a2,a3,a4,fun m' p g o d=>?_,a6⟩;by_cases q:m'=c
      ·subst q;rw [f]at d;cases d;exact r
      ·exact a5 m' (by lia) g o d
   ·exact absurd (s c (by lia)) l
theorem met(T:gL t hs)(k:(P t.mask h n).j∉t.place.toList){i j:Nat}(b:t.place.toList[i]?=some j)(g:hs[i]?=some h):∃ m,m<n/\(P t.mask h m).j=j:=by
 have f:(j,h)∈t.place.toList.zip hs:=QP (i:=i) (by rw [YJ];exact⟨b,g⟩);obtain⟨m,e,a⟩:=T.reach _ f
 refine⟨m,YI fun c=>k ?_,e⟩
 by_cases d:n=m
 ·subst d;rw [e];exact QP b
 ·exact a n (by lia)
end
theorem kQ{a:Type}(xs:Array a)(p:Nat)(x:a):(Zm xs p x).toList=xs.toList.take p++x::xs.toList.drop p:=by
 rw [SetTable.toList_insertAt]
theorem RL{t:SetTable}{hs:List Int}{h:Int}{n:Nat}(T:gL t hs)(E:(P t.mask h n).j∉t.place.toList)(B:∀ m,m<n->(P t.mask h m).j∈t.place.toList)
  (H:(t.place.toList.length+1) * 5<t.mask * 3) (u:Bool):
  gL { (t.put (P t.mask h n).j).1 with plain:=u } (hs.take (t.put (P t.mask h n).j).2++h::hs.drop (t.put (P t.mask h n).j).2):=by
 obtain⟨I,G,F⟩:=oY t.place T.up (P t.mask h n).j
 have c:∀ x,x∈(Zm t.place (Zh t.place (P t.mask h n).j) (P t.mask h n).j).toList ↔ x=(P t.mask h n).j ∨ x∈t.place.toList:=by
  intro x;rw [kQ,Qx,Qi]
  conv=>rhs;rw [<- Ye (Zh t.place (P t.mask h n).j) t.place.toList,Qx]
  constructor
  ·rintro(a | a | a)
   ·exact .inr (.inl a)
   ·exact .inl a
   ·exact .inr (.inr a)
  ·rintro(a | a | a)
   ·exact .inr (.inl a)
   ·exact .inl a
   ·exact .inr (.inr a)
 refine⟨T.good,?_,?_,?_,?_,?_,?_⟩
 ·show(if has t.dummies _=true then _ else t.dummies)=#[]
  rw [T.dum];rfl
 ·show(Zm t.place (Zh t.place (P t.mask h n).j) (P t.mask h n).j).toList.length=(hs.take (Zh t.place (P t.mask h n).j)++h::hs.drop (Zh t.place (P t.mask h n).j)).length
  rw [kQ];simp only [Qf,Q0,QE,YG];rw [T.len]
 ·show Up (Zm t.place (Zh t.place (P t.mask h n).j) (P t.mask h n).j).toList
  rw [kQ];unfold Up;rw [List.pairwise_append]
  have o:∀ x∈t.place.toList.take (Zh t.place (P t.mask h n).j),x<(P t.mask h n).j:=fun x f=>by
   obtain⟨i,d⟩:=Q5 f;rw [List.getElem?_take]at d
   split at d
   ·rename_i q;exact G i x d q
   ·cases d
  have p:∀ x∈t.place.toList.drop (Zh t.place (P t.mask h n).j),(P t.mask h n).j<x:=fun x f=>by
   obtain⟨i,d⟩:=Q5 f;rw [List.getElem?_drop]at d
   have:=F _ x d (by lia)
   have y:x≠(P t.mask h n).j:=fun e=>E (e ▸ QP d);lia
  refine⟨T.up.sublist (List.take_sublist _ _),Q9.mpr ⟨p,T.up.sublist (List.drop_sublist _ _)⟩,fun a s b r=>?_⟩
  rcases Qi.mp r with rfl | r
  ·exact o a s
  ·exact Nat.lt_trans (o a s) (p b r)
 ·intro x f
  rcases(c x).mp f with rfl | f
  ·exact xQ _ _ _
  ·exact T.le x f
 ·show(Zm t.place (Zh t.place (P t.mask h n).j) (P t.mask h n).j).toList.length * 5<t.mask * 3
  rw [kQ];simp only [Qf,Q0,QE,YG];lia
 ·intro q w
  have v:(Zm t.place (Zh t.place (P t.mask h n).j) (P t.mask h n).j).toList.zip (hs.take (Zh t.place (P t.mask h n).j)++h::hs.drop (Zh t.place (P t.mask h n).j))=(t.place.toList.take (Zh t.place (P t.mask h n).j)).zip (hs.take (Zh t.place (P t.mask h n).j))++((P t.mask h n).j,h)::(t.place.toList.drop (Zh t.place (P t.mask h n).j)).zip (hs.drop (Zh t.place (P t.mask h n).j)):=by
   rw [kQ,List.zip_append (by rw [Q0,Q0,T.len]),Jx]
  have g:q=((P t.mask h n).j,h) ∨ q∈t.place.toList.zip hs:=by
   have l:q∈(Zm t.place (Zh t.place (P t.mask h n).j) (P t.mask h n).j).toList.zip (hs.take (Zh t.place (P t.mask h n).j)++h::hs.drop (Zh t.place (P t.mask h n).j)):=w;rw [v,Qx,Qi]at l
   conv=>rhs;rw [<- Ye (Zh t.place (P t.mask h n).j) t.place.toList,<- Ye (Zh t.place (P t.mask h n).j) hs,List.zip_append (by rw [Q0,Q0,T.len]),Qx]
   rcases l with a | a | a
   ·exact .inr (.inl a)
   ·exact .inl a
   ·exact .inr (.inr a)
  rcases g with rfl | g
  ·exact⟨n,rfl,fun m z=>(c _).mpr (.inr (B m z))⟩
  ·obtain⟨m,e,a⟩:=T.reach q g
   exact⟨m,e,fun k A=>(c _).mpr (.inr (a k A))⟩
structure gK(M:Nat)(hs:List Int)(ow:Array (Option Nat)):Prop where
 size:ow.size=M+1
 lt:∀ j i:Nat,ow[j]?=some (some i)->i<hs.length
 all:∀ i,i<hs.length->∃ j:Nat,ow[j]?=some (some i)
 inj:∀ j j' i:Nat,ow[j]?=some (some i)->ow[j']?=some (some i)->j=j'
 reach:∀(j i:Nat) (h:Int),ow[j]?=some (some i)->hs[i]?=some h->∃ n,(P M h n).j=j/\∀ m,m<n->∃ i',ow[(P M h m).j]?=some (some i')
theorem gK.free{M:Nat}{hs:List Int}{ow:Array (Option Nat)}(W:gK M hs ow)(h:hs.length<=M):∃ j:Nat,j<=M/\ow[j]?=some none:=by
 refine YI fun c=>?_
 have m:∀ j,j<=M->∃ i,ow[j]?=some (some i):=fun j f=>by
  have d:j<ow.size:=by rw [W.size];lia
  cases e:ow[j]with
  | none=>exact absurd ⟨j,f,by rw [QK d,e]⟩ c
  | some i=>exact⟨i,by rw [QK d,e]⟩
 have e:∀ j,j<=M->ow[j]?=some (some ((ow.getD j none).getD 0)):=fun j f=>by
  obtain⟨i,g⟩:=m j f
  have d:j<ow.size:=by rw [W.size];lia
  rw [g];rw [QK d]at g
  have:ow.getD j none=some i:=by simp [US,d];exact QJ g
  rw [this];rfl
 have k:(List.range (M+1)).map (fun j=>(ow.getD j none).getD 0) ⊆ List.range hs.length:=fun i g=>by
  obtain⟨j,f,rfl⟩:=QT.mp g;exact QR.mpr (W.lt j _ (e j (by have:=QR.mp f;lia)))
 have n:((List.range (M+1)).map (fun j=>(ow.getD j none).getD 0)).Nodup:=by
  unfold List.Nodup;rw [Q2];refine List.Pairwise.imp_of_mem ?_ List.nodup_range;intro a b q p l o;refine l (W.inj a b _ (e a (by have:=QR.mp q;lia)) ?_);rw [o];exact e b (by have:=QR.mp p;lia)
 have:=Yq n k
 rw [Ql,Yg,Yg]at this;lia
theorem DR{M:Nat}{ow:Array (Option Nat)}{h:Int}(hsz:ow.size=M+1):∀ fuel k n,P M h n=run M (L M h k)->(∀ m,m<n->∃ i,ow[(P M h m).j]?=some (some i))->
  (∃ kk,k<=kk/\kk<k+fuel/\ow[(L M h kk).1]?=some none)->
  ∃ n',layClean.free M ow fuel (L M h k).1 (L M h k).2=some (P M h n').j/\ow[(P M h n').j]?=some none/\∀ m,m<n'->∃ i,ow[(P M h m).j]?=some (some i)
 | 0,k,n,e,a,⟨kk,h1,h2,_⟩=>by lia
 | fuel+1,k,n,e,a,⟨kk,h1,h2,h3⟩=>by
  have y:=wM (tH M h k)
  have b:∀ d,d<=ZM M (L M h k).1-(L M h k).1->ow[(L M h k).1+d]?=some (ow.getD ((L M h k).1+d) (some 0)):=fun d hd=>by
   have r:(L M h k).1+d<ow.size:=by lia
   rw [QK r]
   simp [US,r]
  have o:∀ d,d<=ZM M (L M h k).1-(L M h k).1->(P M h (n+d)).j=(L M h k).1+d:=fun d hd=>by rw [zN e d hd]
  unfold layClean.free
  cases q:(List.range (ZM M (L M h k).1+1-(L M h k).1)).find? fun d=>(ow.getD ((L M h k).1+d) (some 0)).isNone with
  | some d=>
   rw [List.find?_range_eq_some]at q;obtain⟨v,u,t⟩:=q
   have hd:d<=ZM M (L M h k).1-(L M h k).1:=by have:=QR.mp u;lia
   refine⟨n+d,?_,?_,fun m w=>?_⟩
   ·rw [o d hd]
   ·rw [o d hd,b d hd,Option.isNone_iff_eq_none.mp v]
   ·by_cases c:m<n
    ·exact a m c
    ·have:=t (m-n) (by lia)
     have f:m-n<=ZM M (L M h k).1-(L M h k).1:=by lia
     have l:=o (m-n) f;rw [show n+(m-n)=m by lia]at l;rw [l,b (m-n) f]
     cases p:ow.getD ((L M h k).1+(m-n)) (some 0)with
     | none=>rw [p]at this;simp at this
     | some i=>exact⟨i,rfl⟩
  | none=>
   rw [List.find?_eq_none]at q
   have g:∀ d,d<=ZM M (L M h k).1-(L M h k).1->∃ i,ow[(L M h k).1+d]?=some (some i):=fun d hd=>by
    have:=q d (QR.mpr (by lia))
    rw [b d hd]
    cases p:ow.getD ((L M h k).1+d) (some 0)with
    | none=>rw [p]at this;simp at this
    | some i=>exact⟨i,rfl⟩
   have z:kk≠k:=fun x=>by
    subst x;obtain⟨i,s⟩:=g 0 (QY _);rw [Nat.add_zero,h3]at s;cases s
   refine DR hsz fuel (k+1) _ (Dr e) (fun m w=>?_) ⟨kk,by lia,by lia,h3⟩;by_cases c:m<n
   ·exact a m c
   ·have f:m-n<=ZM M (L M h k).1-(L M h k).1:=by lia
    have l:=o (m-n) f;rw [show n+(m-n)=m by lia]at l;rw [l];exact g (m-n) f
theorem gK.put{M:Nat}{hs:List Int}{ow:Array (Option Nat)}{h:Int}{n:Nat}(W:gK M hs ow)(q:ow[(P M h n).j]?=some none)(v:∀ m,m<n->∃ i,ow[(P M h m).j]?=some (some i)):
  gK M (hs++[h]) (ow.setIfInBounds (P M h n).j (some hs.length)):=by
 have t:(P M h n).j<ow.size:=by rw [W.size];have:=xQ M h n;lia
 have f:∀ j,(ow.setIfInBounds (P M h n).j (some hs.length))[j]?=if(P M h n).j=j then some (some hs.length)else ow[j]?:=fun j=>by
  rw [Array.getElem?_setIfInBounds];split
  ·first | rfl | rw [if_pos t]
  ·rfl
 have g:∀ j:Nat,(∃ i,ow[j]?=some (some i))->∃ i,(ow.setIfInBounds (P M h n).j (some hs.length))[j]?=some (some i):=fun j r=>by
  obtain⟨i,o⟩:=r;rw [f];split
  ·exact⟨_,rfl⟩
  ·exact⟨i,o⟩
 refine⟨by simpa using W.size,fun j i b=>?_,fun i o=>?_,fun j p i b d=>?_,fun j i x b l=>?_⟩
 ·rw [Qf,QF];rw [f]at b
  split at b
  ·cases b;lia
  ·have:=W.lt j i b;lia
 ·rw [Qf,QF]at o;by_cases c:i<hs.length
  ·obtain⟨j,b⟩:=W.all i c
   refine⟨j,?_⟩
   rw [f,if_neg (fun e=>by rw [e,b]at q;cases q)];exact b
  ·refine⟨(P M h n).j,?_⟩
   rw [f,if_pos rfl,show i=hs.length by lia]
 ·rw [f]at b d
  split at b
  ·rename_i e;cases b
   split at d
   ·rename_i w;rw [<- e,<- w]
   ·have:=W.lt p _ d;lia
  ·split at d
   ·cases d
    have:=W.lt j _ b;lia
   ·exact W.inj j p i b d
 ·rw [f]at b
  split at b
  ·rename_i e;cases b;rw [YS (Qk _),Nat.sub_self]at l;cases l
   exact⟨n,e,fun m s=>g _ (v m s)⟩
  ·rw [YW (W.lt j i b)]at l;obtain⟨m,e,a⟩:=W.reach j i x b l
   exact⟨m,e,fun k u=>g _ (a k u)⟩
def x4(M:Nat)(a:Option (Array (Option Nat) × Nat))(h:Int):Option (Array (Option Nat) × Nat):=do
 let(owner,k) <- a
 let j <- layClean.free M owner (U1 M) (bits h % (M+1)) (bits h)
 pure (owner.setIfInBounds j (some k),k+1)
theorem Et{M:Nat}(g:fC M):∀(rest done:List Int) (ow:Array (Option Nat)),gK M done ow->(done++rest).length<=M->∃ ow',rest.foldl (x4 M) (some (ow,done.length))=some (ow',(done++rest).length)/\gK M (done++rest) ow'
 | [],done,ow,W,_=>⟨ow,by rw [QO];rfl,by rw [QO];exact W⟩
 | h::rest,done,ow,W,hl=>by
  rw [Qf,QE]at hl;obtain⟨j,l,o⟩:=W.free (by lia);obtain⟨i,q,e⟩:=Ez g h l;obtain⟨n,f,d,c⟩:=DR (h:=h) W.size (U1 M) 0 0 rfl (fun m k=>absurd k (YD _)) ⟨i,QY _,by lia,by rw [e];exact o⟩;have p:=W.put d c;obtain⟨ow',b,a⟩:=Et g rest (done++[h]) _ p (by simp;lia)
  refine⟨ow',?_,by rw [<- List.append_cons]at a;exact a⟩
  rw [YM]
  have:x4 M (some (ow,done.length)) h=some (ow.setIfInBounds (P M h n).j (some done.length),(done++[h]).length):=by
   show(layClean.free M ow (U1 M) (L M h 0).1 (L M h 0).2).bind _=_
   rw [f,Qf];rfl
  rw [this,b,<- List.append_cons]
theorem K5(M:Nat):gK M [] (Z9 (M+1) none):=by
 have:∀(j:Nat) (i:Nat),(Z9 (M+1) (none:Option Nat))[j]?=some (some i)->False:=fun j i h=>by
  rw [Array.getElem?_replicate]at h
  split at h <;> simp at h
 exact⟨by simp,fun j i h=>(this j i h).elim,fun i a=>absurd a (YD _),fun j b i h=>(this j i h).elim,fun j i _ h=>(this j i h).elim⟩
theorem Ov{M:Nat}(g:fC M)(hs:Array Int)(a:hs.size<=M):∃ ow,layClean M hs=some ow/\gK M hs.toList ow:=by
 obtain⟨ow,c,b⟩:=Et g hs.toList [] _ (K5 M) (by simpa using a)
 refine⟨ow,?_,b⟩
 unfold layClean;rw [<- Array.foldl_toList]
 show(hs.toList.foldl (x4 M) (some (Z9 (M+1) none,0))).map (·.1)=_
 rw [show(0:Nat)=([]:List Int).length from rfl,c];rfl
def gP(M:Nat)(ow:Array (Option Nat)):List (Nat × Nat):=(List.range (M+1)).filterMap fun j=>(ow.getD j none).map (j,·)
theorem nF{M:Nat}{hs:List Int}{ow:Array (Option Nat)}(W:gK M hs ow)(q:Nat × Nat):q∈gP M ow ↔ q.1<=M/\ow[q.1]?=some (some q.2):=by
 unfold gP;rw [List.mem_filterMap];constructor
 ·rintro⟨j,c,e⟩
  have a:j<ow.size:=by rw [W.size];exact QR.mp c
  cases b:ow.getD j none with
  | none=>rw [b]at e;cases e
  | some i=>
   rw [b]at e;cases e
   refine⟨by have:=QR.mp c;show j<=M;lia,?_⟩
   show ow[j]?=some (some i)
   rw [QK a]
   simp [US,a]at b
   rw [b]
 ·rintro⟨f,d⟩
  have a:q.1<ow.size:=by rw [W.size];lia
  refine⟨q.1,QR.mpr (by lia),?_⟩
  rw [QK a]at d
  have:ow.getD q.1 none=some q.2:=by simp [US,a];exact QJ d
  rw [this];rfl
theorem FM(M:Nat)(ow:Array (Option Nat)):(gP M ow).Pairwise fun p q=>p.1<q.1:=by
 unfold gP;rw [List.pairwise_filterMap];refine List.Pairwise.imp ?_ List.pairwise_lt_range;intro a b e x d y c
 cases g:ow.getD a none with
 | none=>rw [g]at d;cases d
 | some i=>
  cases f:ow.getD b none with
  | none=>rw [f]at c;cases c
  | some k=>
   rw [g]at d;rw [f]at c
   cases d;cases c
   exact e
theorem FD{hs:Array Int}{M:Nat}(y v:Nat)(le pl:Bool)(g:fC M)(A:hs.size * 5<M * 3):
  ∃ t' order,laid M y v le pl hs=some (t',order)/\List.Perm order.toList (List.range hs.size)/\gL t' (order.toList.map fun i=>hs.toList.getD i 0)/\t'.led=le/\t'.plain=pl:=by
 obtain⟨ow,E,W⟩:=Ov g hs (by lia)
 have d:List.Perm ((gP M ow).map (·.2)) (List.range hs.size):=by
  rw [List.perm_ext_iff_of_nodup ?_ List.nodup_range]
  ·intro i;rw [QT,QR];constructor
   ·rintro⟨q,f,rfl⟩
    have:=W.lt _ _ ((nF W q).mp f).2
    simpa using this
   ·intro u;obtain⟨j,w⟩:=W.all i (by simpa using u);have t:j<ow.size:=(Yi.mp w).1
    exact⟨(j,i),(nF W (j,i)).mpr ⟨by rw [W.size]at t;show j<=M;lia,w⟩,rfl⟩
  ·unfold List.Nodup;rw [Q2];refine List.Pairwise.imp_of_mem ?_ (FM M ow);intro p q s f k B;have a:=((nF W p).mp s).2;have b:=((nF W q).mp f).2;rw [B]at a
   have:=W.inj _ _ _ a b
   lia
 have l:(gP M ow).length=hs.size:=by
  have:=d.length_eq
  rwa [Ql,Yg]at this
 refine⟨{ mask:=M,place:=((gP M ow).map (·.1)).toArray,dummies:=#[],finger:=y,led:=le,moves:=v,plain:=pl },((gP M ow).map (·.2)).toArray,?_,d,?_,rfl,rfl⟩
 ·unfold laid;rw [E];rfl
 ·refine⟨g,rfl,?_,?_,?_,?_,?_⟩
  ·show((gP M ow).map (·.1)).length=(((gP M ow).map (·.2)).map fun i=>hs.toList.getD i 0).length
   simp
  ·show Up ((gP M ow).map (·.1))
   unfold Up;rw [Q2];exact FM M ow
  ·intro x r;have o:x∈(gP M ow).map (·.1):=r;obtain⟨q,f,rfl⟩:=QT.mp o
   exact((nF W q).mp f).1
  ·show((gP M ow).map (·.1)).length * 5<M * 3
   rw [Ql,l];exact A
  ·intro q f;have h:q∈((gP M ow).map (·.1)).zip (((gP M ow).map (·.2)).map fun i=>hs.toList.getD i 0):=f;rw [Yk,List.zip_map']at h;obtain⟨p,s,rfl⟩:=QT.mp h;obtain⟨a,b⟩:=(nF W p).mp s;have k:=W.lt _ _ b
   have r:hs.toList[p.2]?=some (hs.toList.getD p.2 0):=by
    rw [Yb,Qh k];rfl
   obtain⟨n,e,c⟩:=W.reach _ _ _ b r
   refine⟨n,e,fun m z=>?_⟩
   obtain⟨i,u⟩:=c m z
   show(P M (hs.toList.getD p.2 0) m).j∈(gP M ow).map (·.1)
   exact QT.mpr ⟨((P M (hs.toList.getD p.2 0) m).j,i),(nF W _).mpr ⟨xQ _ _ _,u⟩,rfl⟩
theorem Rk{t:SetTable}{hs:Array Int}{a M:Nat}(c:Zd a-1=M)(g:fC M)(b:hs.size * 5<M * 3):
  ∃ t' order,t.relaid hs a=some (t',order)/\List.Perm order.toList (List.range hs.size)/\gL t' (order.toList.map fun i=>hs.toList.getD i 0)/\t'.led=t.led/\t'.plain=t.plain:=by
 unfold relaid;rw [c];exact FD _ _ _ _ g b
section
variable {prog:JZ}{w:J1}{A:Around}{E:YP->JV->Prop}{s:JV}
abbrev TK(prog:JZ)(w:J1)(h:Heap)(k:List Int)(a:JW):Prop:=IsTupleKey (intKind prog w) h k a
abbrev TH(prog:JZ)(w:J1)(k:List Int):Int:=tupleKeyHash (intKind prog w) k
theorem items_int{b:List Int}{vs:List YP}(h:ItemsAre (intKind prog w) b vs):∀ v∈vs,∃ i t,v=.int i t:=by
 induction h with
 | nil=>intro v a;simp at a
 | @cons k v' b vs h1 _ ih=>
  intro v a;rcases Qi.mp a with rfl | a
  ·obtain⟨t,e⟩:=Ud h1
   exact⟨k,t,e⟩
  ·exact ih v a
theorem G6(n:Nat){k:List Int}{a:JW}{Q:Bool->JV->Prop}(l:TK prog w s.heap k a)(h:Q false s):JY (J0 prog w) A (ofAClassStatement (n+2) (.ref a)) Q E s:=by
 have x:=l.typeIs;obtain⟨o,f,n,p,_,hd,q⟩:=l;have m:=items_int q;unfold ofAClassStatement;refine Qa (Y2 x ?_)
 show JY _ _ (do let b <- (if("tuple" == "tuple")=true then pure true else isSubtype (.type "tuple") (.type "tuple"));_) Q E s
 refine Qa ?_;rw [if_pos (by decide)];refine Qb ?_;simp only [Yw,Qq,if_false];refine Qa (Ji p hd ?_);dsimp only;refine Qa ?_;rw [<- Ua];refine Y0 _ (fun c r e=>r.1=none/\e=s/\∀ v∈c,∃ i t,v=Value.int i t) _ ?_ ?_ _ _ ⟨rfl,rfl,m⟩
 ·rintro v c r e ⟨j,rfl,d⟩;obtain⟨i,t,rfl⟩:=d v Qd;refine Qa ?_;unfold ofAClassStatement;refine Qb ?_;simp only [Qq,if_false];exact Qb ⟨rfl,rfl,fun u g=>d u (Qg _ g)⟩
 ·rintro⟨z,y⟩ e ⟨j,rfl,_⟩
  simp only at j
  subst j;exact Qb h
theorem MM(n:Nat){k:List Int}{a:JW}{Q:Bool->JV->Prop}(j:TK prog w s.heap k a)(h:Q true s):JY (J0 prog w) A (hashByValue (n+2) (.ref a)) Q E s:=by
 have q:=j.typeIs;obtain⟨o,d,n,m,_,hd,p⟩:=j;have l:=items_int p;unfold hashByValue;refine Qa (JA q F.slot_tuple_hash.lookup ?_);dsimp only;refine Qa (Ji m hd ?_);refine Qa ?_
 show JY _ _ (forIn d _ _) _ _ s
 rw [<- Ua];refine Y0 _ (fun b r e=>r.1=none/\e=s/\∀ v∈b,∃ i t,v=Value.int i t) _ ?_ ?_ _ _ ⟨rfl,rfl,l⟩
 ·rintro v b r e ⟨g,rfl,c⟩;obtain⟨i,t,rfl⟩:=c v Qd;refine Qa ?_;unfold hashByValue;refine Qb ?_;simp only [Yw,Qq,if_false];exact Qb ⟨rfl,rfl,fun u f=>c u (Qg _ f)⟩
 ·rintro⟨y,x⟩ e ⟨g,rfl,_⟩
  simp only at g
  subst g;exact Qb h
theorem G8{k:List Int}{a:JW}{d:List YP}{Q:Bool->JV->Prop}(m:TK prog w s.heap k a)(hs:∀ y∈d,∃ k' b,y=.ref b/\TK prog w s.heap k' b)(h:Q false s):
  JY (J0 prog w) A (searchCouldBeSeen (.ref a) d) Q E s:=by
 unfold searchCouldBeSeen;refine Qa ?_;refine Y0 _ (fun e r i=>r.1=none/\i=s/\∀ y∈e,∃ k' b,y=.ref b/\TK prog w s.heap k' b) _ ?_ ?_ _ _ ⟨rfl,rfl,hs⟩
 ·rintro v e r i ⟨l,rfl,g⟩;have f:∀ y∈e,∃ k' b,y=.ref b/\TK prog w i.heap k' b:=fun u j=>g u (Qg _ j);obtain⟨k',b,rfl,n⟩:=g v Qd;dsimp only;by_cases c:(a == b)=true
  ·rw [c];simp only [Bool.true_or,if_true];exact Qb ⟨rfl,rfl,f⟩
  ·rw [if_neg (by simp [carriedByValue,c])];refine Qa (wpAny_eqIsQuiet_tuple m ?_);simp only [Yw,Qq,if_false];refine Qa (wpAny_eqIsQuiet_tuple n ?_);simp only [Yw,Qq,if_false];refine Qa (G6 6 m ?_);simp only [Qq,if_false];refine Qa (G6 6 n ?_);simp only [Qq,if_false];exact Qb ⟨rfl,rfl,f⟩
 ·rintro⟨p,o⟩ i ⟨l,rfl,_⟩
  simp only at l
  subst l;exact Qb h
inductive bV(prog:JZ)(w:J1)(h:Heap):List (Int × YP)->List (List Int)->Prop
 | nil:bV prog w h [] []
 | cons {k:List Int}{b:JW}{es:List (Int × YP)}{ks:List (List Int)}:TK prog w h k b->bV prog w h es ks->bV prog w h ((TH prog w k,.ref b)::es) (k::ks)
theorem bV.at{h:Heap}{es:List (Int × YP)}{a:List (List Int)}(X:bV prog w h es a):∀{i:Nat}{e:Int × YP},es[i]?=some e->∃ k b,a[i]?=some k/\e=(TH prog w k,.ref b)/\TK prog w h k b:=by
 induction X with
 | nil=>intro i e h;simp at h
 | @cons k b es a h1 _ ih=>
  intro i e h
  cases i with
  | zero=>cases h;exact⟨k,b,rfl,rfl,h1⟩
  | succ i=>exact ih (i:=i) (by simpa using h)
theorem bV.length{h:Heap}{es:List (Int × YP)}{a:List (List Int)}(X:bV prog w h es a):es.length=a.length:=by
 induction X with
 | nil=>rfl
 | cons _ _ b=>simp [b]
theorem bV.append{h:Heap}{es b:List (Int × YP)}{c a:List (List Int)}(X:bV prog w h es c)(Y:bV prog w h b a):bV prog w h (es++b) (c++a):=by
 induction X with
 | nil=>exact Y
 | cons e _ d=>exact .cons e d
theorem bV.take{h:Heap}{es:List (Int × YP)}{a:List (List Int)}(X:bV prog w h es a):∀ n,bV prog w h (es.take n) (a.take n):=by
 induction X with
 | nil=>intro n;simpa using bV.nil
 | cons c _ b=>
  intro n
  cases n with
  | zero=>exact .nil
  | succ n=>exact .cons c (b n)
theorem bV.drop{h:Heap}{es:List (Int × YP)}{a:List (List Int)}(X:bV prog w h es a):∀ n,bV prog w h (es.drop n) (a.drop n):=by
 induction X with
 | nil=>intro n;simpa using bV.nil
 | @cons k b es a h1 hr ih=>
  intro n
  cases n with
  | zero=>exact .cons h1 hr
  | succ n=>exact ih n
theorem bV.mono{h h':Heap}{es:List (Int × YP)}{ks:List (List Int)}(X:bV prog w h es ks)(m:∀ k b,TK prog w h k b->TK prog w h' k b):bV prog w h' es ks:=by
 induction X with
 | nil=>exact .nil
 | cons c _ a=>exact .cons (m _ _ c) a
theorem bV.pick{h:Heap}{es:List (Int × YP)}{a:List (List Int)}(X:bV prog w h es a):∀(l:List Nat),(∀ i∈l,i<es.length)->bV prog w h (l.filterMap (es[·]?)) (l.filterMap (a[·]?)):=by
 intro l
 induction l with
 | nil=>intro _;exact .nil
 | cons i l e=>
  intro c;have d:=c i Qd;obtain⟨k,b,n,m,g⟩:=X.at (Qh d);rw [List.filterMap_cons_some (b:=(TH prog w k,J5 b)) (by rw [Qh d,m]),List.filterMap_cons_some (b:=k) n];exact .cons g (e fun j f=>c j (Qg _ f))
theorem gL.fits{t:SetTable}{hs:List Int}(T:gL t hs){n:Nat}(e:hs.length=n):t.fits n=true:=by
 have a:=T.len;have b:=T.room;rw [Qs]at a b;unfold Z6 Z7;rw [T.dum,a,e];rw [a]at b;simp only [Qy,beq_iff_eq,decide_eq_true_eq]
 refine⟨?_,?_⟩
 ·trivial
 ·show n+0<=t.mask
  lia
theorem gL.odd{t:SetTable}{hs:List Int}(T:gL t hs):t.gaveWay=false:=by
 unfold SetTable.gaveWay
 rcases T.good with h | h | h | h | h | h | h <;> rw [h] <;> rfl
theorem G1{a x:JW}{o:Obj}{es:Array (Int × YP)}{ep:Nat}{t:SetTable}{H:List (List Int)}{k:List Int}{n:Nat}{Q:SetFound->JV->Prop}
  (hu:A.units<Za) (W:s.heap.get? a=some o) (hd:o.data=.set es ep t) (T:gL t (es.toList.map (·.1))) (X:bV prog w s.heap es.toList H) (hk:TK prog w s.heap k x)
  (h1:(P t.mask (TH prog w k) n).j∉t.place.toList) (h2:∀ m,m<n->(P t.mask (TH prog w k) m).j∈t.place.toList)
  (q1:k∈H->Q (.there none) s) (q2:k∉H->Q (.free (P t.mask (TH prog w k) n).j false) s):
  ∀ fuel c,c<=n->n<10 * U1 t.mask->n-c<fuel->(∀ m,m<c->∀ i,t.slot (P t.mask (TH prog w k) m).j=.live i->H[i]?≠some k)->∀ stand:Option Probe,stand.getD (t.probeStart (TH prog w k))=P t.mask (TH prog w k) c->
  JY (J0 prog w) A (setSearchFrom a (.ref x) (TH prog w k) true fuel stand) Q E s
 | 0,c,_,_,hf,_,_,_=>absurd hf (YD _)
 | fuel+1,c,hc,hN,hf,inv,stand,hst=>by
  have r:t.fits es.size=true:=T.fits (by simp);unfold setSearchFrom;refine Qa (QU W hd r ?_);dsimp only;rw [hst,if_neg (by rw [T.odd];exact QA)];refine Qa (Qb ?_);generalize N:t.probe _ (TH prog w k) (P t.mask (TH prog w k) c)=met;obtain⟨f,a4,N⟩:∃ f:Nat->Int,(∀ i,f i=(es[i]?.map (·.1)).getD 0)/\t.probe f (TH prog w k) (P t.mask (TH prog w k) c)=met:=⟨_,fun _=>rfl,N⟩
  have key:∀ m i,t.slot (P t.mask (TH prog w k) m).j=.live i->f i≠TH prog w k->H[i]?≠some k:=fun m i F Y Z=>by
   have U:=Gy T.dum T.up F
   have q:i<es.toList.length:=by
    have:=(Qe.mp U).1
    rw [T.len]at this
    simpa using this
   obtain⟨B,b,u,M,e3⟩:=X.at (Qh q);rw [Z]at u;cases u;apply Y;rw [a4,<- QN,Qh q,M];rfl
  have a3:=FZ (hashAt:=f) T h1 h2 (10 * U1 t.mask) c hc (by lia);rcases a3 with⟨g1,g2⟩ | ⟨m,i,g1,g2,g3,g4,g5,g6⟩
  ·have:met=some (.empty (P t.mask (TH prog w k) n).j none):=N.symm.trans g1
   subst this;dsimp only;refine Qb (q2 fun J=>?_);obtain⟨i,F⟩:=Q5 J
   have q:i<es.toList.length:=by rw [X.length];exact(Qe.mp F).1
   obtain⟨B,b,u,M,e3⟩:=X.at (Qh q);rw [F]at u;cases u
   have I:i<t.place.toList.length:=by rw [T.len];simpa using q
   obtain⟨m,hm,hj⟩:=met T h1 (Qh I) (h:=TH prog w k) (by rw [QS,Qh q,M];rfl);obtain⟨p,z,d⟩ | ⟨_,d⟩:=wW T.dum T.up (P t.mask (TH prog w k) m).j
   ·have a0:p=i:=by
     rw [hj]at d;have a1:=Qh I;by_cases S:p<i
     ·have:=T.up.at d a1 S;lia
     ·by_cases O:i<p
      ·have:=T.up.at a1 d O;lia
      ·lia
    subst a0;by_cases cm:m<c
    ·exact inv m cm p z F
    ·exact key m p z (g2 m (by lia) hm p z) F
   ·rw [hj]at d;exact d (Yr _)
  ·have:met=some (.candidate (P t.mask (TH prog w k) m).j i (P t.mask (TH prog w k) (m+1))):=N.symm.trans g6
   subst this;have U:=Gy T.dum T.up g3
   have q:i<es.toList.length:=by
    have:=(Qe.mp U).1
    rw [T.len]at this
    simpa using this
   obtain⟨B,b,u,M,e3⟩:=X.at (Qh q)
   have K:es[i]?=some (TH prog w B,.ref b):=by rw [<- QN,Qh q,M]
   dsimp only
   have v:∀ y∈(es.filter (fun x=>x.1 == TH prog w k)).toList.map (fun x=>x.2),∃ B b,y=.ref b/\TK prog w s.heap B b:=fun y hy=>by
    obtain⟨e,he,rfl⟩:=QT.mp hy
    have a5:e∈es.toList:=by
     rw [Array.toList_filter]at he
     exact(QB.mp he).1
    obtain⟨i2,a2⟩:=Q5 a5;obtain⟨k2,b2,_,z2,z3⟩:=X.at a2
    exact⟨k2,b2,by rw [z2],z3⟩
   split
   all_goals try (refine Qa (G8 hk v ?_);rw [if_neg QA])
   all_goals
    rw [K];dsimp only;refine Qa (Q7 (wpAny_eqBool_tuple hu e3 hk ?_));refine Qa (QU W hd r ?_);dsimp only;by_cases g:B=k
    ·rw [if_pos (by simp [g])];exact Qb (q1 (g ▸ QP u))
    ·rw [if_neg (by simp [g]),show t.sameMemory t.moves t.mask=some true by unfold sameMemory;simp];dsimp only;rw [if_pos rfl,g3];dsimp only;rw [K];dsimp only;refine Qa (wpAny_isSame_ref_self ?_);simp only [if_true];refine Qa (Qb ?_);dsimp only;rw [if_neg (by simp [g])];refine G1 hu W hd T X hk h1 h2 q1 q2 fuel (m+1) (by lia) hN (by lia) (fun G a6 p l=>?_) _ rfl;by_cases S:G<c
     ·exact inv G S p l
     ·by_cases O:G=m
      ·subst O;rw [g3]at l;cases l;rw [u];exact fun e=>g (QJ e)
      ·exact key G p l (g5 G (by lia) (by lia) p l)
theorem TK.keep{h h':Heap}{a b:JW}{o:Obj}{es:Array (Int × YP)}{m:Nat}{t:SetTable}{k:List Int}(i:h.get? a=some o)(hd:o.data=.set es m t)(hs:Ze a h h')(x:TK prog w h k b):TK prog w h' k b:=by
 obtain⟨g,c,n,e,l,d,j⟩:=x
 have f:b≠a:=by
  rintro rfl
  obtain rfl:g=o:=QJ (e.symm.trans i)
  rw [hd]at d;exact nomatch d
 exact⟨g,c,n,(hs.2 b f).trans e,l,d,j⟩
def i7(w:J1):Bool := !w.params.followText "set-order"
def cW(prog:JZ)(w:J1)(V:YP->Prop)(h:Heap)(a:JW)(b:List (List Int)):Prop:=
 ∃ o es ep t,h.get? a=some o/\o.ExactSet/\o.data=.set es ep t/\gL t (es.toList.map (·.1))/\(t.plain=true/\t.led=i7 w)/\bV prog w h es.toList b/\b.Nodup/\∀ e∈es.toList,V e.2
theorem Bi(es:List (Int × YP)):∀ l:List Nat,(∀ i∈l,i<es.length)->(l.filterMap (es[·]?)).map (·.1)=l.map fun i=>(es.map (·.1)).getD i 0
 | [],_=>rfl
 | i::l,h=>by
  have a:=h i Qd;rw [List.filterMap_cons_some (b:=es[i]) (Qh a),Qp,Qp,Bi es l fun j c=>h j (Qg _ c)];congr 1;rw [Yb,QS,Qh a];rfl
theorem OB{t:SetTable}{hs:List Int}(T:gL t hs)(b:(t.place.toList.length+1) * 5 >= t.mask * 3)(c:t.place.toList.length+1<=76):
  ∃ M,Zd (grown (t.place.toList.length+1))-1=M/\fC M/\(t.place.toList.length+1) * 5<M * 3/\¬ Zd (grown (t.place.toList.length+1)) > sizeLine:=by
 have a:=T.room;rcases T.good with g | g | g | g | g | g | g
 ·rw [g]at a b
  have e:t.place.toList.length+1=5:=by lia
  rw [e]
  exact⟨31,by decide,.inr (.inl rfl),by decide,by rw [Yf];decide⟩
 ·rw [g]at a b
  have e:t.place.toList.length+1=19:=by lia
  rw [e]
  exact⟨127,by decide,.inr (.inr (.inl rfl)),by decide,by rw [Yf];decide⟩
 ·rw [g]at a b;lia
 ·rw [g]at a b
  have e:t.place.toList.length+1=9:=by lia
  rw [e]
  exact⟨63,by decide,.inr (.inr (.inr (.inr (.inl rfl)))),by decide,by rw [Yf];decide⟩
 ·rw [g]at a b
  have e:t.place.toList.length+1=38:=by lia
  rw [e]
  exact⟨255,by decide,.inr (.inr (.inr (.inr (.inr (.inl rfl))))),by decide,by rw [Yf];decide⟩
 ·rw [g]at a b;lia
 ·rw [g]at a b;lia
theorem GL{V:YP->Prop}{a:JW}{o:Obj}{es:Array (Int × YP)}{z:Nat}{t:SetTable}{ks:List (List Int)}{d M:Nat}{Q:Unit->JV->Prop}
  (u:s.heap.get? a=some o) (x:o.ExactSet) (hd:o.data=.set es z t) (p:t.fits es.size=true) (y:t.plain=true/\t.led=i7 w) (X:bV prog w s.heap es.toList ks) (v:ks.Nodup) (O:∀ e∈es.toList,V e.2)
  (S:Zd d-1=M) (g:fC M) (I:es.size * 5<M * 3) (hz:¬ Zd d > sizeLine) (hsz:es.size<=sizeLine)
  (h:∀ h' ks',Ze a s.heap h'->cW prog w V h' a ks'->List.Perm ks' ks->Q () { s with heap:=h' }):
  JY (J0 prog w) A (setRelay a d) Q E s:=by
 obtain⟨l,c,H,r,G,F,B⟩:=Rk (t:=t) (hs:=es.map (·.1)) S g (by simpa using I)
 have n:∀ i∈c.toList,i<es.toList.length:=fun i J=>by
  have:=QR.mp (r.mem_iff.mp J)
  simpa using this
 have q:(c.filterMap (es[·]?)).toList=c.toList.filterMap (es.toList[·]?):=by
  rw [Jz];congr 1
  funext i
  rw [QN]
 have j:List.Perm (c.filterMap (es[·]?)).toList es.toList:=by
  rw [Jz]
  refine(r.filterMap _).trans ?_
  rw [Jj,filterMap_getElem?_range]
 have f:(c.filterMap (es[·]?)).size=es.size:=by rw [<- Qs,j.length_eq,Qs]
 unfold setRelay;refine Qa (QU u hd p ?_);dsimp only;rw [if_neg hz];rw [H];refine Qa ?_
 show JY _ _ (if((c.filterMap (es[·]?)).size != es.size)=true then _ else pure (c.filterMap (es[·]?),l)) _ _ s
 rw [if_neg (by simp [f])];refine Qb ?_;dsimp only;refine Jo u hd ?_ (by rw [f];exact hsz)
 have K:(s.heap.update a (Zv (c.filterMap (es[·]?)) l)).get? a=some { o with data:=.set (c.filterMap (es[·]?)) (z+1) l }:=by
  have:=QV (Zv (c.filterMap (es[·]?)) l) u (by rw [Js _ l hd];rfl)
  rw [Js _ l hd]at this;exact this
 have m:=QX s.heap a (Zv (c.filterMap (es[·]?)) l);refine h _ (c.toList.filterMap (ks[·]?)) m ⟨_,_,_,l,K,x,rfl,?_,⟨by rw [B];exact y.1,by rw [F];exact y.2⟩,?_,?_,fun e N=>O e (j.mem_iff.mp N)⟩ ?_
 ·rw [q,Bi _ _ n]
  simpa using G
 ·rw [q]
  exact(X.pick _ n).mono fun k b=>TK.keep u hd m
 ·have:List.Perm (c.toList.filterMap (ks[·]?)) ks:=by
   refine(r.filterMap _).trans ?_
   rw [Jj,<- Qs,X.length,Jc]
  exact this.nodup_iff.mpr v
 ·refine(r.filterMap _).trans ?_
  rw [Jj,<- Qs,X.length,Jc]
theorem Dt{V:YP->Prop}{a x:JW}{i:List (List Int)}{k:List Int}{Q:Bool->JV->Prop}(hu:A.units<Za)(S:cW prog w V s.heap a i)(W:TK prog w s.heap k x)(hx:V (.ref x))(a0:i.length+1<=76)
  (q1:k∈i->Q false s) (Y:k∉i->∀ h' ks',Ze a s.heap h'->cW prog w V h' a ks'->List.Perm ks' (k::i)->Q true { s with heap:=h' }):
  JY (J0 prog w) A (setAddHashed a (.ref x) (TH prog w k)) Q E s:=by
 obtain⟨o,r,ep,t,H,J,hd,T,O,X,U,hV⟩:=S;have y:t.fits r.size=true:=T.fits (by simp)
 have p:t.place.toList.length=i.length:=by rw [T.len,Ql,X.length]
 have u:r.size=i.length:=by rw [<- X.length,Qs]
 have N:=T.room;obtain⟨n,n1,n2,Z⟩:=DQ (l:=t.place.toList) T.good (by lia) (TH prog w k)
 have hM:t.mask<=511:=by rcases T.good with g | g | g | g | g | g | g <;> lia
 unfold setAddHashed setAddHashedIn;refine Q7 (Qa (QU H hd y ?_));dsimp only;rw [if_neg (by simp [byScan,Value.scannable])];refine Qa ?_;unfold setSearch;refine G1 hu H hd T X W n2 Z ?_ ?_ 100000 0 (QY _) n1 (by unfold U1 at n1;lia) (fun m hm=>absurd hm (YD _)) none rfl
 ·intro d;exact Qb (q1 d)
 ·intro d;dsimp only;refine Qa (QU H hd y ?_);dsimp only;rw [if_pos (show(t.put (P t.mask (TH prog w k) n).j).1.plain=true from O.1)];refine Qa (MM 6 W ?_);rw [if_pos rfl]
  have q:(Zm r (t.put (P t.mask (TH prog w k) n).j).2 (TH prog w k,J5 x)).size=r.size+1:=by
   rw [<- Qs,(Je _ _ _).length_eq];simp
  refine Qa (Jo H hd ?_ (by rw [q,Yf];lia))
  have hg:(s.heap.update a (Zv (Zm r (t.put (P t.mask (TH prog w k) n).j).2 (TH prog w k,J5 x)) (t.put (P t.mask (TH prog w k) n).j).1)).get? a=some { o with data:=.set (Zm r (t.put (P t.mask (TH prog w k) n).j).2 (TH prog w k,J5 x)) (ep+1) (t.put (P t.mask (TH prog w k) n).j).1 }:=by
   have:=QV (Zv (Zm r (t.put (P t.mask (TH prog w k) n).j).2 (TH prog w k,J5 x)) (t.put (P t.mask (TH prog w k) n).j).1) H (by rw [Js _ _ hd];rfl)
   rw [Js _ _ hd]at this;exact this
  have z:=QX s.heap a (Zv (Zm r (t.put (P t.mask (TH prog w k) n).j).2 (TH prog w k,J5 x)) (t.put (P t.mask (TH prog w k) n).j).1)
  have X2:bV prog w (s.heap.update a (Zv (Zm r (t.put (P t.mask (TH prog w k) n).j).2 (TH prog w k,J5 x)) (t.put (P t.mask (TH prog w k) n).j).1)) (Zm r (t.put (P t.mask (TH prog w k) n).j).2 (TH prog w k,J5 x)).toList (i.take (t.put (P t.mask (TH prog w k) n).j).2++k::i.drop (t.put (P t.mask (TH prog w k) n).j).2):=by
   rw [kQ]
   exact((X.take _).append (.cons W (X.drop _))).mono fun k b=>TK.keep H hd z
  have B:List.Perm (i.take (t.put (P t.mask (TH prog w k) n).j).2++k::i.drop (t.put (P t.mask (TH prog w k) n).j).2) (k::i):=by
   refine List.perm_middle.trans ?_;rw [Ye]
  have v:(i.take (t.put (P t.mask (TH prog w k) n).j).2++k::i.drop (t.put (P t.mask (TH prog w k) n).j).2).Nodup:=B.nodup_iff.mpr (Yu.mpr ⟨d,U⟩)
  have K:∀ e∈(Zm r (t.put (P t.mask (TH prog w k) n).j).2 (TH prog w k,J5 x)).toList,V e.2:=fun e he=>by
   have:=(Je r (t.put (P t.mask (TH prog w k) n).j).2 (TH prog w k,J5 x)).mem_iff.mp he
   rw [Array.toList_push,Qx,Qm]at this;rcases this with h | rfl
   ·exact hV e h
   ·exact hx
  have f:(t.put (P t.mask (TH prog w k) n).j).1.fill=t.place.toList.length+1:=by
   show(Zm t.place (Zh t.place (P t.mask (TH prog w k) n).j) (P t.mask (TH prog w k) n).j).size+(if has t.dummies _=true then _ else t.dummies).size=_
   rw [T.dum,<- Qs,(Je _ _ _).length_eq]
   simp [has]
  have F:(t.put (P t.mask (TH prog w k) n).j).1.fits (Zm r (t.put (P t.mask (TH prog w k) n).j).2 (TH prog w k,J5 x)).size=true:=by
   unfold Z6;rw [f,q]
   have:(t.put (P t.mask (TH prog w k) n).j).1.place.size=r.size+1:=by
    show(Zm t.place (Zh t.place (P t.mask (TH prog w k) n).j) (P t.mask (TH prog w k) n).j).size=_
    rw [<- Qs,(Je _ _ _).length_eq];simp;rw [<- Qs,p,u]
   rw [this];simp only [beq_self_eq_true,JD,decide_eq_true_eq]
   show t.place.toList.length+1<=t.mask
   lia
  by_cases c:(t.put (P t.mask (TH prog w k) n).j).1.tooFull=true
  ·rw [c];simp only [Bool.not_false,JQ,if_true]
   have G:(t.place.toList.length+1) * 5 >= t.mask * 3:=by
    unfold SetTable.tooFull at c;rw [f]at c;exact of_decide_eq_true c
   obtain⟨M,m1,m2,m3,m4⟩:=OB T G (by lia);refine Qa (GL (V:=V) hg J rfl F O X2 v K (M:=M) ?_ m2 ?_ ?_ ?_ ?_)
   ·rw [u,<- p];exact m1
   ·rw [q,u,<- p];exact m3
   ·rw [u,<- p];exact m4
   ·rw [q,Yf];lia
   ·intro h' ks' I S' pk;exact Qb (Y d h' ks' (z.trans I) S' (pk.trans B))
  ·rw [YH]at c;rw [c];simp only [Bool.and_false,Qq,if_false]
   have G:(t.place.toList.length+1) * 5<t.mask * 3:=by
    unfold SetTable.tooFull at c;rw [f]at c
    have:=of_decide_eq_false c
    have e:(t.put (P t.mask (TH prog w k) n).j).1.mask=t.mask:=rfl;rw [e]at this;lia
   have T2:=RL T n2 Z G t.plain;refine Qa (Qb (Qb (Y d _ _ z ⟨_,_,_,_,hg,J,rfl,?_,O,X2,v,K⟩ B)));rw [kQ,QZ,Qp,List.map_take,List.map_drop];exact T2
end
section
variable {prog:JZ}{w:J1}{A:Around}{R:Result->JV->Prop}{I:JW}{fp wr:List JW}{G:Array UY->Array UY->Prop}{n:Nat}{Pv:Nat->YP->Prop}{St:Nat->JV->Prop}{V:YP->Prop}
abbrev nS(w:J1):Obj:={ cls:=.type "set",dict:=none,data:=.set #[] 0 (.fresh 0 0 (i7 w)) }
theorem TK.at{h h':Heap}{k:List Int}{b:JW}(x:TK prog w h k b)(e:∀ o,h.get? b=some o->h'.get? b=some o):TK prog w h' k b:=by
 obtain⟨o,a,n,c,r⟩:=x
 exact⟨o,a,n,e o c,r⟩
theorem cW.moved{h h':Heap}{a:JW}{ks:List (List Int)}(S:cW prog w V h a ks)(e:∀ b o,h.get? b=some o->(b=a ∨ ∃ k,TK prog w h k b)->h'.get? b=some o):cW prog w V h' a ks:=by
 obtain⟨o,m,n,t,j,f,hd,T,i,X,d,l⟩:=S
 exact⟨o,m,n,t,e a o j (.inl rfl),f,hd,T,i,X.mono fun k b x=>x.at fun g c=>e b g c (.inr ⟨k,x⟩),d,l⟩
def lE(b:List (List Int))(a:Nat->List Int)(i:Nat):Prop:=∀ k,k∈b ↔ ∃ j,j<i/\a j=k
theorem Oj{a:List (List Int)}{val:Nat->List Int}{i:Nat}(h:lE a val i)(b:a.Nodup):a.length<=i:=by
 have:a ⊆ (List.range i).map val:=fun k c=>by
  obtain⟨j,d,e⟩:=(h k).mp c;exact QT.mpr ⟨j,QR.mpr d,e⟩
 have:=Yq b this
 simpa using this
theorem cW.nodup{h:Heap}{a:JW}{c:List (List Int)}(S:cW prog w V h a c):c.Nodup:=by
 obtain⟨o,i,j,t,f,d,hd,T,e,X,b,g⟩:=S;exact b
theorem HX(W:WalksS prog w A.in1 I fp wr G n Pv St)(S:JW)(a6:S∉fp)(hu:A.in1.units<Za)(f:Nat->List Int)(g:Heap)
  (a:∀ b o,g.get? b=some o->b≠S/\b∉wr) (a0:∀ i v,i<n->Pv i v->V v/\∃ b,v=.ref b/\TK prog w g (f i) b) (Q:n<=75):
  ∀(k i:Nat) (s:JV) (ks:List (List Int)),n-i=k->i<=n->St i s->(∀ b o,g.get? b=some o->s.heap.get? b=some o)->
   cW prog w (fun v=>V v/\∃ k b,v=.ref b/\TK prog w g k b) s.heap S ks->lE ks f i->
   (∀ s' ks',Moved (S::wr) G s s'->(∀ b o,g.get? b=some o->s'.heap.get? b=some o)->cW prog w (fun v=>V v/\∃ k b,v=.ref b/\TK prog w g k b) s'.heap S ks'->lE ks' f n->R (.ok (.ret .none)) s')->
   ZY (J0 prog w) A (.builtin "set.update.loop" ⟨[.ref S,.ref I],[]⟩) R s:=by
 have b3:S∉wr:=fun h=>a6 (W.sub _ h);have E:∀ b∈wr,b∈S::wr:=fun b Q=>Qg _ Q
 have a2:∀(s s':JV) ks,Moved wr G s s'->(∀ b o,g.get? b=some o->s.heap.get? b=some o)->cW prog w (fun v=>V v/\∃ k b,v=.ref b/\TK prog w g k b) s.heap S ks->cW prog w (fun v=>V v/\∃ k b,v=.ref b/\TK prog w g k b) s'.heap S ks:=fun s s' ks z K Y=>by
  obtain⟨o,es,ep,t,ho,a3,hd,T,hp,X,a1,hV⟩:=Y
  refine⟨o,es,ep,t,z.heap S _ b3 ho,a3,hd,T,hp,?_,a1,hV⟩
  clear hd a3 ho T hp
  have:∀ e∈es.toList,∃ k b,e.2=.ref b/\TK prog w g k b:=fun e he=>(hV e he).2
  revert this
  clear hV a1;generalize es.toList=l at X;intro this
  induction X with
  | nil=>exact .nil
  | @cons k b es ks h1 hr ih=>
   refine .cons ?_ (ih fun e he=>this e (Qg _ he));obtain⟨k',b',e1,e2⟩:=this _ Qd
   have b6:b=b':=by injection e1
   subst b6;obtain⟨o',a8,n',O,r⟩:=e2;refine h1.at fun o2 b0=>?_
   have:=K b o' O
   rw [b0]at this;cases this;exact z.heap b _ (a b _ O).2 (K b _ O)
 intro k
 induction k with
 | zero=>
  intro i s ks hk hi N K Y Z hR
  have b1:i=n:=by lia
  subst b1;refine YN F.entry_set_update_loop ?_;rw [YC Jt _]
  show JY _ A.in1 (Z1 (.ref I) >>= _) _ _ s
  refine Qa (W.done s _ _ N fun s' z=>?_)
  show JY _ A.in1 (ret J6) _ _ s'
  exact Qb (hR s' ks (z.mono E) (fun b o e=>z.heap b o (a b o e).2 (K b o e)) (a2 s s' ks z K Y) Z)
 | succ k ih=>
  intro i s ks hk hi N K Y Z hR
  have B:i<n:=by lia
  refine YN F.entry_set_update_loop ?_;rw [YC Jt _]
  show JY _ A.in1 (Z1 (.ref I) >>= _) _ _ s
  refine Qa (W.item i s _ _ B N fun v s' hP H z=>?_);obtain⟨b2,b,rfl,a5⟩:=a0 i v B hP;have U:∀ b o,g.get? b=some o->s'.heap.get? b=some o:=fun b o e=>z.heap b o (a b o e).2 (K b o e);have a4:TK prog w s'.heap (f i) b:=a5.at fun o e=>U b o e;have a7:=a2 s s' ks z K Y
  show JY _ A.in1 (holding [J5 b] (setAdd S (.ref b)) >>= _) _ _ s'
  refine Qa (Q7 ?_);unfold setAdd;refine Q7 ?_;refine Qa (wpAny_pyHash_tuple hu a4 ?_);have b7:=Oj Z Y.nodup
  have d:∀(h':Heap) (tk:Nat),s'.toks<=tk->Ze S s'.heap h'->Moved (S::wr) G s { s' with heap:=h',toks:=tk }:=fun h' tk a9 p=>
   (z.mono E).then_heap a9 fun b o Q e=>by rw [p.2 b (fun h:b=S=>Q (by rw [h];exact Qd))];exact e
  refine Dt (V:=fun v=>V v/\∃ k b,v=.ref b/\TK prog w g k b) (s:={ s' with toks:=s'.toks+((f i).length+1) }) hu a7 a4 ⟨b2,f i,b,rfl,a5⟩ (by lia) ?_ ?_
  ·intro J;refine Qb ⟨Jf Jt _,ih (i+1) _ ks (by lia) B (W.frame _ s' s'.heap _ H (Yx _ _) fun b Q o e=>e) U a7 ?_ fun M m q y u x=>?_⟩
   ·intro k';rw [Z k'];constructor
    ·rintro⟨j,hj,e⟩;exact⟨j,by lia,e⟩
    ·rintro⟨j,hj,e⟩
     by_cases c:j=i
     ·subst c;subst e;exact(Z _).mp J
     ·exact⟨j,by lia,e⟩
   ·exact hR M m (Moved.trans W.gtrans (d s'.heap _ (Yx _ _) (JF S _)) q) y u x
  ·intro J h' ks' p b4 hp
   have b5:∀ b o,g.get? b=some o->h'.get? b=some o:=fun b o e=>by
    rw [p.2 b (a b o e).1];exact U b o e
   refine Qb ⟨Jf Jt _,ih (i+1) _ ks' (by lia) B (W.frame _ s' _ _ H (Yx _ _) fun b Q o e=>?_) b5 b4 ?_ fun M m q y u x=>?_⟩
   ·rw [p.2 b (fun h:b=S=>a6 (by rw [<- h];exact Q))];exact e
   ·intro k';rw [hp.mem_iff,Qi,Z k'];constructor
    ·rintro(rfl | ⟨j,hj,e⟩)
     ·exact⟨i,by lia,rfl⟩
     ·exact⟨j,by lia,e⟩
    ·rintro⟨j,hj,e⟩
     by_cases c:j=i
     ·subst c;exact .inl e.symm
     ·exact .inr ⟨j,by lia,e⟩
   ·exact hR M m (Moved.trans W.gtrans (d h' _ (Yx _ _) p) q) y u x
end
section
variable {prog:JZ}{w:J1}{A:Around}{E:YP->JV->Prop}{s:JV}
theorem Fg(a:YP){Q₁:YP->JV->Prop}
  (h:Q₁ (.ref s.heap.objs.size) { s with heap:=s.heap.push (nS w) }):
  ZY (J0 prog w) A (.call (.builtin "set.__new__") ⟨[.type "set",a],[]⟩) (wants Q₁ E) s:=by
 refine codeAny_of_tree ?_
 show JY _ A.in1 (checkBuiltinCall "set.__new__" ⟨[.type "set",a],[]⟩ >>= fun _=>again (.builtin "set.__new__" ⟨[.type "set",a],[]⟩)) _ _ s
 refine Qa (JU (F.newCall_set_1 a) (Qb ⟨Jf F.plain_set_new _,YN F.entry_set_new ?_⟩));rw [YC F.plain_set_new _];unfold Builtin.«set.__new__» Builtin.Frozenset.newClass;have b:=sub_set_self;obtain⟨f,g,d,c,e⟩:=s;dsimp only
 wp_walk
 refine Uv (Qb ?_);dsimp only;simp only [newObj];refine Qa (wpAny_alloc (Qb ?_));exact Qb h
theorem Tg:isSubtype (.type "tuple") (.type "set")=pure false:=by rw [Uf];kernel_rfl
theorem Tf:isSubtype (.type "tuple") (.type "frozenset")=pure false:=by rw [Uf];kernel_rfl
variable {V:YP->Prop}
theorem Mp{l:JW}{items:Array YP}{kl:List (List Int)}{Q:YP->JV->Prop}
  (hh:A.handled=none) (hu:A.units+8<Za) (hl:s.heap.IsList l items) (hi:∀ i v,items[i]?=some v->V v/\∃ b,v=.ref b/\TK prog w s.heap (kl.getD i []) b) (hb:items.size<=75)
  (h:∀(h':Heap) (tk:Nat) ks,cW prog w V h' s.heap.objs.size ks->lE ks (fun i=>kl.getD i []) items.size->
   (∀ b o,s.heap.get? b=some o->h'.get? b=some o)->Q (.ref s.heap.objs.size) { s with heap:=h',toks:=tk }):
  JY (J0 prog w) A (call (.type "set") [.ref l]) Q E s:=by
 obtain⟨c,tl,a8⟩:=F.called_set.mro;have W:=F.called_set.made;have a5:=F.called_set.sub;refine UR (codeAny_of_tree ?_)
 show JY _ _ (callAny (.type "set") _) _ _ _
 refine Qb ⟨Code.quiet_builtin _ (by decide +kernel),YN F.entry_type_call ?_⟩;rw [Around.under_plain (weight_type_call_type "set" [.ref l] []) rfl];have h1:=F.called_set.notType;have h2:=F.called_set.canCreate;have b1:=F.typeCall_set_1 (.ref l)
 repeat (any_goals (first | assumption | wp_step))
 refine Jd (Fg (.ref l) (E:=E) (Q₁:=fun z j=>z=.ref s.heap.objs.size/\j={ s with heap:=s.heap.push (nS w) }) ⟨rfl,rfl⟩) fun r j U=>?_
 cases r with
 | error e=>exact U
 | ok fl=>
  cases fl with
  | ret z=>
   obtain⟨rfl,rfl⟩:=U;have hS:(s.heap.push (nS w)).get? s.heap.objs.size=some (nS w):=Qt _ rfl;have hT:Shared.TypeIs { s with heap:=s.heap.push (nS w) } (.ref s.heap.objs.size) "set":=⟨_,hS,rfl⟩;have b0:=F.called_set.init.lookup;have b2:=F.called_set.init.bind (.ref s.heap.objs.size)
   repeat (any_goals (first | assumption | wp_step))
   refine Jd (codeAny_call_builtin (R:=wants (fun r g=>r=.none/\∃ h' tk ks,g={ s with heap:=h',toks:=tk } /\
     cW prog w V h' s.heap.objs.size ks/\lE ks (fun i=>kl.getD i []) items.size /\
     (∀ b o,s.heap.get? b=some o->h'.get? b=some o)) E) F.called_set.init.plain F.entry_set_init (check_set_init_1 hT ?_)) fun y g a=>?_
   ·obtain⟨ol,G,N,nl,M⟩:=hl;obtain⟨a4,m,T,d⟩:=ol
    simp only at N M
    subst N;subst M;have B:(s.heap.push (nS w)).get? l=some { cls:=.type "list",dict:=m,data:=.seq items nl,slots:=d }:=Qc _ G;have a6:=F.sub_list_set;have a7:=F.sub_list_frozenset
    have a9:(ZR "list" == ZR "dict")=false:=by decide
    have J:(s.heap.push (nS w)).IsList l items:=⟨_,B,rfl,nl,rfl⟩;unfold Builtin.«set.__init__» noKeywords Builtin.Frozenset.updateFrom;generalize hPI:pyIter=PI
    wp_walk
    subst hPI;refine Ug J ?_;refine Qa (wpAny_runValue ?_);have I:l<s.heap.objs.size:=Qo G
    have Y:A.in1.in1.in1.handled=none:=by simp [hh]
    have H:l≠(s.heap.push (nS w)).objs.size:=by
     rw [YT];exact Qw (Y6 I)
    have a0:s.heap.objs.size∉[(s.heap.push (nS w)).objs.size,l]:=by
     rw [YT];simp only [Qi,Qm,Ju,or_false,not_or]
     exact⟨Qw (Nat.lt_succ_self _),YF I⟩
    have f:A.in1.in1.in1.units<Za:=by
     show A.units+1+1+1<Za
     lia
    refine HX (V:=V) ((Walks.list Y _ l H items).toS) s.heap.objs.size
     a0 f (fun i=>kl.getD i []) s.heap (fun b o e=>?_) (fun i v _ hv=>hi i v hv) hb (items.size-0) 0 _ [] (by lia) (QY _)
     ⟨⟨_,Qt _ rfl,rfl,rfl⟩,(J.push _)⟩ (fun b o e=>?_) ?hS0 ?hK0 ?hR
    ·have n:b<s.heap.objs.size:=Qo e
     refine⟨Qw n,fun u=>?_⟩
     rw [YT]at u
     have:b=s.heap.objs.size+1:=Qm.mp u
     rw [this]at n;exact absurd n (Nat.not_lt.mpr (Nat.le_succ _))
    ·exact Qc _ (Qc _ e)
    case hS0=>
     have K:((s.heap.push (nS w)).push { cls:=.type "list_iterator",data:=.fields #[.ref l,.int 0 0] }).get? s.heap.objs.size
       = some (nS w):=Qc _ hS
     exact⟨_,#[],0,_,K,⟨rfl,rfl,rfl⟩,rfl,⟨.inl rfl,rfl,rfl,List.Pairwise.nil,fun x hx=>by simp [SetTable.fresh]at hx,(by show 0 * 5<7 * 3;decide),fun q hq=>by simp at hq⟩,⟨rfl,rfl⟩,.nil,Jv,fun e Z=>by simp at Z⟩
    case hK0=>
     intro k;simp
    case hR=>
     intro s' ks u h0 p hK;obtain⟨h',g',d',O,S⟩:=s';have eg:g'=s.gens:=u.gens;have ed:d'=s.drawn:=u.drawn;have eo:S=s.os:=u.os;subst eg;subst ed;subst eo
     show JY _ _ _ _ _ _
     refine Qb ?_
     show JY _ _ (ret J6) _ _ _
     obtain⟨o',a2,a3,t',z1,z2,z3,z4,z5,z6,z7,z8⟩:=p;exact Qb ⟨rfl,h',O,ks,rfl,⟨o',a2,a3,t',z1,z2,z3,z4,z5,z6,z7,fun e Z=>(z8 e Z).1⟩,hK,fun b o e=>h0 b o e⟩
   ·cases y with
    | error e=>exact a
    | ok t=>
     cases t with
     | ret r=>
      obtain⟨rfl,h',tk,ks,rfl,p,a1,X⟩:=a
      repeat (any_goals (first | assumption | wp_step))
      exact h _ _ _ p a1 X
     | _=>exact a.elim
  | _=>exact U.elim
theorem Mo{l:JW}{items:Array YP}{kl:List (List Int)}{Q:YP->JV->Prop}
  (hh:A.handled=none) (hu:A.units+8<Za) (hl:s.heap.IsTuple l items) (hi:∀ i v,items[i]?=some v->V v/\∃ b,v=.ref b/\TK prog w s.heap (kl.getD i []) b) (hb:items.size<=75)
  (h:∀(h':Heap) (tk:Nat) ks,cW prog w V h' s.heap.objs.size ks->lE ks (fun i=>kl.getD i []) items.size->
   (∀ b o,s.heap.get? b=some o->h'.get? b=some o)->Q (.ref s.heap.objs.size) { s with heap:=h',toks:=tk }):
  JY (J0 prog w) A (call (.type "set") [.ref l]) Q E s:=by
 obtain⟨c,tl,a8⟩:=F.called_set.mro;have W:=F.called_set.made;have a5:=F.called_set.sub;refine UR (codeAny_of_tree ?_)
 show JY _ _ (callAny (.type "set") _) _ _ _
 refine Qb ⟨Code.quiet_builtin _ (by decide +kernel),YN F.entry_type_call ?_⟩;rw [Around.under_plain (weight_type_call_type "set" [.ref l] []) rfl];have h1:=F.called_set.notType;have h2:=F.called_set.canCreate;have b1:=F.typeCall_set_1 (.ref l)
 repeat (any_goals (first | assumption | wp_step))
 refine Jd (Fg (.ref l) (E:=E) (Q₁:=fun z j=>z=.ref s.heap.objs.size/\j={ s with heap:=s.heap.push (nS w) }) ⟨rfl,rfl⟩) fun r j U=>?_
 cases r with
 | error e=>exact U
 | ok fl=>
  cases fl with
  | ret z=>
   obtain⟨rfl,rfl⟩:=U;have hS:(s.heap.push (nS w)).get? s.heap.objs.size=some (nS w):=Qt _ rfl;have hT:Shared.TypeIs { s with heap:=s.heap.push (nS w) } (.ref s.heap.objs.size) "set":=⟨_,hS,rfl⟩;have b0:=F.called_set.init.lookup;have b2:=F.called_set.init.bind (.ref s.heap.objs.size)
   repeat (any_goals (first | assumption | wp_step))
   refine Jd (codeAny_call_builtin (R:=wants (fun r g=>r=.none/\∃ h' tk ks,g={ s with heap:=h',toks:=tk } /\
     cW prog w V h' s.heap.objs.size ks/\lE ks (fun i=>kl.getD i []) items.size /\
     (∀ b o,s.heap.get? b=some o->h'.get? b=some o)) E) F.called_set.init.plain F.entry_set_init (check_set_init_1 hT ?_)) fun y g a=>?_
   ·obtain⟨ol,G,N,nl,M⟩:=hl;obtain⟨a4,m,T,d⟩:=ol
    simp only at N M
    subst N;subst M;have B:(s.heap.push (nS w)).get? l=some { cls:=.type "tuple",dict:=m,data:=.seq items nl,slots:=d }:=Qc _ G;have a6:=Tg;have a7:=Tf
    have a9:(ZR "tuple" == ZR "dict")=false:=by decide
    have J:(s.heap.push (nS w)).IsTuple l items:=⟨_,B,rfl,nl,rfl⟩;unfold Builtin.«set.__init__» noKeywords Builtin.Frozenset.updateFrom;generalize hPI:pyIter=PI
    wp_walk
    subst hPI;refine Ub J ?_;refine Qa (wpAny_runValue ?_);have I:l<s.heap.objs.size:=Qo G
    have Y:A.in1.in1.in1.handled=none:=by simp [hh]
    have H:l≠(s.heap.push (nS w)).objs.size:=by
     rw [YT];exact Qw (Y6 I)
    have a0:s.heap.objs.size∉[(s.heap.push (nS w)).objs.size,l]:=by
     rw [YT];simp only [Qi,Qm,Ju,or_false,not_or]
     exact⟨Qw (Nat.lt_succ_self _),YF I⟩
    have f:A.in1.in1.in1.units<Za:=by
     show A.units+1+1+1<Za
     lia
    refine HX (V:=V) ((Walks.tuple Y _ l H items).toS) s.heap.objs.size
     a0 f (fun i=>kl.getD i []) s.heap (fun b o e=>?_) (fun i v _ hv=>hi i v hv) hb (items.size-0) 0 _ [] (by lia) (QY _)
     ⟨⟨_,Qt _ rfl,rfl,rfl⟩,(J.push _)⟩ (fun b o e=>?_) ?hS0 ?hK0 ?hR
    ·have n:b<s.heap.objs.size:=Qo e
     refine⟨Qw n,fun u=>?_⟩
     rw [YT]at u
     have:b=s.heap.objs.size+1:=Qm.mp u
     rw [this]at n;exact absurd n (Nat.not_lt.mpr (Nat.le_succ _))
    ·exact Qc _ (Qc _ e)
    case hS0=>
     have K:((s.heap.push (nS w)).push { cls:=.type "tuple_iterator",data:=.fields #[.ref l,.int 0 0] }).get? s.heap.objs.size
       = some (nS w):=Qc _ hS
     exact⟨_,#[],0,_,K,⟨rfl,rfl,rfl⟩,rfl,⟨.inl rfl,rfl,rfl,List.Pairwise.nil,fun x hx=>by simp [SetTable.fresh]at hx,(by show 0 * 5<7 * 3;decide),fun q hq=>by simp at hq⟩,⟨rfl,rfl⟩,.nil,Jv,fun e Z=>by simp at Z⟩
    case hK0=>
     intro k;simp
    case hR=>
     intro s' ks u h0 p hK;obtain⟨h',g',d',O,S⟩:=s';have eg:g'=s.gens:=u.gens;have ed:d'=s.drawn:=u.drawn;have eo:S=s.os:=u.os;subst eg;subst ed;subst eo
     show JY _ _ _ _ _ _
     refine Qb ?_
     show JY _ _ (ret J6) _ _ _
     obtain⟨o',a2,a3,t',z1,z2,z3,z4,z5,z6,z7,z8⟩:=p;exact Qb ⟨rfl,h',O,ks,rfl,⟨o',a2,a3,t',z1,z2,z3,z4,z5,z6,z7,fun e Z=>(z8 e Z).1⟩,hK,fun b o e=>h0 b o e⟩
   ·cases y with
    | error e=>exact a
    | ok t=>
     cases t with
     | ret r=>
      obtain⟨rfl,h',tk,ks,rfl,p,a1,X⟩:=a
      repeat (any_goals (first | assumption | wp_step))
      exact h _ _ _ p a1 X
     | _=>exact a.elim
  | _=>exact U.elim
end
end ST
namespace PySem.F
theorem set_iter_entry:entryFor table "set.__iter__"=some Builtin.«frozenset.__iter__»:=
 entryFor_alias (id':="frozenset.__iter__") (by kernel_rfl) rfl (by decide +kernel) (by kernel_rfl)
theorem set_sub_entry:entryFor table "set.__sub__"=some Builtin.«frozenset.__sub__»:=
 entryFor_alias (id':="frozenset.__sub__") (by kernel_rfl) rfl (by decide +kernel) (by kernel_rfl)
theorem Gv:Manifest.owners.lookup (String.ofList ['r','o','t','a','r','e','t','i','_','t','e','s'].reverse)=some Manifest.sig_set_iterator:=by kernel_rfl
theorem si_next:Slot "set_iterator" "__next__" "set_iterator.__next__":=
 .of (owner:="set_iterator") (n:="__next__") (by rw [typeLookup_type,Uo];kernel_rfl) (by decide +kernel) (by decide +kernel) (by decide +kernel)
  (.inl (by decide +kernel)) (by rw [Uf];kernel_rfl)
theorem si_iter:Slot "set_iterator" "__iter__" "set_iterator.__iter__":=
 .of (owner:="set_iterator") (n:="__iter__") (by rw [typeLookup_type,Uo];kernel_rfl) (by decide +kernel) (by decide +kernel) (by decide +kernel)
  (.inl (by decide +kernel)) (by rw [Uf];kernel_rfl)
theorem si_iter_entry:entryFor table "set_iterator.__iter__"=some Builtin.«dict_keyiterator.__iter__»:=
 entryFor_alias (id':="dict_keyiterator.__iter__") (by kernel_rfl) rfl (by decide +kernel) (by kernel_rfl)
theorem si_iter_args(a:YP):argsOk "set_iterator.__iter__" ⟨[a],[]⟩:=by
 unfold argsOk;rw [signature?_of (id:="set_iterator.__iter__") (n:=['_','_','r','e','t','i','_','_']) (o:=['r','o','t','a','r','e','t','i','_','t','e','s']) (by kernel_rfl) Gv];kernel_rfl
theorem si_next_entry:entryFor table "set_iterator.__next__"=some Builtin.«set_iterator.__next__»:=entryFor_of_tree (by kernel_rfl)
theorem si_next_args(a:YP):argsOk "set_iterator.__next__" ⟨[a],[]⟩:=by
 unfold argsOk;rw [signature?_of (id:="set_iterator.__next__") (n:=['_','_','t','x','e','n','_','_']) (o:=['r','o','t','a','r','e','t','i','_','t','e','s']) (by kernel_rfl) Gv];kernel_rfl
end PySem.F
namespace ST
open PySem.SetTable
theorem Hu{b:Type}(next:Nat->Nat):∀(fuel k:Nat) (left:List b) (out:Array b),left.length=fuel->List.Perm (pickOrder.go next fuel k left out).toList (out.toList++left)
 | 0,k,left,out,h=>by
  have:left=[]:=List.length_eq_zero_iff.mp h
  subst this;rw [QO];exact .refl _
 | fuel+1,k,left,out,h=>by
  have a:next k % left.length<left.length:=Nat.mod_lt _ (by lia);unfold pickOrder.go;rw [Qh a];dsimp only
  refine(Hu next fuel (k+1) _ _ (by rw [List.length_eraseIdx_of_lt a];lia)).trans ?_
  rw [Array.toList_push,QL];refine List.Perm.append_left _ ?_;rw [List.eraseIdx_eq_take_drop_succ]
  have e:left=left.take (next k % left.length)++left[next k % left.length]::left.drop (next k % left.length+1):=by
   rw [<- Ym a,Ye]
  refine List.Perm.trans ?_ (.of_eq e.symm)
  show List.Perm (left[next k % left.length]::(left.take (next k % left.length)++left.drop (next k % left.length+1))) _
  exact List.perm_middle.symm
def gT(w:J1)(a b:Nat)(es:Array (Int × YP)):Array (Int × YP):=if w.params.followText "set-order"=true then pickOrder (w.params.setOrder a b) es else es
theorem pV(w:J1)(a b:Nat)(es:Array (Int × YP)):List.Perm (gT w a b es).toList es.toList:=by
 unfold gT;split
 ·exact(Hu _ es.size 0 es.toList #[] (by simp)).trans (by simp)
 ·exact .refl _
theorem wD(w:J1)(a b:Nat)(es:Array (Int × YP)):(gT w a b es).size=es.size:=by
 have:=(pV w a b es).length_eq
 simpa using this
theorem MH(xs:Array Nat)(s:Up xs.toList):Zh xs 0=0:=by
 obtain⟨e,b,d⟩:=oY xs s 0;by_cases c:Zh xs 0=0
 ·exact c
 ·have a:0<xs.toList.length:=by rw [Qs];lia
  have:=b 0 _ (Qh a) (by lia)
  lia
theorem MG(xs:Array Nat)(s:Up xs.toList){i j:Nat}(h:xs.toList[i]?=some j):Zh xs (j+1)=i+1:=by
 obtain⟨k,g,f⟩:=oY xs s (j+1);have d:=(Qe.mp h).1;rw [Qs]at d;by_cases a:Zh xs (j+1)<=i
 ·have:=f i j h a
  lia
 ·by_cases b:Zh xs (j+1)=i+1
  ·exact b
  ·have c:i+1<xs.toList.length:=by rw [Qs];lia
   have e:=Qh c
   have:=g _ _ e (by lia)
   have:=s.at h e (by lia)
   lia
structure iL(w:J1)(h:Heap)(a:JW)(o:Obj)(es:Array (Int × YP))(ep:Nat)(t:SetTable):Prop where
 get:h.get? a=some o
 ex:o.ExactSet
 data:o.data=.set es ep t
 fits:t.fits es.size=true
 up:Up t.place.toList
 plain:t.plain=true
 led:t.led=i7 w
theorem iL.at{w:J1}{h h':Heap}{a:JW}{o:Obj}{es:Array (Int × YP)}{b:Nat}{t:SetTable}(S:iL w h a o es b t)(e:h'.get? a=some o):iL w h' a o es b t:=⟨e,S.ex,S.data,S.fits,S.up,S.plain,S.led⟩
def pK(h:Heap)(I a:JW)(slot i n b:Nat):Prop:=∃ o,h.get? I=some o/\o.cls=.type "set_iterator"/\o.data=.fields #[.int slot 0,.int i 0,.ref a,.int n 0,.int b 0]
section
variable {prog:JZ}{w:J1}{A:Around}{E:YP->JV->Prop}{s:JV}{I a:JW}{o:Obj}{es:Array (Int × YP)}{ep slot i:Nat}{t:SetTable}
theorem pK.typeIs{n:Nat}(h:pK s.heap I a slot i n ep):s.TypeIs (.ref I) "set_iterator":=by
 obtain⟨o,c,b,_⟩:=h
 exact⟨o,c,b⟩
theorem vR{Q:Bool->JV->Prop}(h:Q (w.params.followText "set-order") s):JY (J0 prog w) A setsByText Q E s:=by
 unfold setsByText;exact Qa (Uv (Qb h))
theorem Ia{Q:Array (Int × YP)->JV->Prop}(S:iL w s.heap a o es ep t)(h:Q (gT w a ep es) s):JY (J0 prog w) A (setWalk a) Q E s:=by
 unfold setWalk;refine Qa (QU S.get S.data S.fits ?_);dsimp only;refine Qa (vR ?_);unfold gT at h
 cases c:w.params.followText "set-order" with
 | true=>
  rw [c,if_pos rfl]at h;rw [if_pos rfl];exact Qa (Uv (Qb h))
 | false=>
  rw [c,if_neg QA]at h;rw [if_neg QA]
  have hd:(!t.plain && decide (es.size > 1))=false:=by rw [S.plain];rfl
  have b:(!t.led && decide (es.size > 1))=false:=by rw [S.led,i7,c];rfl
  show JY _ _ (if(!t.plain && decide (es.size > 1))=true then _ else _) _ _ s
  rw [hd,if_neg QA];refine Qa ?_
  show JY _ _ (if(!t.led && decide (es.size > 1))=true then _ else _) _ _ s
  rw [b,if_neg QA];exact Qb (Qb h)
theorem Fj{Q:Option (YP × Nat)->JV->Prop}(S:iL w s.heap a o es ep t)(k:w.params.followText "set-order"=false->Zh t.place slot=i)
  (d:∀ x next,(gT w a ep es)[i]?=some x->(w.params.followText "set-order"=false->Zh t.place next=i+1)->Q (some (x.2,next)) s) (f:es.size<=i->Q none s):
  JY (J0 prog w) A (setNext a slot i ep) Q E s:=by
 unfold setNext;refine Qa (QU S.get S.data S.fits ?_);dsimp only;refine Qa (vR ?_)
 cases c:w.params.followText "set-order" with
 | true=>
  rw [if_pos rfl,if_neg (by simp)];refine Qa (Ia S (Qb ?_));by_cases l:i<es.size
  ·have b:i<(gT w a ep es).size:=by rw [wD];exact l
   rw [QK b]
   exact d _ _ (QK b) fun e=>by rw [c]at e;cases e
  ·rw [Yt (by rw [wD];lia)];exact f (by lia)
 | false=>
  rw [if_neg QA]
  have hd:(!t.plain && decide (es.size > 1))=false:=by rw [S.plain];rfl
  have j:(!t.led && !es.isEmpty)=false:=by rw [S.led,i7,c];rfl
  show JY _ _ (if(!t.plain && decide (es.size > 1))=true then _ else _) _ _ s
  rw [hd,if_neg QA];refine Qa ?_
  show JY _ _ (if(!t.led && !es.isEmpty)=true then _ else _) _ _ s
  rw [j,if_neg QA];refine Qb (Qb ?_)
  have g:t.place.size=es.size:=by
   have:=S.fits
   unfold Z6 at this;rw [Qy,beq_iff_eq]at this;exact this.1
  rw [k c]
  have h:gT w a ep es=es:=by unfold gT;rw [c,if_neg QA]
  rw [h]at d;by_cases l:i<es.size
  ·have b:i<t.place.size:=by lia
   rw [QK l,QK b];refine d _ _ (QK l) fun _=>MG _ S.up ?_;rw [QN,QK b]
  ·rw [Yt (by lia)];exact f (by lia)
theorem N6{Q:YP->JV->Prop}(S:iL w s.heap a o es ep t)
  (h:Q (.ref s.heap.objs.size) { s with heap:=s.heap.push { cls:=.type "set_iterator",data:=.fields #[.int 0 0,.int 0 0,.ref a,.int (es.size:Nat) 0,.int (ep:Nat) 0] } }):JY (J0 prog w) A (pyIter (.ref a)) Q E s:=by
 have b:s.TypeIs (.ref a) "set":=⟨o,S.get,S.ex.1⟩;refine wpAny_pyIter_slot b F.slot_set_iter (Yc F.slot_set_iter b F.set_iter_entry ?_ (F.args_set_iter_1 _));unfold Builtin.«frozenset.__iter__» Builtin.Frozenset.slot0 slotArgs;simp only [List.isEmpty_nil,Yw,Qq,↓reduceIte,bind_assoc,Y9,bne_self_eq_false];unfold ZN Z8;refine Qa (Qb ?_);refine Qa (Qb ?_);refine Qa (Qa (JN S.get S.data S.fits (Qb ?_)));unfold setDrawn;refine Qa (Qa (QU S.get S.data S.fits ?_));dsimp only;refine Qa (vR ?_);refine Qb ?_
 have hd:(!(w.params.followText "set-order") && (!t.plain && decide (es.size > 1)))=false:=by rw [S.plain];simp
 show JY _ _ (if(!(w.params.followText "set-order") && (!t.plain && decide (es.size > 1)))=true then _ else _) _ _ s
 rw [hd,if_neg QA];refine Qa (Qb ?_);unfold setEpoch;refine Qa (Qa (QU S.get S.data S.fits (Qb ?_)));exact Qa (Yd (Qb ⟨_,rfl,"set_iterator",_,⟨_,Qt _ rfl,rfl⟩,F.si_next.lookup,h⟩))
theorem Pk{Q:Option YP->JV->Prop}(c:pK s.heap I a slot i es.size ep)(S:iL w s.heap a o es ep t)(j:w.params.followText "set-order"=false->Zh t.place slot=i)(f:i<es.size)
  (k:∀ x h' next,(gT w a ep es)[i]?=some x->(w.params.followText "set-order"=false->Zh t.place next=i+1)->pK h' I a next (i+1) es.size ep->Ze I s.heap h'->Q (some x.2) { s with heap:=h' }):
  JY (J0 prog w) A (Z1 (.ref I)) Q E s:=by
 obtain⟨n,b,g,hd⟩:=id c;unfold Z1
 refine Qa (UD (Yp (name:=Zu "__next__") c.typeIs F.si_next
  (Yc F.si_next c.typeIs F.si_next_entry ?_ (F.si_next_args _))))
 show JY _ _ (fieldsOf (.ref I) >>= _) _ _ s
 refine Qa (UT b hd ?_);dsimp only;refine Qa (JN S.get S.data S.fits ?_);rw [if_neg (by simp)];refine Qa (Fj (i:=i) (slot:=slot) S j (fun x next m l=>?_) fun h=>absurd f (by lia));dsimp only;refine Qa (YK b hd (by simp) ?_);have e:=QV (Zn (·.setIfInBounds 0 (Zy next))) b (YY (Yo hd _));have d:=Yo hd (fun x=>x.setIfInBounds 0 (Zy next));refine Qa (YK e d (by simp) (Qb ⟨_,rfl,Qb (k x _ next m l ?_ ((QX ..).trans (QX ..)))⟩))
 refine⟨_,QV _ e (YY (Yo d _)),((JG ..).trans (JG ..)).trans g,?_⟩
 rw [Yo d]
 simp [Zy]
theorem Pj{Q:Option YP->JV->Prop}(e:A.handled=none)(c:pK s.heap I a slot es.size es.size ep)(S:iL w s.heap a o es ep t)(g:w.params.followText "set-order"=false->Zh t.place slot=es.size)
  (h:∀ h',Heap.ExtBut I s.heap h'->Q none { s with heap:=h' }):
  JY (J0 prog w) A (Z1 (.ref I)) Q E s:=by
 obtain⟨j,d,k,hd⟩:=id c;unfold Z1
 refine Qa (UD (Yp (name:=Zu "__next__") c.typeIs F.si_next
  (Yc F.si_next c.typeIs F.si_next_entry ?_ (F.si_next_args _))))
 show JY _ _ (fieldsOf (.ref I) >>= _) _ _ s
 refine Qa (UT d hd ?_);dsimp only;refine Qa (JN S.get S.data S.fits ?_);rw [if_neg (by simp)];refine Qa (Fj (i:=es.size) (slot:=slot) S g (fun x next f l=>?_) fun _=>?_)
 ·rw [Yt (by rw [wD];exact Qk _)]at f;cases f
 dsimp only;refine Qa (YK d hd (by simp) ?_)
 show JY _ _ (newExc (.type "StopIteration") [] >>= _) _ _ _
 refine Qa ?_;simp only [newExc,newTuple];refine Qa (Yd ?_ (by size_fits));refine Qa (m:=ZW _ _) (JU (a:=J6) (by first | rfl | (simp only [ZW];rfl)) ?_);refine Yd ?_ (by size_fits);simp only [raiseNew];refine Qa (wpAny_handled ?_)
 first | rw [show A.in1.handled=none from e] | rw [e]
 refine Qa (Qb (wpAny_throw ?_));refine Qa (Jg (T:="StopIteration") (b:=true) ⟨_,Qt _ rfl,rfl⟩ isSubtype_stop ?_);exact Qb (h _ (((QX ..).extBut.push _).push _))
theorem Walks.set{prog:JZ}{w:J1}{A:Around}(y:A.handled=none)(I a:JW)(j:a≠I)(o:Obj)(es:Array (Int × YP))(m:Nat)(t:SetTable):
  Walks prog w A I [I,a] [I] es.size (fun i v=>∃ x,(gT w a m es)[i]?=some x/\v=x.2) (fun i h=>∃ slot,(w.params.followText "set-order"=false->Zh t.place slot=i)/\pK h I a slot i es.size m/\iL w h a o es m t) where
 sub:=fun b d=>by simp at d;simp [d]
 frame:=fun _ _ _ ⟨slot,f,⟨r,G,B,z⟩,S⟩ n=>⟨slot,f,⟨r,n I (by simp) _ G,B,z⟩,S.at (n a (by simp) _ S.get)⟩
 item:=fun i s Q E u ⟨slot,f,c,S⟩ g=>
  Pk c S f u fun x l next K J H p=>g _ l s.toks ⟨x,K,rfl⟩ ⟨next,J,H,S.at ((p.2 a j).trans S.get)⟩ fun b o d e=>p.extBut b o (fun h=>d (by simp [h])) e
 done:=fun s Q E ⟨slot,f,c,S⟩ g=>Pj y c S f fun l k=>g l s.toks fun b o d e=>k b o (fun h=>d (by simp [h])) e
 self:=fun i s Q E q g=>by
  obtain⟨slot,f,c,S⟩:=q;refine wpAny_pyIter_slot c.typeIs F.si_iter (Yc F.si_iter c.typeIs F.si_iter_entry ?_ (F.si_iter_args _))
  show JY _ _ (ret (.ref I)) _ _ s
  exact Qb ⟨_,rfl,"set_iterator",_,c.typeIs,F.si_next.lookup,g⟩
end
structure hW(t:SetTable)(hs:List Int):Prop where
 good:fC t.mask
 len:t.place.toList.length=hs.length
 up:Up t.place.toList
 dup:Up t.dummies.toList
 apart:∀ x∈t.dummies.toList,x∉t.place.toList
 room:(t.place.toList.length+t.dummies.toList.length) * 5<t.mask * 3
 reach:∀ q∈t.place.toList.zip hs,∃ n,(P t.mask q.2 n).j=q.1/\∀ m,m<n->(P t.mask q.2 m).j∈t.place.toList++t.dummies.toList
theorem gL.toD{t:SetTable}{hs:List Int}(T:gL t hs):hW t hs:=by
 refine⟨T.good,T.len,T.up,?_,?_,?_,fun q c=>?_⟩
 ·rw [T.dum];exact List.Pairwise.nil
 ·rw [T.dum];intro x b;simp at b
 ·rw [T.dum];exact T.room
 ·obtain⟨n,e,a⟩:=T.reach q c
  exact⟨n,e,fun m d=>QG _ (a m d)⟩
theorem Bg{xs:Array Nat}(s:Up xs.toList)(j:Nat):has xs j=true ↔ j∈xs.toList:=by
 obtain⟨n,l,k⟩:=oY xs s j;unfold has;constructor
 ·intro h
  have:=Yv h
  rw [<- QN]at this;exact QP this
 ·intro f;obtain⟨i,c⟩:=Q5 f;have m:=(Qe.mp c).1
  have e:i=Zh xs j:=by
   by_cases a:i<Zh xs j
   ·have:=l i j c a;lia
   ·by_cases b:i=Zh xs j
    ·exact b
    ·have g:Zh xs j<xs.toList.length:=by lia
     have d:=Qh g
     have:=s.at d c (by lia)
     have:=k _ _ d (Qk _)
     lia
  rw [<- e,<- QN,c];simp
theorem wX{t:SetTable}{hs:List Int}(T:hW t hs)(j:Nat):(∃ i,t.slot j=.live i/\t.place.toList[i]?=some j) ∨ (t.slot j=.dummy/\j∉t.place.toList/\j∈t.dummies.toList) ∨ (t.slot j=.empty/\j∉t.place.toList++t.dummies.toList):=by
 unfold slot;dsimp only;by_cases c:(t.place[Zh t.place j]? == some j)=true
 ·rw [if_pos c];exact .inl ⟨_,rfl,by rw [QN];exact Yv c⟩
 ·rw [if_neg c];have a:j∉t.place.toList:=fun b=>c ((Bg T.up j).mpr b);by_cases d:has t.dummies j=true
  ·rw [if_pos d];exact .inr (.inl ⟨rfl,a,(Bg T.dup j).mp d⟩)
  ·rw [if_neg d];exact .inr (.inr ⟨rfl,fun h=>(Qx.mp h).elim a fun h=>d ((Bg T.dup j).mpr h)⟩)
theorem Gz{t:SetTable}{hs:List Int}(T:hW t hs){j i:Nat}(h:t.slot j=.live i):t.place.toList[i]?=some j:=by
 rcases wX T j with⟨c,a,b⟩ | ⟨a,_⟩ | ⟨a,_⟩
 ·rw [h]at a;cases a;exact b
 ·rw [h]at a;cases a
 ·rw [h]at a;cases a
theorem hW.fits{t:SetTable}{hs:List Int}(T:hW t hs){n:Nat}(e:hs.length=n):t.fits n=true:=by
 have b:=T.len;have a:=T.room;rw [Qs]at b a;rw [Qs]at a;unfold Z6 Z7;rw [b,e];rw [b]at a;simp only [Qy,beq_iff_eq,decide_eq_true_eq]
 refine⟨?_,?_⟩
 ·trivial
 ·show n+t.dummies.size<=t.mask
  lia
theorem hW.odd{t:SetTable}{hs:List Int}(T:hW t hs):t.gaveWay=false:=by
 unfold SetTable.gaveWay
 rcases T.good with h | h | h | h | h | h | h <;> rw [h] <;> rfl
def Pd(M:Nat)(h:Int)(n:Nat)(d:Option Nat):Probe:={ P M h n with dummy:=d }
theorem Iw(M:Nat)(p:Probe)(d:Option Nat):iE M { p with dummy:=d }={ iE M p with dummy:=d }:=by
 unfold iE;dsimp only
 split <;> rfl
theorem Ds(M:Nat)(h:Int)(n:Nat)(d:Option Nat):iE M (Pd M h n d)=Pd M h (n+1) d:=Iw M (P M h n) d
section
variable {t:SetTable}{hs:List Int}{hashAt:Nat->Int}{h:Int}{n:Nat}
theorem M2(a c:Nat)(d:Option Nat):UI t hashAt h (a+1) (Pd t.mask h c d)=match t.slot (P t.mask h c).j with
  | .empty=>some (.empty (P t.mask h c).j d)
  | .dummy=>UI t hashAt h a (Pd t.mask h (c+1) (some (P t.mask h c).j))
  | .live i=>if(hashAt i == h)=true then some (.candidate (P t.mask h c).j i (Pd t.mask h (c+1) d))else UI t hashAt h a (Pd t.mask h (c+1) d):=by
 conv=>lhs;unfold UI
 rw [<- Ds t.mask h c d,<- Ds t.mask h c (some (P t.mask h c).j)];rfl
theorem Bb(T:hW t hs)(s:(P t.mask h n).j∉t.place.toList++t.dummies.toList)(u:∀ m,m<n->(P t.mask h m).j∈t.place.toList++t.dummies.toList):∀ fuel c d,c<=n->n-c<fuel->
  (∃ d',UI t hashAt h fuel (Pd t.mask h c d)=some (.empty (P t.mask h n).j d')/\∀ m,c<=m->m<n->∀ i,t.slot (P t.mask h m).j=.live i->hashAt i≠h)
  ∨ ∃ m i d',c<=m/\m<n/\t.slot (P t.mask h m).j=.live i/\hashAt i=h/\(∀ m',c<=m'->m'<m->∀ i,t.slot (P t.mask h m').j=.live i->hashAt i≠h)/\UI t hashAt h fuel (Pd t.mask h c d)=some (.candidate (P t.mask h m).j i (Pd t.mask h (m+1) d'))
 | 0,c,d,_,hf=>absurd hf (YD _)
 | fuel+1,c,d,hc,hf=>by
  rw [M2];by_cases e:c=n
  ·subst e;rcases wX T (P t.mask h c).j with⟨i,l,r⟩ | ⟨l,r,v⟩ | ⟨l,_⟩
   ·exact absurd (QG _ (QP r)) s
   ·exact absurd (Qu _ v) s
   ·rw [l];exact .inl ⟨d,rfl,fun m a b=>by lia⟩
  ·rcases wX T (P t.mask h c).j with⟨i,l,r⟩ | ⟨l,r,v⟩ | ⟨_,r⟩
   ·rw [l];dsimp only;by_cases k:(hashAt i == h)=true
    ·rw [if_pos k];exact .inr ⟨c,i,d,Qk _,by lia,l,Yv k,fun m' a b=>by lia,rfl⟩
    ·rw [if_neg k];have w:hashAt i≠h:=fun e=>k (by rw [e];simp);rcases Bb T s u fuel (c+1) d (by lia) (by lia)with⟨d',a,b⟩ | ⟨m,i',d',a1,a2,a3,a4,a5,a6⟩
     ·refine .inl ⟨d',a,fun m p g o f=>?_⟩;by_cases q:m=c
      ·subst q;rw [l]at f;cases f;exact w
      ·exact b m (by lia) g o f
     ·refine .inr ⟨m,i',d',by lia,a2,a3,a4,fun m' p g o f=>?_,a6⟩;by_cases q:m'=c
      ·subst q;rw [l]at f;cases f;exact w
      ·exact a5 m' (by lia) g o f
   ·rw [l];dsimp only;rcases Bb T s u fuel (c+1) (some (P t.mask h c).j) (by lia) (by lia)with⟨d',a,b⟩ | ⟨m,i',d',a1,a2,a3,a4,a5,a6⟩
    ·refine .inl ⟨d',a,fun m p g o f=>?_⟩;by_cases q:m=c
     ·subst q;rw [l]at f;cases f
     ·exact b m (by lia) g o f
    ·refine .inr ⟨m,i',d',by lia,a2,a3,a4,fun m' p g o f=>?_,a6⟩;by_cases q:m'=c
     ·subst q;rw [l]at f;cases f
     ·exact a5 m' (by lia) g o f
   ·exact absurd (u c (by lia)) r
theorem Kj(T:hW t hs)(k:(P t.mask h n).j∉t.place.toList++t.dummies.toList){i j:Nat}(b:t.place.toList[i]?=some j)(g:hs[i]?=some h):∃ m,m<n/\(P t.mask h m).j=j:=by
 have f:(j,h)∈t.place.toList.zip hs:=QP (i:=i) (by rw [YJ];exact⟨b,g⟩);obtain⟨m,e,a⟩:=T.reach _ f
 refine⟨m,YI fun c=>k ?_,e⟩
 by_cases d:n=m
 ·subst d;rw [e];exact QG _ (QP b)
 ·exact a n (by lia)
end
section
variable {prog:JZ}{w:J1}{A:Around}{E:YP->JV->Prop}{s:JV}
theorem Em{a x:JW}{o:Obj}{es:Array (Int × YP)}{ep:Nat}{t:SetTable}{ks:List (List Int)}{k:List Int}{n:Nat}{Q:SetFound->JV->Prop}
  (hu:A.units<Za) (ho:s.heap.get? a=some o) (hd:o.data=.set es ep t) (T:hW t (es.toList.map (·.1))) (X:bV prog w s.heap es.toList ks) (hk:TK prog w s.heap k x)
  (h1:(P t.mask (TH prog w k) n).j∉t.place.toList++t.dummies.toList) (h2:∀ m,m<n->(P t.mask (TH prog w k) m).j∈t.place.toList++t.dummies.toList)
  (q1:∀ i,ks[i]?=some k->Q (.there (some i)) s) (U:k∉ks->∀ j b,Q (.free j b) s):
  ∀ fuel c d,c<=n->n<10 * U1 t.mask->n-c<fuel->(∀ m,m<c->∀ i,t.slot (P t.mask (TH prog w k) m).j=.live i->ks[i]?≠some k)->∀ stand:Option Probe,stand.getD (t.probeStart (TH prog w k))=Pd t.mask (TH prog w k) c d->
  JY (J0 prog w) A (setSearchFrom a (.ref x) (TH prog w k) false fuel stand) Q E s
 | 0,c,d,_,_,hf,_,_,_=>absurd hf (YD _)
 | fuel+1,c,d,hc,hN,hf,inv,stand,hst=>by
  have u:t.fits es.size=true:=T.fits (by simp);unfold setSearchFrom;refine Qa (QU ho hd u ?_);dsimp only;rw [hst,if_neg (by rw [T.odd];exact QA)];refine Qa (Qb ?_);generalize S:t.probe _ (TH prog w k) (Pd t.mask (TH prog w k) c d)=met;obtain⟨f,a6,S⟩:∃ f:Nat->Int,(∀ i,f i=(es[i]?.map (·.1)).getD 0)/\t.probe f (TH prog w k) (Pd t.mask (TH prog w k) c d)=met:=⟨_,fun _=>rfl,S⟩
  have key:∀ m i,t.slot (P t.mask (TH prog w k) m).j=.live i->f i≠TH prog w k->ks[i]?≠some k:=fun m i G a0 a2=>by
   have Z:=Gz T G
   have q:i<es.toList.length:=by
    have:=(Qe.mp Z).1
    rw [T.len]at this
    simpa using this
   obtain⟨F,b,v,N,e3⟩:=X.at (Qh q);rw [a2]at v;cases v;apply a0;rw [a6,<- QN,Qh q,N];rfl
  have a5:=Bb (hashAt:=f) T h1 h2 (10 * U1 t.mask) c d hc (by lia);rcases a5 with⟨O,g1,g2⟩ | ⟨m,i,O,g1,g2,g3,g4,g5,g6⟩
  ·have:met=some (.empty (P t.mask (TH prog w k) n).j O):=S.symm.trans g1
   subst this
   have H:k∉ks:=fun K=>by
    obtain⟨i,G⟩:=Q5 K
    have q:i<es.toList.length:=by rw [X.length];exact(Qe.mp G).1
    obtain⟨F,b,v,N,e3⟩:=X.at (Qh q);rw [G]at v;cases v
    have J:i<t.place.toList.length:=by rw [T.len];simpa using q
    obtain⟨m,hm,hj⟩:=Kj T h1 (Qh J) (h:=TH prog w k) (by rw [QS,Qh q,N];rfl);rcases wX T (P t.mask (TH prog w k) m).j with⟨p,B,g⟩ | ⟨_,g,_⟩ | ⟨_,g⟩
    ·have a3:p=i:=by
      rw [hj]at g;have a1:=Qh J;by_cases Y:p<i
      ·have:=T.up.at g a1 Y;lia
      ·by_cases W:i<p
       ·have:=T.up.at a1 g W;lia
       ·lia
     subst a3;by_cases cm:m<c
     ·exact inv m cm p B G
     ·exact key m p B (g2 m (by lia) hm p B) G
    ·rw [hj]at g;exact g (Yr _)
    ·rw [hj]at g;exact g (QG _ (Yr _))
   dsimp only
   cases O with
   | none=>exact Qb (U H _ _)
   | some dd=>
    dsimp only;rw [if_neg (by simp)];exact Qb (U H _ _)
  ·have:met=some (.candidate (P t.mask (TH prog w k) m).j i (Pd t.mask (TH prog w k) (m+1) O)):=S.symm.trans g6
   subst this;have Z:=Gz T g3
   have q:i<es.toList.length:=by
    have:=(Qe.mp Z).1
    rw [T.len]at this
    simpa using this
   obtain⟨F,b,v,N,e3⟩:=X.at (Qh q)
   have M:es[i]?=some (TH prog w F,.ref b):=by rw [<- QN,Qh q,N]
   dsimp only
   have z:∀ y∈(es.filter (fun x=>x.1 == TH prog w k)).toList.map (fun x=>x.2),∃ F b,y=.ref b/\TK prog w s.heap F b:=fun y hy=>by
    obtain⟨e,he,rfl⟩:=QT.mp hy
    have a7:e∈es.toList:=by
     rw [Array.toList_filter]at he
     exact(QB.mp he).1
    obtain⟨i2,a4⟩:=Q5 a7;obtain⟨k2,b2,_,z2,z3⟩:=X.at a4
    exact⟨k2,b2,by rw [z2],z3⟩
   split
   all_goals try (refine Qa (G8 hk z ?_);rw [if_neg QA])
   all_goals
    rw [M];dsimp only;refine Qa (Q7 (wpAny_eqBool_tuple hu e3 hk ?_));refine Qa (QU ho hd u ?_);dsimp only;rw [if_neg (by simp),show t.sameMemory t.moves t.mask=some true by unfold sameMemory;simp];dsimp only;rw [if_pos rfl,g3];dsimp only;rw [M];dsimp only;refine Qa (wpAny_isSame_ref_self ?_);simp only [if_true];refine Qa (Qb ?_);dsimp only;by_cases r:F=k
    ·rw [if_pos (by simp [r])];exact Qb (q1 i (r ▸ v))
    ·rw [if_neg (by simp [r])];refine Em hu ho hd T X hk h1 h2 q1 U fuel (m+1) O (by lia) hN (by lia) (fun I a8 p l=>?_) _ rfl;by_cases Y:I<c
     ·exact inv I Y p l
     ·by_cases W:I=m
      ·subst W;rw [g3]at l;cases l;rw [v];exact fun e=>r (QJ e)
      ·exact key I p l (g5 I (by lia) (by lia) p l)
theorem En{a x:JW}{o:Obj}{es:Array (Int × YP)}{G:Nat}{t:SetTable}{d:List (List Int)}{k:List Int}{Q:Option Nat->JV->Prop}
  (v:A.units<Za) (h:s.heap.get? a=some o) (hd:o.data=.set es G t) (T:hW t (es.toList.map (·.1))) (X:bV prog w s.heap es.toList d) (B:TK prog w s.heap k x)
  (q:∀ i,d[i]?=some k->Q (some i) s) (p:k∉d->Q none s):JY (J0 prog w) A (setFind a (.ref x) (TH prog w k)) Q E s:=by
 have c:t.fits es.size=true:=T.fits (by simp);have e:=T.room;obtain⟨n,f,u,r⟩:=DQ (l:=t.place.toList++t.dummies.toList) T.good (by rw [Qf];lia) (TH prog w k)
 have H:t.mask<=511:=by rcases T.good with g | g | g | g | g | g | g <;> lia
 unfold setFind setFindIn;refine Qa (QU h hd c ?_);dsimp only;rw [if_neg (by simp [byScan,Value.scannable])];refine Qa ?_;unfold setSearch;refine Em v h hd T X B u r ?_ ?_ 100000 0 none (QY _) f (by unfold U1 at f;lia) (fun m z=>absurd z (YD _)) none ?_
 ·intro i F;exact Qb (q i F)
 ·intro y j b;exact Qb (p y)
 ·show P t.mask (TH prog w k) 0=_
  rfl
end
theorem rV{a:Type}(xs:Array a)(p:Nat):(ZT xs p).toList=xs.toList.take p++xs.toList.drop (p+1):=by
 unfold ZT;rw [Array.toList_append,Array.toList_extract,Array.toList_extract];simp only [List.extract_eq_take_drop,Nat.sub_zero,List.drop_zero];congr 1;exact List.take_of_length_le (by rw [YG,Qs];lia)
theorem FO{l:List Nat}(s:Up l){i j:Nat}(c:l[i]?=some j)(x:Nat):x∈l.take i++l.drop (i+1) ↔ x∈l/\x≠j:=by
 have d:=(Qe.mp c).1
 have e:l=l.take i++j::l.drop (i+1):=by
  have:l[i]=j:=by rw [Qh d]at c;exact QJ c
  rw [<- this,<- Ym d,Ye]
 have f:(l.take i++j::l.drop (i+1)).Nodup:=by rw [<- e];exact s.nodup
 constructor
 ·intro a
  refine⟨?_,fun q=>?_⟩
  ·rw [e];rcases Qx.mp a with h | h
   ·exact QG _ h
   ·exact Qu _ (Qg _ h)
  ·subst q
   have:=(List.perm_middle.nodup_iff.mp f)
   exact(Yu.mp this).1 a
 ·rintro⟨a,b⟩
  rw [e]at a;rcases Qx.mp a with h | h
  ·exact QG _ h
  ·rcases Qi.mp h with h | h
   ·exact absurd h b
   ·exact Qu _ h
theorem U8{xs:Array Nat}(s:Up xs.toList){j:Nat}(m:j∉xs.toList):Up (Zm xs (Zh xs j) j).toList:=by
 obtain⟨p,o,n⟩:=oY xs s j;rw [kQ];unfold Up;rw [List.pairwise_append]
 have d:∀ x∈xs.toList.take (Zh xs j),x<j:=fun x g=>by
  obtain⟨i,c⟩:=Q5 g;rw [List.getElem?_take]at c
  split at c
  ·rename_i q;exact o i x c q
  ·cases c
 have f:∀ x∈xs.toList.drop (Zh xs j),j<x:=fun x g=>by
  obtain⟨i,c⟩:=Q5 g;rw [List.getElem?_drop]at c
  have:=n _ x c (by lia)
  have l:x≠j:=fun e=>m (e ▸ QP c);lia
 refine⟨s.sublist (List.take_sublist _ _),Q9.mpr ⟨f,s.sublist (List.drop_sublist _ _)⟩,fun a k b h=>?_⟩
 rcases Qi.mp h with rfl | h
 ·exact d a k
 ·exact Nat.lt_trans (d a k) (f b h)
theorem FP{xs:Array Nat}{p j x:Nat}:x∈(Zm xs p j).toList ↔ x=j ∨ x∈xs.toList:=by
 rw [kQ,Qx,Qi]
 conv=>rhs;rw [<- Ye p xs.toList,Qx]
 constructor
 ·rintro(a | a | a)
  ·exact .inr (.inl a)
  ·exact .inl a
  ·exact .inr (.inr a)
 ·rintro(a | a | a)
  ·exact .inr (.inl a)
  ·exact .inl a
  ·exact .inr (.inr a)
theorem Vj{d c:Type}{l:List d}{m:List c}{i:Nat}(b:l.length=m.length){q:d × c}(h:q∈(l.take i++l.drop (i+1)).zip (m.take i++m.drop (i+1))):q∈l.zip m:=by
 rw [List.zip_append (by rw [Q0,Q0,b]),Qx]at h;rcases h with h | h
 ·obtain⟨n,a⟩:=Q5 h;rw [YJ,List.getElem?_take,List.getElem?_take]at a
  split at a
  ·exact QP (i:=n) (by rw [YJ];exact a)
  ·cases a.1
 ·obtain⟨n,a⟩:=Q5 h;rw [YJ,List.getElem?_drop,List.getElem?_drop]at a;exact QP (i:=i+1+n) (by rw [YJ];exact a)
theorem Ni{t:SetTable}{hs:List Int}{i:Nat}(T:hW t hs)(y:i<hs.length):hW (t.drop i) (hs.take i++hs.drop (i+1))/\(t.drop i).plain=t.plain/\(t.drop i).led=t.led:=by
 have p:i<t.place.toList.length:=by rw [T.len];exact y
 obtain⟨j,g⟩:∃ j,t.place.toList[i]?=some j:=⟨_,Qh p⟩
 have l:t.place[i]?=some j:=by rw [<- QN];exact g
 have o:j∈t.place.toList:=QP g;have s:j∉t.dummies.toList:=fun h=>T.apart j h o
 have e:t.drop i={ t with place:=ZT t.place i,dummies:=Zm t.dummies (Zh t.dummies j) j }:=by
  unfold SetTable.drop;rw [l]
 rw [e];have d:(ZT t.place i).toList=t.place.toList.take i++t.place.toList.drop (i+1):=rV _ _
 have A:(ZT t.place i).toList.length+1=t.place.toList.length:=by
  rw [d,Qf,Q0,YG];lia
 have r:(Zm t.dummies (Zh t.dummies j) j).toList.length=t.dummies.toList.length+1:=by
  rw [(Je _ _ _).length_eq];simp
 have k:∀ x,x∈(ZT t.place i).toList++(Zm t.dummies (Zh t.dummies j) j).toList ↔ x∈t.place.toList++t.dummies.toList:=fun x=>by
  rw [Qx,Qx,d,FO T.up g,FP];constructor
  ·rintro(⟨a,_⟩ | a | a)
   ·exact .inl a
   ·exact .inl (a ▸ o)
   ·exact .inr a
  ·rintro(a | a)
   ·by_cases c:x=j
    ·exact .inr (.inl c)
    ·exact .inl ⟨a,c⟩
   ·exact .inr (.inr a)
 refine⟨⟨T.good,?_,?_,U8 T.dup s,fun x u=>?_,?_,fun q v=>?_⟩,rfl,rfl⟩
 ·show(ZT t.place i).toList.length=_
  rw [d,Qf,Qf,Q0,YG,Q0,YG,T.len]
 ·show Up (ZT t.place i).toList
  rw [d];refine T.up.sublist ?_
  have:(t.place.toList.take i++t.place.toList.drop (i+1)).Sublist (t.place.toList.take i++t.place.toList.drop i):=List.Sublist.append (List.Sublist.refl _) (by
   rw [Ym p];exact List.sublist_cons_self _ _)
  rwa [Ye]at this
 ·show x∉(ZT t.place i).toList
  rw [d,FO T.up g]
  rintro⟨a,b⟩
  rcases FP.mp u with c | c
  ·exact b c
  ·exact T.apart x c a
 ·show((ZT t.place i).toList.length+(Zm t.dummies (Zh t.dummies j) j).toList.length) * 5<t.mask * 3
  have:=T.room
  rw [r];lia
 ·have f:q∈(ZT t.place i).toList.zip (hs.take i++hs.drop (i+1)):=v;rw [d]at f;obtain⟨n,z,a⟩:=T.reach q (Vj T.len f)
  exact⟨n,z,fun m w=>(k _).mpr (a m w)⟩
def mP(prog:JZ)(w:J1)(V:YP->Prop)(h:Heap)(a:JW)(b:List (List Int)):Prop:=
 ∃ o es ep t,h.get? a=some o/\o.ExactSet/\o.data=.set es ep t/\hW t (es.toList.map (·.1))/\(t.plain=true/\t.led=i7 w)/\bV prog w h es.toList b/\b.Nodup/\∀ e∈es.toList,V e.2
theorem cW.toD{prog:JZ}{w:J1}{V:YP->Prop}{h:Heap}{a:JW}{ks:List (List Int)}(S:cW prog w V h a ks):mP prog w V h a ks:=by
 obtain⟨o,k,l,t,j,i,g,f,e,d,c,b⟩:=S
 exact⟨o,k,l,t,j,i,g,f.toD,e,d,c,b⟩
section
variable {prog:JZ}{w:J1}{A:Around}{E:YP->JV->Prop}{s:JV}{V:YP->Prop}
theorem EC{a:Type}{l:List a}{i:Nat}{x:a}(h:l[i]?=some x):List.Perm l (x::(l.take i++l.drop (i+1))):=by
 have b:=(Qe.mp h).1
 have:l[i]=x:=by rw [Qh b]at h;exact QJ h
 have e:l=l.take i++x::l.drop (i+1):=by rw [<- this,<- Ym b,Ye]
 exact(List.Perm.of_eq e).trans List.perm_middle
theorem Nf{a x:JW}{d:List (List Int)}{k:List Int}{Q:Bool->JV->Prop}(F:A.units<Za)(S:mP prog w V s.heap a d)(I:TK prog w s.heap k x)
  (y:k∉d->Q false s) (v:∀ h' ks',Ze a s.heap h'->mP prog w V h' a ks'->List.Perm d (k::ks')->Q true { s with heap:=h' }) (hsz:d.length<=1000):
  JY (J0 prog w) A (setDiscardHashed a (.ref x) (TH prog w k)) Q E s:=by
 obtain⟨o,c,M,t,h,q,hd,T,r,X,l,u⟩:=S;have j:t.fits c.size=true:=T.fits (by simp);unfold setDiscardHashed;refine Qa (En F h hd T X I (fun i p=>?_) fun G=>Qb (y G));dsimp only;have m:i<d.length:=(Qe.mp p).1
 have n:i<c.toList.length:=by rw [X.length];exact m
 refine Qa (QU h hd j ?_);dsimp only
 have K:c.size=d.length:=by rw [<- X.length,Qs]
 have H:(ZT c i).size<=c.size:=by
  rw [<- Qs,rV,Qf,Q0,YG,Qs];lia
 refine Qa (Jo h hd ?_ (by rw [Yf];lia))
 have J:(s.heap.update a (Zv (ZT c i) (t.drop i))).get? a=some { o with data:=.set (ZT c i) (M+1) (t.drop i) }:=by
  have:=QV (Zv (ZT c i) (t.drop i)) h (by rw [Js _ _ hd];rfl)
  rw [Js _ _ hd]at this;exact this
 have g:=QX s.heap a (Zv (ZT c i) (t.drop i));obtain⟨N,B,z⟩:=Ni (i:=i) T (by rw [Ql];exact n);refine Qa (wpAny_point (Qb (v _ (d.take i++d.drop (i+1)) g ⟨_,_,_,_,J,q,rfl,?_,⟨by rw [B];exact r.1,by rw [z];exact r.2⟩,?_,?_,fun e f=>?_⟩ (EC p))))
 ·rw [rV,QZ,List.map_take,List.map_drop];exact N
 ·rw [rV]
  exact((X.take i).append (X.drop (i+1))).mono fun k b=>TK.keep h hd g
 ·exact(Yu.mp ((EC p).nodup_iff.mp l)).2
 ·rw [rV]at f;rcases Qx.mp f with f | f
  ·exact u e (List.mem_of_mem_take f)
  ·exact u e (List.mem_of_mem_drop f)
abbrev rW(w:J1):Obj:={ cls:=.type "set",dict:=none,data:=.set #[] 0 (.fresh 0 0 (i7 w)) }
theorem Fh{Q:YP->JV->Prop}(h:Q (.ref s.heap.objs.size) { s with heap:=s.heap.push (rW w) }):JY (J0 prog w) A (newSet (.type "set")) Q E s:=by
 unfold newSet setsByText;refine Qa (Qa (Uv (Qb ?_)));dsimp only;simp only [newObj];exact Qa (wpAny_alloc (Qb h))
structure w6(w:J1)(t:SetTable)(M:Nat):Prop where
 good:fC M
 mask:t.mask=M
 place:t.place=#[]
 dum:t.dummies=#[]
 plain:t.plain=true
 led:t.led=i7 w
theorem Rj(t:SetTable)(a:Nat):t.relaid #[] a=some ({ mask:=Zd a-1,place:=#[],dummies:=#[],finger:=t.finger,led:=t.led,moves:=t.movedTo (Zd a-1),plain:=t.plain },#[]):=by
 unfold relaid laid layClean
 have e:∀ M:Nat,((List.range (M+1)).filterMap fun j=>((Z9 (M+1) (none:Option Nat)).getD j none).map (j,·))=[]:=fun M=>by
  rw [List.filterMap_eq_nil_iff];intro j _
  have:(Z9 (M+1) (none:Option Nat)).getD j none=none:=by
   unfold US;split
   ·simp
   ·rfl
  rw [this];rfl
 show some _=_
 simp only [e];rfl
theorem OA{n:Nat}(a:n * 5 >= 21)(f:n<=75):∃ M,Zd (n * 2)-1=M/\fC M/\n * 5<M * 3/\¬ Zd (n * 2) > sizeLine:=by
 have h:∀ n:Fin 76,n.val * 5 >= 21->(Zd (n.val * 2)-1=15 ∨ Zd (n.val * 2)-1=31 ∨ Zd (n.val * 2)-1=63 ∨ Zd (n.val * 2)-1=127 ∨ Zd (n.val * 2)-1=255)/\n.val * 5<(Zd (n.val * 2)-1) * 3/\Zd (n.val * 2)<=256:=by decide +kernel
 obtain⟨d,c,b⟩:=h ⟨n,by lia⟩ a
 refine⟨_,rfl,?_,c,by rw [Yf];exact Nat.not_lt.mpr (Qv b (by decide))⟩
 unfold fC
 rcases d with e | e | e | e | e <;> simp only at e <;> lia
theorem Ss{n:Nat}(d:n<=63):∃ M,Zd (grown n)-1=M/\fC M/\n * 5<M * 3/\¬ Zd (grown n) > sizeLine:=by
 have h:∀ n:Fin 64,(Zd (grown n.val)-1=7 ∨ Zd (grown n.val)-1=15 ∨ Zd (grown n.val)-1=31 ∨ Zd (grown n.val)-1=63 ∨ Zd (grown n.val)-1=127 ∨ Zd (grown n.val)-1=255)/\n.val * 5<(Zd (grown n.val)-1) * 3/\Zd (grown n.val)<=256:=by decide +kernel
 obtain⟨c,b,a⟩:=h ⟨n,by lia⟩
 refine⟨_,rfl,?_,b,by rw [Yf];exact Nat.not_lt.mpr (Qv a (by decide))⟩
 unfold fC
 rcases c with e | e | e | e | e | e <;> simp only at e <;> lia
theorem Tp{r n:Nat}{o:Obj}{t:SetTable}{i:Nat}{Q:Unit->JV->Prop}(d:s.heap.get? r=some o)(e:o.ExactSet)(hd:o.data=.set #[] i t)(B:w6 w t 7)(p:n<=75)
  (h:∀ h' o' ep' t' M,Ze r s.heap h'->h'.get? r=some o'->o'.ExactSet->o'.data=.set #[] ep' t'->w6 w t' M->n * 5<M * 3->Q () { s with heap:=h' }):JY (J0 prog w) A (setRoomFor r n) Q E s:=by
 have b:t.fits (#[]:Array (Int × YP)).size=true:=by unfold Z6 Z7;rw [B.place,B.dum];simp
 unfold setRoomFor;refine Qa (QU d hd b ?_);unfold SetTable.roomFor Z7;rw [B.place,B.dum,B.mask];by_cases c:(0+n) * 5 >= 7 * 3
 ·rw [if_pos (by simpa using c)];obtain⟨M,m,l,k,j⟩:=OA (n:=n) (by lia) p;unfold setRelay;refine Qa (QU d hd b ?_);dsimp only
  have q:((#[]:Array Nat).size+n) * 2=n * 2:=by simp
  rw [q,if_neg j];have g:=Rj t (n * 2);rw [m]at g
  have u:((#[]:Array (Int × YP)).map (·.1))=#[]:=by simp
  rw [u,g];refine Qa (JU (a:=((#[]:Array (Int × YP)),({ mask:=M,place:=#[],dummies:=#[],finger:=t.finger,led:=t.led,moves:=t.movedTo M,plain:=t.plain }:SetTable))) (by rfl) ?_);dsimp only;refine Jo d hd ?_ (by simp);have f:=QV (Zv #[] { mask:=M,place:=#[],dummies:=#[],finger:=t.finger,led:=t.led,moves:=t.movedTo M,plain:=t.plain }) d (by rw [Js _ _ hd];rfl);rw [Js _ _ hd]at f;exact h _ _ _ _ M (QX ..) f e rfl ⟨l,rfl,rfl,rfl,B.plain,B.led⟩ k
 ·rw [if_neg (by simpa using c)];exact Qb (h s.heap o i t 7 (JF ..) d e hd B (by lia))
theorem PK{r a:JW}{o:Obj}{t:SetTable}{ep:Nat}{ks:List (List Int)}{Q:Unit->JV->Prop}(G:r≠a)(W:s.heap.get? r=some o)(K:o.ExactSet)(hd:o.data=.set #[] ep t)(B:w6 w t 7)
  (S:cW prog w V s.heap a ks) (hn:ks.length<=75) (h:∀ h' ks',Ze r s.heap h'->cW prog w V h' r ks'->List.Perm ks' ks->Q () { s with heap:=h' }):JY (J0 prog w) A (setMerge r a (pure ())) Q E s:=by
 obtain⟨oa,f,a2,m,ha,a0,Z,T,N,X,H,hV⟩:=S
 have y:f.size=ks.length:=by rw [<- X.length,Qs]
 unfold setMerge;rw [if_neg (by simpa using G)];refine Qa (QU ha Z (T.fits (by simp)) ?_);dsimp only;by_cases em:f.isEmpty=true
 ·rw [if_pos em]
  have e0:f=#[]:=by simpa using em
  have k0:ks=[]:=by
   rw [e0]at y;exact Yl y.symm
  subst k0;refine Qb (h s.heap [] (JF ..) ⟨o,#[],ep,t,W,K,hd,?_,⟨B.plain,B.led⟩,.nil,Jv,fun e Y=>by simp at Y⟩ (.refl _))
  exact⟨by rw [B.mask];exact B.good,B.dum,by rw [B.place];rfl,by rw [B.place];exact List.Pairwise.nil,fun x hx=>by rw [B.place]at hx;simp at hx,by rw [B.place,B.mask];decide,fun q hq=>by rw [B.place]at hq;simp at hq⟩
 ·rw [if_neg em];refine Qa (Tp W K hd B (by rw [y];exact hn) fun z o1 a3 j M sb1 l u g B1 hM=>?_);have a1:z.get? a=some oa:=(sb1.2 a (Zx G)).trans ha;have X1:bV prog w z f.toList ks:=X.mono fun k b=>TK.keep W hd sb1;refine Qa (QU (s:={ s with heap:=z }) l g (by unfold Z6 Z7;rw [B1.place,B1.dum];simp) ?_);dsimp only
  have hf:(j.fill != 0)=false:=by unfold Z7;rw [B1.place,B1.dum];rfl
  have F:f.size<=sizeLine:=by rw [Yf];lia
  unfold SetTable.road;rw [hf,if_neg QA];by_cases c:(j.mask == m.mask && m.dummies.isEmpty)=true
  ·rw [if_pos c];dsimp only;refine Jo (s:={ s with heap:=z }) l g ?_ F;have J:=QV (Zv f { m with finger:=j.finger,led:=j.led && m.led,moves:=j.moves,plain:=j.plain && m.plain }) l (by rw [Js _ _ g];rfl);rw [Js _ _ g]at J;have sb2:=QX z r (Zv f { m with finger:=j.finger,led:=j.led && m.led,moves:=j.moves,plain:=j.plain && m.plain });refine h _ ks (sb1.trans sb2) ⟨_,_,_,_,J,u,rfl,⟨T.good,T.dum,T.len,T.up,T.le,T.room,T.reach⟩,⟨?_,?_⟩,X1.mono fun k b=>TK.keep l g sb2,H,hV⟩ (.refl _)
   ·show(j.plain && m.plain)=true
    rw [B1.plain,N.1];rfl
   ·show(j.led && m.led)=i7 w
    rw [B1.led,N.2,JQ]
  ·rw [if_neg c];dsimp only;obtain⟨O,d,r1,U,r3,r4,r5⟩:=FD (hs:=f.map (·.1)) (M:=M) j.finger j.moves (j.led && m.led) (j.plain && m.plain) B1.good (by rw [Jj];exact hM)
   have I:∀ i∈d.toList,i<f.toList.length:=fun i hi=>by
    have:=QR.mp (U.mem_iff.mp hi)
    simpa using this
   have v:(d.filterMap (f[·]?)).toList=d.toList.filterMap (f.toList[·]?):=by
    rw [Jz];congr 1
    funext i
    rw [QN]
   have p:List.Perm (d.filterMap (f[·]?)).toList f.toList:=by
    rw [Jz]
    refine(U.filterMap _).trans ?_
    rw [Jj,filterMap_getElem?_range]
   have n:(d.filterMap (f[·]?)).size=f.size:=by rw [<- Qs,p.length_eq,Qs]
   rw [B1.mask,r1];refine Qa ?_
   show JY _ _ (if((d.filterMap (f[·]?)).size != f.size)=true then _ else pure (d.filterMap (f[·]?),O)) _ _ _
   rw [if_neg (by simp [n])];refine Qb ?_;dsimp only;refine Jo (s:={ s with heap:=z }) l g ?_ (by rw [n];exact F);have J:=QV (Zv (d.filterMap (f[·]?)) O) l (by rw [Js _ _ g];rfl);rw [Js _ _ g]at J;have sb2:=QX z r (Zv (d.filterMap (f[·]?)) O)
   have kp:List.Perm (d.toList.filterMap (ks[·]?)) ks:=by
    refine(U.filterMap _).trans ?_
    rw [Jj,<- Qs,X.length,Jc]
   refine h _ (d.toList.filterMap (ks[·]?)) (sb1.trans sb2) ⟨_,_,_,_,J,u,rfl,?_,⟨by rw [r5,B1.plain,N.1];rfl,by rw [r4,B1.led,N.2,JQ]⟩,?_,kp.nodup_iff.mpr H,fun e Y=>hV e (p.mem_iff.mp Y)⟩ kp
   ·rw [v,Bi _ _ I]
    simpa using r3
   ·rw [v]
    exact(X1.pick _ I).mono fun k b=>TK.keep l g sb2
theorem vE{a:JW}{Q:Bool->JV->Prop}(b:s.TypeIs (.ref a) "set")(h:Q true s):JY (J0 prog w) A (ZX (.ref a)) Q E s:=by
 unfold ZX orM;refine Qa (Jg b sub_set_self ?_);exact Qb h
theorem oX{a:JW}{Q:YP->JV->Prop}(b:s.TypeIs (.ref a) "set")(h:Q (.type "set") s):JY (J0 prog w) A (Builtin.Frozenset.baseOf a) Q E s:=by
 unfold Builtin.Frozenset.baseOf;refine Qa (Jg b sub_set_self ?_);rw [if_pos rfl];exact Qb h
theorem wV{a:JW}{o:Obj}{es:Array (Int × YP)}{d:Nat}{t:SetTable}{Q:Nat->JV->Prop}(b:s.heap.get? a=some o)(hd:o.data=.set es d t)(c:t.fits es.size=true)(h:Q es.size s):JY (J0 prog w) A (Z8 a) Q E s:=by
 unfold Z8;exact Qa (JN b hd c (Qb h))
theorem NE{a:JW}{ks:List (List Int)}{Q:YP->JV->Prop}(S:cW prog w V s.heap a ks)(m:ks.length<=75)
  (h:∀ h' ks',(∀ b o,s.heap.get? b=some o->h'.get? b=some o)->cW prog w V h' s.heap.objs.size ks'->List.Perm ks' ks->Q (.ref s.heap.objs.size) { s with heap:=h' }):JY (J0 prog w) A (Builtin.Frozenset.copyOf a) Q E s:=by
 obtain⟨j,y,q,u,f,c,n,T,v,X,l,x⟩:=id S;have p:s.TypeIs (.ref a) "set":=⟨j,f,c.1⟩;have k:=Qo f;unfold Builtin.Frozenset.copyOf;refine Qa (oX p (Qa (Fh ?_)));refine Qa (Qb ?_);have t:cW prog w V (s.heap.push (rW w)) a ks:=S.moved fun b o e _=>Qc _ e;refine Qa (PK (s:={ s with heap:=s.heap.push (rW w) }) (r:=s.heap.objs.size) (YF k) (Qt _ rfl) ⟨rfl,rfl,rfl⟩ rfl ⟨.inl rfl,rfl,rfl,rfl,rfl,rfl⟩ t m fun h' ks' g d i=>?_);exact Qb (h h' ks' (fun b o e=>(g.2 b (Qw (Qo e))).trans (Qc _ e)) d i)
end
end ST
namespace DL
open PySem.Spec L2
abbrev D:=PyData
def kG(K:PySem.W.Frag)(F:JW->Prop)(H:Hp)(a:JW)(vs:List V):Prop:=(F a/\Rd H a (.lst vs)) ∨ cN K (fun _=>none) a vs
theorem kG.sq{K:PySem.W.Frag}{F:JW->Prop}{H:Hp}{a:JW}{vs:List V}(h:kG K F H a vs):cN K H a vs:=by
 rcases h with⟨_,h⟩ | (h | ⟨o,h⟩) | h
 ·exact .inl h
 ·cases h
 ·cases h
 ·exact .inr h
abbrev eN:=Sum (List Int) (List (List Int))
def oG(a:List Int):D:=.tuple (a.map .int)
def qL:eN->D
 | .inl b=>oG b
 | .inr a=>.tuple (a.map oG)
def Gp(a:List Int):Int:=reduceHash (Builtin.Tuple.tupleHashOf (a.map hashInt))
def Go:eN->Int
 | .inl b=>Gp b
 | .inr a=>reduceHash (Builtin.Tuple.tupleHashOf (a.map Gp))
def nU(K:PySem.W.Frag)(H:Hp)(k:eN)(b:JW):Prop:=match k with
 | .inl c=>bQ K H b (c.map V.int)
 | .inr a=>a≠[]/\∃ bs:List JW,bQ K H b (bs.map V.ref)/\Paired (fun(c:List Int) (b:JW)=>bQ K H b (c.map V.int)) a bs
def cA(a:JW)(es:List (eN × JW × V))(b:Nat):HO:=.ext fun h=>(a == Zl)=false/\∃ o raw,h.get? a=some o/\o.ExactDict/\o.data=.dict raw b/\Paired (fun(e:eN × JW × V) (r:ZF)=>r.hash=Go e.1/\r.key=.ref e.2.1/\RelV e.2.2 r.val) es raw.toList
def Ii(a C:JW):HO:=.ext fun h=>∃ o,h.get? a=some o/\o.cls=.ref C
def IO(x:Str):D:=.dict [(.none,.str x)]
def Ik(a:JW)(vs:List V):HO:=.ext fun h=>vs.length<=sizeLine/\∃(its:List YP) (n:Nat),Vals vs its/\h.get? a=some { cls:=.type "list",data:=.seq its.toArray n }
mutual
inductive aR(K:PySem.W.Frag)(F:JW->Prop)(H:Hp):D->V->Prop
 | non:aR K F H .none .non
 | bl (b:Bool):aR K F H (.bool b) (.bl b)
 | int (i:Int):aR K F H (.int i) (.int i)
 | str (x:Str):aR K F H (.str x) (.str x)
 | tup {a:JW}{vs:List V}{ds:List D}:bQ K H a vs->Reps K F H ds vs->aR K F H (.tuple ds) (.ref a)
 | lst {a:JW}{vs:List V}{ds:List D}:kG K F H a vs->Reps K F H ds vs->aR K F H (.list ds) (.ref a)
 | dct {a:JW}{es:List (eN × JW × V)}{kvs:List (D × D)}{ep:Nat}:F a->H a=some (cA a es ep)->(es.map (·.1)).Nodup->es.length<=1000->DReps K F H kvs es->aR K F H (.dict kvs) (.ref a)
 | exn {a C:JW}{x:Str}:F a->H a=some (Ii a C)->PySem.W.nsIn K J2 x=some (some (.ref C))->aR K F H (IO x) (.ref a)
inductive DReps(K:PySem.W.Frag)(F:JW->Prop)(H:Hp):List (D × D)->List (eN × JW × V)->Prop
 | nil:DReps K F H [] []
 | cons {k:eN}{b:JW}{d:D}{v:V}{kvs:List (D × D)}{es:List (eN × JW × V)}:nU K H k b->aR K F H d v->DReps K F H kvs es->DReps K F H ((qL k,d)::kvs) ((k,b,v)::es)
inductive Reps(K:PySem.W.Frag)(F:JW->Prop)(H:Hp):List D->List V->Prop
 | nil:Reps K F H [] []
 | cons {d:D}{v:V}{ds:List D}{vs:List V}:aR K F H d v->Reps K F H ds vs->Reps K F H (d::ds) (v::vs)
end
structure bU(K:PySem.W.Frag)(F F':JW->Prop)(H H':Hp):Prop where
 up:∀ a,F a->F' a
 tp:∀ a xs,bQ K H a xs->bQ K H' a xs
 ls:∀ a xs,F a->Rd H a (.lst xs)->Rd H' a (.lst xs)
 xt:∀ a u,F a->H a=some u->H' a=some u
theorem bU.refl(K:PySem.W.Frag)(F:JW->Prop)(H:Hp):bU K F F H H:=⟨fun _ h=>h,fun _ _ h=>h,fun _ _ _ h=>h,fun _ _ _ h=>h⟩
theorem bU.trans{K:PySem.W.Frag}{F i g:JW->Prop}{H e H2:Hp}(a:bU K F i H e)(b:bU K i g e H2):bU K F g H H2:=
 ⟨fun x h=>b.up x (a.up x h),fun x c h=>b.tp x c (a.tp x c h),fun x c f h=>b.ls x c (a.up x f) (a.ls x c f h),fun x d f h=>b.xt x d (a.up x f) (a.xt x d f h)⟩
theorem nU.stay{K:PySem.W.Frag}{F e:JW->Prop}{H H':Hp}(S:bU K F e H H'){k:eN}{b:JW}(h:nU K H k b):nU K H' k b:=by
 cases k with
 | inl f=>exact S.tp _ _ h
 | inr a=>obtain⟨n,bs,d,c⟩:=h;exact⟨n,bs,S.tp _ _ d,Paired.mapP c fun _ _ z=>S.tp _ _ z⟩
theorem kG.stay{K:PySem.W.Frag}{F b:JW->Prop}{H H':Hp}(S:bU K F b H H'){a:JW}{vs:List V}(h:kG K F H a vs):kG K b H' a vs:=by
 rcases h with⟨f,h⟩ | h
 ·exact .inl ⟨S.up a f,S.ls a vs f h⟩
 ·exact .inr h
mutual
theorem aR.stay{K:PySem.W.Frag}{F a:JW->Prop}{H H':Hp}(S:bU K F a H H'){d:D}{v:V}(h:aR K F H d v):aR K a H' d v:=by
 cases h with
 | non=>exact .non
 | bl b=>exact .bl b
 | int i=>exact .int i
 | str x=>exact .str x
 | tup h r=>exact .tup (S.tp _ _ h) (Reps.stay S r)
 | lst h r=>exact .lst (h.stay S) (Reps.stay S r)
 | dct f h n l r=>exact .dct (S.up _ f) (S.xt _ _ f h) n l (DReps.stay S r)
 | exn f h n=>exact .exn (S.up _ f) (S.xt _ _ f h) n
theorem DReps.stay{K:PySem.W.Frag}{F a:JW->Prop}{H H':Hp}(S:bU K F a H H'){kvs:List (D × D)}{es:List (eN × JW × V)}(h:DReps K F H kvs es):DReps K a H' kvs es:=by
 cases h with
 | nil=>exact .nil
 | cons h r t=>exact .cons (h.stay S) (aR.stay S r) (DReps.stay S t)
theorem Reps.stay{K:PySem.W.Frag}{F a:JW->Prop}{H H':Hp}(S:bU K F a H H'){ds:List D}{vs:List V}(h:Reps K F H ds vs):Reps K a H' ds vs:=by
 cases h with
 | nil=>exact .nil
 | cons h r=>exact .cons (aR.stay S h) (Reps.stay S r)
end
theorem Reps.length{K:PySem.W.Frag}{F:JW->Prop}{H:Hp}:∀{ds:List D}{vs:List V},Reps K F H ds vs->ds.length=vs.length
 | _,_,.nil=>rfl
 | _,_,.cons _ r=>by simp [Reps.length r]
theorem Reps.get{K:PySem.W.Frag}{F:JW->Prop}{H:Hp}:∀{ds:List D}{vs:List V}{i:Nat}{d:D},Reps K F H ds vs->ds[i]?=some d->∃ v,vs[i]?=some v/\aR K F H d v
 | _,_,_,_,.nil,e=>by simp at e
 | _,_,0,_,.cons h _,e=>by simp at e;subst e;exact⟨_,rfl,h⟩
 | _,_,i+1,d,.cons _ r,e=>by
  obtain⟨v,b,a⟩:=Reps.get (i:=i) (d:=d) r (by simpa using e)
  exact⟨v,by simpa using b,a⟩
theorem Reps.append{K:PySem.W.Frag}{F:JW->Prop}{H:Hp}:∀{ds es:List D}{vs us:List V},Reps K F H ds vs->Reps K F H es us->Reps K F H (ds++es) (vs++us)
 | _,_,_,_,.nil,s=>s
 | _,_,_,_,.cons h r,s=>.cons h (Reps.append r s)
theorem Reps.take{K:PySem.W.Frag}{F:JW->Prop}{H:Hp}:∀{ds:List D}{vs:List V} (n:Nat),Reps K F H ds vs->Reps K F H (ds.take n) (vs.take n)
 | _,_,0,_=>.nil
 | _,_,_+1,.nil=>.nil
 | _,_,n+1,.cons h r=>.cons h (Reps.take n r)
theorem Reps.drop{K:PySem.W.Frag}{F:JW->Prop}{H:Hp}:∀{ds:List D}{vs:List V} (n:Nat),Reps K F H ds vs->Reps K F H (ds.drop n) (vs.drop n)
 | _,_,0,r=>r
 | _,_,_+1,.nil=>.nil
 | _,_,n+1,.cons _ r=>Reps.drop n r
structure aH(F F':JW->Prop)(H H':Hp):Prop where
 same:dA H H'
 up:∀ a,F a->F' a
 new:∀ a,F' a->F a ∨ (H a=none/\H' a≠none)
theorem aH.refl(F:JW->Prop)(H:Hp):aH F F H H:=⟨dA.refl H,fun _ h=>h,fun _ h=>.inl h⟩
theorem aH.trans{F g f:JW->Prop}{H e H2:Hp}(a:aH F g H e)(b:aH g f e H2):aH F f H H2:=
 ⟨a.same.trans b.same,fun x h=>b.up x (a.up x h),fun x h=>by
  rcases b.new x h with d | ⟨d,j⟩
  ·rcases a.new x d with c | ⟨c,i⟩
   ·exact .inl c
   ·refine .inr ⟨c,fun z=>i (b.same.free z)⟩
  ·exact .inr ⟨a.same.free d,j⟩⟩
theorem dA.sqT{K:PySem.W.Frag}{H H':Hp}{a:JW}{xs:List V}(e:dA H H')(h:bQ K H a xs):bQ K H' a xs:=by
 rcases h with(h | ⟨o,h⟩) | h
 ·exact .inl (.inl (e _ _ h))
 ·exact .inl (.inr ⟨o,e _ _ h⟩)
 ·exact .inr h
theorem dA.rd{H H':Hp}{a:JW}{u:HO}(e:dA H H')(h:Rd H a u):Rd H' a u:=by
 rcases h with h | ⟨o,h⟩
 ·exact .inl (e _ _ h)
 ·exact .inr ⟨o,e _ _ h⟩
theorem aH.stay{K:PySem.W.Frag}{F a:JW->Prop}{H H':Hp}(e:aH F a H H'):bU K F a H H':=
 ⟨e.up,fun _ _ h=>dA.sqT e.same h,fun _ _ _ h=>dA.rd e.same h,fun _ _ _ h=>e.same _ _ h⟩
theorem nM{H:Hp}{p:JW}{o:HO}(a:H p=none):dA H (aP H p o):=fun b u e=>by
 rw [aU (eE e a)];exact e
theorem aH.fresh{F:JW->Prop}{H:Hp}{p:JW}{o:HO}(a:H p=none):aH F F H (aP H p o):=⟨nM a,fun _ h=>h,fun _ h=>.inl h⟩
theorem aH.frozen{F:JW->Prop}{H:Hp}{p:JW}{o:HO}(b:H p=none):aH F (fun a=>F a ∨ a=p) H (aP H p o):=
 ⟨nM b,fun _ h=>.inl h,fun a h=>h.elim .inl fun e=>.inr (by subst e;exact⟨b,by rw [cQ];simp⟩)⟩
theorem aR.newTup{K:PySem.W.Frag}{F:JW->Prop}{H:Hp}{p:JW}{vs:List V}{ds:List D}(a:H p=none)(r:Reps K F H ds vs):aR K F (aP H p (.tup vs)) (.tuple ds) (.ref p):=
 .tup (.inl (.inl cQ)) (r.stay (aH.fresh a).stay)
theorem aR.newLst{K:PySem.W.Frag}{F:JW->Prop}{H:Hp}{p:JW}{vs:List V}{ds:List D}(b:H p=none)(r:Reps K F H ds vs):aR K (fun a=>F a ∨ a=p) (aP H p (.lst vs)) (.list ds) (.ref p):=
 .lst (.inl ⟨.inr rfl,.inl cQ⟩) (r.stay (aH.frozen b).stay)
inductive Sl where
 | no
 | dat (d:D)
 | own (ds:List D)
 | ownD (kvs:List (D × D))
 | ownM (kvs:List (List Int × List D))
 | val (R:V->(JW->Prop)->Hp->Prop)
structure Q4 where
 k:List Int
 b:JW
 c:JW
 vs:List V
def Q4.ent(q:Q4):eN × JW × V:=(.inl q.k,q.b,.ref q.c)
structure Il(K:PySem.W.Frag)(F:JW->Prop)(H H₀:Hp)(kv:List Int × List D)(q:Q4):Prop where
 key:kv.1=q.k
 sq:bQ K H q.b (q.k.map V.int)
 hc:H q.c=some (Ik q.c q.vs)
 nf:¬ F q.c
 h0:H₀ q.c=none
 rs:Reps K F H kv.2 q.vs
structure vP(K:PySem.W.Frag)(F:JW->Prop)(H H₀:Hp)(kvs:List (List Int × List D))(a:JW)(qs:List Q4)(ep:Nat):Prop where
 hd:H a=some (cA a (qs.map Q4.ent) ep)
 nf:¬ F a
 h0:H₀ a=none
 nd:(qs.map (·.k)).Nodup
 ln:qs.length<=1000
 nv:(qs.map (·.c)).Nodup
 na:a∉qs.map (·.c)
 ps:Paired (Il K F H H₀) kvs qs
def qF(K:PySem.W.Frag)(F:JW->Prop)(H H₀:Hp):Option V->Sl->Prop
 | _,.no=>True
 | o,.dat d=>∃ v,o=some v/\aR K F H d v
 | o,.own ds=>∃ a vs,o=some (.ref a)/\H a=some (.lst vs)/\¬ F a/\H₀ a=none/\Reps K F H ds vs
 | o,.ownD kvs=>∃ a es ep,o=some (.ref a)/\H a=some (cA a es ep)/\¬ F a/\H₀ a=none/\(es.map (·.1)).Nodup/\es.length<=1000/\DReps K F H kvs es
 | o,.ownM kvs=>∃ a es ep,o=some (.ref a)/\vP K F H H₀ kvs a es ep
 | o,.val R=>∃ v,o=some v/\∀ F' H',bU K F F' H H'->R v F' H'
abbrev jM:=Sum (List D) (List (D × D))
def iJ:jM->Sl
 | .inl b=>.own b
 | .inr a=>.ownD a
structure bE(K:PySem.W.Frag)(F:JW->Prop)(H H₀:Hp)(σ:L2.St)(ρ:List Sl):Prop where
 len:σ.length=ρ.length
 sl:∀(i:Nat) (s:Sl),ρ[i]?=some s->∃ o,σ[i]?=some o/\qF K F H H₀ o s
 sep:∀(i j:Nat) (a:JW) (ds es:jM),i≠j->ρ[i]?=some (iJ ds)->ρ[j]?=some (iJ es)->σ[i]?=some (some (.ref a))->σ[j]?≠some (some (.ref a))
 fz:∀ a,F a->H a≠none
theorem vP.to{K:PySem.W.Frag}{F c:JW->Prop}{H H' H₀:Hp}{kvs:List (List Int × List D)}{a:JW}{es:List Q4}{ep:Nat}(m:vP K F H H₀ kvs a es ep)(T:bU K F c H H')
  (k:∀ b φ,H b=some (.ext φ)->¬ F b->H' b=some (.ext φ)/\¬ c b):vP K c H' H₀ kvs a es ep:=
 ⟨(k _ _ m.hd m.nf).1,(k _ _ m.hd m.nf).2,m.h0,m.nd,m.ln,m.nv,m.na,Paired.mapP m.ps fun _ _ q=>⟨q.key,T.tp _ _ q.sq,(k _ _ q.hc q.nf).1,(k _ _ q.hc q.nf).2,q.h0,q.rs.stay T⟩⟩
theorem qF.ext{K:PySem.W.Frag}{F u:JW->Prop}{H H' H₀:Hp}(e:aH F u H H'){o:Option V}{s:Sl}(h:qF K F H H₀ o s):qF K u H' H₀ o s:=by
 cases s with
 | no=>trivial
 | val R=>obtain⟨v,y,x⟩:=h;exact⟨v,y,fun A z T=>x A z (e.stay.trans T)⟩
 | ownM i=>
  obtain⟨a,k,p,q,m⟩:=h
  refine⟨a,k,p,q,m.to e.stay fun b B t c=>⟨e.same _ _ t,fun f=>?_⟩⟩
  rcases e.new b f with f | ⟨f,_⟩
  ·exact c f
  ·rw [t]at f;cases f
 | ownD i=>
  obtain⟨a,k,p,q,g,c,j,n,l,r⟩:=h
  refine⟨a,k,p,q,e.same _ _ g,fun f=>?_,j,n,l,r.stay e.stay⟩
  rcases e.new a f with f | ⟨f,_⟩
  ·exact c f
  ·rw [g]at f;cases f
 | dat d=>obtain⟨v,q,r⟩:=h;exact⟨v,q,r.stay e.stay⟩
 | own E=>
  obtain⟨a,w,q,g,c,j,r⟩:=h
  refine⟨a,w,q,e.same _ _ g,fun f=>?_,j,r.stay e.stay⟩
  rcases e.new a f with f | ⟨f,_⟩
  ·exact c f
  ·rw [g]at f;cases f
theorem aH.fz{F b:JW->Prop}{H H':Hp}(e:aH F b H H')(z:∀ a,F a->H a≠none):∀ a,b a->H' a≠none:=fun a f q=>by
 rcases e.new a f with f | ⟨_,f⟩
 ·exact z a f (e.same.free q)
 ·exact f q
theorem bE.ext{K:PySem.W.Frag}{F b:JW->Prop}{H H' H₀:Hp}{a:L2.St}{ρ:List Sl}(S:bE K F H H₀ a ρ)(e:aH F b H H'):bE K b H' H₀ a ρ:=
 ⟨S.len,fun i s h=>let⟨o,q,r⟩:=S.sl i s h;⟨o,q,r.ext e⟩,S.sep,e.fz S.fz⟩
theorem bE.dat{K:PySem.W.Frag}{F:JW->Prop}{H H₀:Hp}{a:L2.St}{ρ:List Sl}(S:bE K F H H₀ a ρ){i:Nat}{d:D}(h:ρ[i]?=some (.dat d)):∃ v,a[i]?=some (some v)/\aR K F H d v:=by
 obtain⟨o,q,v,e,r⟩:=S.sl i _ h
 exact⟨v,by rw [q,e],r⟩
theorem bE.ownD{K:PySem.W.Frag}{F:JW->Prop}{H H₀:Hp}{b:L2.St}{ρ:List Sl}(S:bE K F H H₀ b ρ){i:Nat}{kvs:List (D × D)}(h:ρ[i]?=some (.ownD kvs)):
  ∃ a es ep,b[i]?=some (some (.ref a))/\H a=some (cA a es ep)/\¬ F a/\H₀ a=none/\(es.map (·.1)).Nodup/\es.length<=1000/\DReps K F H kvs es:=by
 obtain⟨o,q,a,es,ep,e,r⟩:=S.sl i _ h
 exact⟨a,es,ep,by rw [q,e],r⟩
theorem bE.own{K:PySem.W.Frag}{F:JW->Prop}{H H₀:Hp}{b:L2.St}{ρ:List Sl}(S:bE K F H H₀ b ρ){i:Nat}{ds:List D}(h:ρ[i]?=some (.own ds)):
  ∃ a vs,b[i]?=some (some (.ref a))/\H a=some (.lst vs)/\¬ F a/\H₀ a=none/\Reps K F H ds vs:=by
 obtain⟨o,q,a,vs,e,r⟩:=S.sl i _ h
 exact⟨a,vs,by rw [q,e],r⟩
theorem bE.ow{K:PySem.W.Frag}{F:JW->Prop}{H H₀:Hp}{d:L2.St}{ρ:List Sl}(S:bE K F H H₀ d ρ){i:Nat}{ds:jM}(h:ρ[i]?=some (iJ ds)):∃ a u,d[i]?=some (some (.ref a))/\H a=some u:=by
 cases ds with
 | inl ds=>obtain⟨a,f,c,b,_⟩:=S.own h;exact⟨a,_,c,b⟩
 | inr e=>obtain⟨a,g,j,c,b,_⟩:=S.ownD h;exact⟨a,_,c,b⟩
theorem bE.sepNew{K:PySem.W.Frag}{F:JW->Prop}{H H₀:Hp}{f:L2.St}{ρ:List Sl}(S:bE K F H H₀ f ρ){i:Nat}{s:Sl}{p:JW}(y:H p=none)(j k:Nat)(a:JW)(ds es:jM)(g:j≠k)(r:(ρ.set i s)[j]?=some (iJ ds))(q:(ρ.set i s)[k]?=some (iJ es))(o:(f.set i (some (.ref p)))[j]?=some (some (.ref a))):(f.set i (some (.ref p)))[k]?≠some (some (.ref a)):=fun n=>by
 have old:∀(m:Nat) (es:jM),i≠m->(ρ.set i s)[m]?=some (iJ es)->(f.set i (some (.ref p)))[m]?≠some (some (.ref p)):=fun m es x t d=>by
  rw [Qz x]at t d;obtain⟨b,u,w,v⟩:=S.ow t;rw [w]at d;cases d;rw [y]at v;cases v
 have l:∀(m:Nat) (es:jM),i=m->(ρ.set i s)[m]?=some (iJ es)->(f.set i (some (.ref p)))[m]?=some (some (.ref a))->a=p:=fun m es e t d=>by
  subst e
  have z:i<ρ.length:=by simpa using(Qe.mp t).1
  rw [QC (by rw [S.len];exact z)]at d;cases d;rfl
 by_cases c:i=j
 ·have e:=l j ds c r o;subst e c;exact old k es g q n
 ·by_cases h:i=k
  ·have e:=l k es h q n;subst e;exact old j ds c r o
  ·rw [Qz c]at r o;rw [Qz h]at q n;exact S.sep j k a ds es g r q o n
theorem bE.sepTurn{K:PySem.W.Frag}{F:JW->Prop}{H H₀:Hp}{d:L2.St}{ρ:List Sl}(S:bE K F H H₀ d ρ){i:Nat}{s:Sl}{x:jM}(f:ρ[i]?=some (iJ x))(j k:Nat)(a:JW)(ds es:jM)(e:j≠k)(n:(ρ.set i s)[j]?=some (iJ ds))(l:(ρ.set i s)[k]?=some (iJ es))(h:d[j]?=some (some (.ref a))):d[k]?≠some (some (.ref a)):=by
 have get:∀(m:Nat) (b:jM),(ρ.set i s)[m]?=some (iJ b)->∃ y:jM,ρ[m]?=some (iJ y):=fun m b g=>by
  by_cases c:i=m
  ·subst c;exact⟨x,f⟩
  ·rw [Qz c]at g;exact⟨b,g⟩
 obtain⟨r,p⟩:=get j ds n;obtain⟨q,o⟩:=get k es l;exact S.sep j k a r q e p o h
theorem bE.put{K:PySem.W.Frag}{F:JW->Prop}{H H₀:Hp}{m:L2.St}{ρ:List Sl}(S:bE K F H H₀ m ρ){i:Nat}{d:D}{v:V}(r:aR K F H d v):bE K F H H₀ (m.set i (some v)) (ρ.set i (.dat d)):=by
 refine⟨by simp [S.len],fun j s h=>?_,fun j k a t p l g f n=>?_,S.fz⟩
 ·by_cases b:i=j
  ·subst b
   have c:i<ρ.length:=by
    have:=Qe.mp h
    simpa using this.1
   rw [QC c]at h;cases h
   exact⟨some v,by rw [QC (by rw [S.len];exact c)],v,rfl,r⟩
  ·rw [Qz b]at h;obtain⟨o,q,w⟩:=S.sl j s h
   exact⟨o,by rw [Qz b];exact q,w⟩
 ·have x:i≠j:=by
   intro e;subst e
   have c:i<ρ.length:=by
    have:=Qe.mp g
    simpa using this.1
   rw [QC c]at g;cases t <;> cases g
  have u:i≠k:=by
   intro e;subst e
   have c:i<ρ.length:=by
    have:=Qe.mp f
    simpa using this.1
   rw [QC c]at f;cases p <;> cases f
  rw [Qz x]at g n;rw [Qz u]at f ⊢;exact S.sep j k a t p l g f n
theorem bE.putOwn{K:PySem.W.Frag}{F:JW->Prop}{H H₀:Hp}{c:L2.St}{ρ:List Sl}(S:bE K F H H₀ c ρ){i:Nat}{ds:List D}{vs:List V}{p:JW}(b:H p=none)(k:H₀ p=none)(r:Reps K F H ds vs):
  bE K F (aP H p (.lst vs)) H₀ (c.set i (some (.ref p))) (ρ.set i (.own ds)):=by
 have e:aH F F H (aP H p (.lst vs)):=aH.fresh b;have S':=S.ext e;have g:¬ F p:=fun f=>S.fz p f b
 refine⟨by simp [S.len],fun j s h=>?_,S.sepNew b,S'.fz⟩
 ·by_cases a:i=j
  ·subst a
   have d:i<ρ.length:=by
    have:=Qe.mp h
    simpa using this.1
   rw [QC d]at h;cases h
   exact⟨some (.ref p),by rw [QC (by rw [S.len];exact d)],p,vs,rfl,cQ,g,k,r.stay e.stay⟩
  ·rw [Qz a]at h;obtain⟨o,q,w⟩:=S'.sl j s h
   exact⟨o,by rw [Qz a];exact q,w⟩
theorem bE.turn{K:PySem.W.Frag}{F:JW->Prop}{H H₀:Hp}{I:L2.St}{ρ:List Sl}(S:bE K F H H₀ I ρ){i:Nat}{ds es:List D}{vs us:List V}{p:JW}(E:ρ[i]?=some (.own ds))(hs:I[i]?=some (some (.ref p)))
  (B:H p=some (.lst vs)) (G:¬ F p) (r:Reps K F H es us):bE K F (aP H p (.lst us)) H₀ I (ρ.set i (.own es))/\bU K F F H (aP H p (.lst us)):=by
 have T:bU K F F H (aP H p (.lst us)):=⟨fun _ h=>h,fun a Y h=>by
   rcases h with(h | ⟨o,h⟩) | h
   ·exact .inl (.inl (by rw [aU (by intro z;subst z;rw [B]at h;cases h)];exact h))
   ·exact .inl (.inr ⟨o,by rw [aU (by intro z;subst z;rw [B]at h;cases h)];exact h⟩)
   ·exact .inr h,fun a Y f h=>by
   have k:a≠p:=fun z=>G (z ▸ f);rcases h with h | ⟨o,h⟩
   ·exact .inl (by rw [aU k];exact h)
   ·exact .inr ⟨o,by rw [aU k];exact h⟩,fun a X f h=>by rw [aU (fun z=>G (by rw [<- z];exact f))];exact h⟩
 refine⟨⟨by simp [S.len],fun j s h=>?_,S.sepTurn (x:=.inl ds) E,fun a f z=>S.fz a f (by
  have k:a≠p:=fun y=>G (by rw [<- y];exact f)
  rwa [aU k]at z)⟩,T⟩
 ·by_cases e:i=j
  ·subst e;have hl:i<ρ.length:=(Qe.mp E).1;rw [QC hl]at h;cases h;obtain⟨a,ws,U,_,_,Z,_⟩:=S.own E;rw [hs]at U;cases U
   exact⟨_,hs,p,us,rfl,cQ,G,Z,r.stay T⟩
  ·rw [Qz e]at h;obtain⟨o,q,w⟩:=S.sl j s h
   refine⟨o,q,?_⟩
   cases s with
   | no=>trivial
   | val R=>obtain⟨v,h1,h2⟩:=w;exact⟨v,h1,fun F2 H2 T2=>h2 F2 H2 (T.trans T2)⟩
   | ownM J=>
    obtain⟨a,g,O,c,m⟩:=w
    exact⟨a,g,O,c,m.to T fun b X M u=>⟨by rw [aU (by intro z;subst z;rw [B]at M;cases M)];exact M,u⟩⟩
   | ownD J=>
    obtain⟨a,g,O,c,A,u,N,n,l,t⟩:=w
    exact⟨a,g,O,c,by rw [aU (by intro z;subst z;rw [B]at A;cases A)];exact A,u,N,n,l,t.stay T⟩
   | dat d=>obtain⟨v,c,t⟩:=w;exact⟨v,c,t.stay T⟩
   | own Q=>
    obtain⟨a,ws,c,A,u,N,t⟩:=w
    have k:a≠p:=by
     intro z;subst z;exact S.sep i j a (.inl ds) (.inl Q) e E h hs (by rw [q,c])
    exact⟨a,ws,c,by rw [aU k];exact A,u,N,t.stay T⟩
def frz:Sl->Sl
 | .own b=>.dat (.list b)
 | .ownD a=>.dat (.dict a)
 | .ownM _=>.no
 | s=>s
def gK(b:L2.St)(ρ:List Sl)(a:JW):Prop:=(∃(i:Nat) (ds:List D),ρ[i]?=some (.own ds)/\b[i]?=some (some (.ref a))) ∨ ∃(i:Nat) (kvs:List (D × D)),ρ[i]?=some (.ownD kvs)/\b[i]?=some (some (.ref a))
theorem bE.frz{K:PySem.W.Frag}{F:JW->Prop}{H H₀:Hp}{t:L2.St}{ρ:List Sl}(S:bE K F H H₀ t ρ):bE K (fun a=>F a ∨ gK t ρ a) H H₀ t (ρ.map frz):=by
 have T:bU K F (fun a=>F a ∨ gK t ρ a) H H:=⟨fun _ h=>.inl h,fun _ _ h=>h,fun _ _ _ h=>h,fun _ _ _ h=>h⟩
 refine⟨by simp [S.len],fun j s h=>?_,fun j k a x M _ m=>?_,fun a f=>?_⟩
 ·rw [QS]at h
  cases e:ρ[j]? with
  | none=>rw [e]at h;cases h
  | some u=>
   rw [e]at h;obtain⟨o,q,w⟩:=S.sl j u e
   refine⟨o,q,?_⟩
   cases u with
   | no=>cases h;trivial
   | ownM g=>cases h;trivial
   | val R=>cases h;obtain⟨v,m,I⟩:=w;exact⟨v,m,fun U Q O=>I U Q (T.trans O)⟩
   | ownD g=>
    cases h;obtain⟨a,M,N,c,z,G,J,n,l,r⟩:=w
    exact⟨.ref a,c,.dct (.inr (.inr ⟨j,g,e,by rw [q,c]⟩)) z n l (r.stay T)⟩
   | dat d=>cases h;obtain⟨v,c,r⟩:=w;exact⟨v,c,r.stay T⟩
   | own x=>
    cases h;obtain⟨a,E,c,z,G,J,r⟩:=w
    exact⟨.ref a,c,.lst (.inl ⟨.inr (.inl ⟨j,x,e,by rw [q,c]⟩),.inl z⟩) (r.stay T)⟩
 ·rw [QS]at m
  cases e:ρ[j]? with
  | none=>rw [e]at m;cases m
  | some u=>rw [e]at m;cases x <;> cases u <;> cases m
 ·rcases f with f | ⟨i,x,y,p⟩ | ⟨i,g,y,p⟩
  ·exact S.fz a f
  ·obtain⟨b,E,B,A,_⟩:=S.own y;rw [B]at p;cases p;rw [A];simp
  ·obtain⟨b,E,N,B,A,_⟩:=S.ownD y;rw [B]at p;cases p;rw [A];simp
theorem bE.frz1{K:PySem.W.Frag}{F:JW->Prop}{H H₀:Hp}{U:L2.St}{ρ:List Sl}(S:bE K F H H₀ U ρ){i:Nat}{ds:List D}(O:ρ[i]?=some (.own ds)):
  ∃ a,H₀ a=none/\bE K (fun b=>F b ∨ b=a) H H₀ U (ρ.set i (.dat (.list ds))):=by
 obtain⟨a,vs,X,A,nf,h0,r⟩:=S.own O;have T:bU K F (fun b=>F b ∨ b=a) H H:=⟨fun _ h=>.inl h,fun _ _ h=>h,fun _ _ _ h=>h,fun _ _ _ h=>h⟩;have M:i<ρ.length:=(Qe.mp O).1
 refine⟨a,h0,by simp [S.len],fun j s h=>?_,fun j k b p Z N E B h3=>?_,fun b f=>f.elim (S.fz b) fun z=>by subst z;rw [A];simp⟩
 ·by_cases u:i=j
  ·subst u;rw [QC M]at h;cases h
   exact⟨_,X,.ref a,rfl,.lst (.inl ⟨.inr rfl,.inl A⟩) (r.stay T)⟩
  ·rw [Qz u]at h;obtain⟨o,q,w⟩:=S.sl j s h
   refine⟨o,q,?_⟩
   cases s with
   | no=>trivial
   | val R=>obtain⟨v,E,B⟩:=w;exact⟨v,E,fun F2 H2 T2=>B F2 H2 (T.trans T2)⟩
   | ownM J=>
    obtain⟨b,y,Q,t,m⟩:=w
    refine⟨b,y,Q,t,m.to T fun c φ Y g=>⟨Y,fun f=>?_⟩⟩
    rcases f with f | f
    ·exact g f
    ·subst f;rw [Y]at A;cases A
   | ownD J=>
    obtain⟨b,y,Q,t,I,g,x,n,l,G⟩:=w
    refine⟨b,y,Q,t,I,fun f=>?_,x,n,l,G.stay T⟩
    rcases f with f | f
    ·exact g f
    ·subst f;rw [I]at A;cases A
   | dat d=>obtain⟨v,t,G⟩:=w;exact⟨v,t,G.stay T⟩
   | own p=>
    obtain⟨b,ws,t,I,g,x,G⟩:=w
    refine⟨b,ws,t,I,fun f=>?_,x,G.stay T⟩
    rcases f with f | f
    ·exact g f
    ·subst f;exact S.sep i j b (.inl ds) (.inl p) u O h X (by rw [q,t])
 ·have nj:i≠j:=by intro e;subst e;rw [QC M]at E;cases p <;> cases E
  have nk:i≠k:=by intro e;subst e;rw [QC M]at B;cases Z <;> cases B
  rw [Qz nj]at E;rw [Qz nk]at B;exact S.sep j k b p Z N E B h3
end DL
namespace DL
open PySem.Spec L2
abbrev aA:=List Sl
section
variable {X:Cx}
theorem eM{e:Expr}{t t':TE}(h:PE X e t)(m:∀ σ H Q,t' σ H Q->t σ H Q):PE X e t':=fun a s σ H Q I q=>h a s σ H Q I (m σ H Q q)
theorem Al{e:Expr}{t t':TT}(h:PT X e t)(m:∀ σ H Q,t' σ H Q->t σ H Q):PT X e t':=fun a s σ H Q I q=>h a s σ H Q I (m σ H Q q)
theorem GJ{e:Expr}{t t':TT}(h:PW X e t)(m:∀ σ H Q,t' σ H Q->t σ H Q):PW X e t':=fun b a s σ H Q I q=>h b a s σ H Q I (m σ H Q q)
theorem Hg{es:List Expr}{t t':TA}(h:PA X es t)(m:∀ σ H Q,t' σ H Q->t σ H Q):PA X es t':=fun pos a s σ H Q I q=>h pos a s σ H Q I (m σ H Q q)
theorem ps_mono{e:Zj}{t t':TS}(h:PS X e t)(m:∀ W σ H,t' W σ H->t W σ H):PS X e t':=fun a s σ H W I q=>h a s σ H W I (m W σ H q)
theorem Ak{e:List Zj}{t t':TS}(h:fU X e t)(m:∀ W σ H,t' W σ H->t W σ H):fU X e t':=fun a s σ H W I q=>h a s σ H W I (m W σ H q)
theorem pU{f:YP->YP->Sem YP}{r r':R2}(h:bN X f r)(m:∀ x y H Q,r' x y H Q->r x y H Q):bN X f r':=fun a s b H x y v u Q I d c q=>h a s b H x y v u Q I d c (m x y H Q q)
theorem U7{f:YP->Sem YP}{r r':V->Hp->VK->Prop}(h:mR X f r)(m:∀ x H Q,r' x H Q->r x H Q):mR X f r':=fun a s b H x v Q I c q=>h a s b H x v Q I c (m x H Q q)
theorem rM{f:YP}{r r':List V->Hp->VK->Prop}(h:fJ X f r)(m:∀ x H Q,r' x H Q->r x H Q):fJ X f r':=fun a s b H x v Q I c q=>h a s b H x v Q I c (m x H Q q)
theorem Oc{r r':R2}(h:hE X r)(m:∀ x y H Q,r' x y H Q->r x y H Q):hE X r':=fun a b c s d H x y v u Q I f e q g=>h a b c s d H x y v u Q I f e (m x y H Q q) g
end
inductive mQ(K:PySem.W.Frag)(σ:L2.St)(H:Hp){α:Type}(g:aA->Option α)(h:(JW->Prop)->α->Prop):Prop
 | mk (F:JW->Prop) (H₀:Hp) (ρ:aA) (x:α) (S:bE K F H H₀ σ ρ) (q:g ρ=some x) (k:h F x):mQ K σ H g h
def tD(K:PySem.W.Frag)(g:aA->Option D):TE:=fun a H Q=>mQ K a H g fun F d=>∀ F' H' v,aH F F' H H'->aR K F' H' d v->Q v H'
def lX(K:PySem.W.Frag)(g:aA->Option Bool):TT:=fun a H Q=>mQ K a H g fun F b=>∀ F' H',aH F F' H H'->Q b H'
def CQ(K:PySem.W.Frag)(g:aA->Option (List D)):TA:=fun a H Q=>mQ K a H g fun F b=>∀ F' H' vs,aH F F' H H'->Reps K F' H' b vs->Q vs H'
def DE(X:Cx)(e:Expr)(g:aA->Option D):Prop:=PE X e (tD X.K g)
def DT(X:Cx)(e:Expr)(g:aA->Option Bool):Prop:=PT X e (lX X.K g)
def DW(X:Cx)(e:Expr)(g:aA->Option Bool):Prop:=PW X e (lX X.K g)
def DA(X:Cx)(es:List Expr)(g:aA->Option (List D)):Prop:=PA X es (CQ X.K g)
def eC(d:D):aA->Option D:=fun _=>some d
def eV(i:Nat):aA->Option D:=fun a=>match a[i]? with
 | some (.dat d)=>some d
 | _=>none
def aE(f:D->D->Option D)(b gb:aA->Option D):aA->Option D:=fun a=>(b a).bind fun x=>(gb a).bind fun y=>f x y
def mU(f:D->Option D)(b:aA->Option D):aA->Option D:=fun a=>(b a).bind f
def aG:aA->Option (List D):=fun _=>some []
def aD(d:aA->Option D)(c:aA->Option (List D)):aA->Option (List D):=fun a=>(d a).bind fun x=>(c a).bind fun b=>some (x::b)
def dS(c:aA->Option (List D)):aA->Option D:=fun b=>(c b).bind fun a=>if a.length<=1000 then some (.tuple a)else none
def dM(c:aA->Option (List D)):aA->Option D:=fun b=>(c b).bind fun a=>if a.length<=1000 then some (.list a)else none
def aO(G:List D->Option D)(b:aA->Option (List D)):aA->Option D:=fun a=>(b a).bind G
def lG:D->Option Bool
 | .bool b=>some b
 | _=>none
def Cr:D->Option Int
 | .int i=>some i
 | _=>none
def eB(b:aA->Option D):aA->Option Bool:=fun a=>(b a).bind lG
def gS(t u:aA->Option Bool):aA->Option Bool:=fun a=>(t a).bind fun b=>if b=true then u a else some false
def fX(t u:aA->Option Bool):aA->Option Bool:=fun a=>(t a).bind fun b=>if b=true then some true else u a
def lJ(t:aA->Option Bool):aA->Option Bool:=fun a=>(t a).bind fun b=>some (!b)
def xV(t:aA->Option Bool)(c gb:aA->Option D):aA->Option D:=fun a=>(t a).bind fun b=>if b=true then c a else gb a
def kN(b gb:aA->Option D):aA->Option D:=fun a=>(b a).bind fun x=>(lG x).bind fun c=>if c=true then gb a else some (.bool false)
def Ea(b:aA->Option D):aA->Option D:=fun a=>(b a).bind fun x=>(lG x).bind fun c=>some (.bool (!c))
def uU(h h':D->D->Option D)(c gb b:aA->Option D):aA->Option D:=fun a=>(c a).bind fun x=>(gb a).bind fun y=>(h x y).bind fun z=>(lG z).bind fun k=>if k=true then(b a).bind fun w=>h' y w else some (.bool false)
inductive Ci(K:PySem.W.Frag)(h:D->D->Option D)(x y:V)(H:Hp)(Q:VK):Prop
 | mk (F:JW->Prop) (d e r:D) (z:∀ a,F a->H a≠none) (R1:aR K F H d x) (R2:aR K F H e y) (q:h d e=some r) (k:∀ F' H' v,aH F F' H H'->aR K F' H' r v->Q v H'):Ci K h x y H Q
def dB(K:PySem.W.Frag)(h:D->D->Option D):R2:=fun x y H Q=>Ci K h x y H Q
inductive Cg(K:PySem.W.Frag)(h:D->Option D)(x:V)(H:Hp)(Q:VK):Prop
 | mk (F:JW->Prop) (d r:D) (z:∀ a,F a->H a≠none) (R1:aR K F H d x) (q:h d=some r) (k:∀ F' H' v,aH F F' H H'->aR K F' H' r v->Q v H'):Cg K h x H Q
def CM(K:PySem.W.Frag)(h:D->Option D):V->Hp->VK->Prop:=fun x H Q=>Cg K h x H Q
inductive Cj(K:PySem.W.Frag)(h:List D->Option D)(xs:List V)(H:Hp)(Q:VK):Prop
 | mk (F:JW->Prop) (ds:List D) (r:D) (z:∀ a,F a->H a≠none) (R1:Reps K F H ds xs) (q:h ds=some r) (k:∀ F' H' v,aH F F' H H'->aR K F' H' r v->Q v H'):Cj K h xs H Q
def jA(K:PySem.W.Frag)(h:List D->Option D):List V->Hp->VK->Prop:=fun a H Q=>Cj K h a H Q
section
variable {X:Cx}{a b c e:Expr}{es:List Expr}{ga gb gc:aA->Option D}{pos p:Pos}
theorem aJ{d c:Type}{o:Option d}{f:d->Option c}{b:c}(h:o.bind f=some b):∃ a,o=some a/\f a=some b:=by
 cases o with
 | none=>cases h
 | some a=>exact⟨a,rfl,h⟩
theorem vX{v:V}{d:D}(h:PE X e (tC v))(r:∀ K F H,aR K F H d v):DE X e (eC d):=
 eM h fun c H Q b=>by
  obtain⟨F,a,f,g,S,q,k⟩:=b;cases q;exact k F H v (aH.refl F H) (r _ _ _)
theorem aS{i:Int}{j:Nat}:DE X (.Constant (.int i) j pos) (eC (.int i)):=vX Sc fun _ _ _=>.int i
theorem hZ{i:Bool}{j:Nat}:DE X (.Constant (.bool i) j pos) (eC (.bool i)):=vX K6 fun _ _ _=>.bl i
theorem m9{j:Nat}:DE X (.Constant .none j pos) (eC .none):=vX Sf fun _ _ _=>.non
theorem NU{x:Str}{j:Nat}:DE X (.Constant (.str x) j pos) (eC (.str x)):=vX Hr fun _ _ _=>.str x
theorem aC(i:Nat){x:Str}(h:X.N[i]?=some x:=by rfl)(f:jQ X.env.scope x:=by first | exact ZG rfl | exact Zr (ZG rfl) | exact Zr (Zr rfl))(hd:(x == ("__debug__":Str))=false:=by decide)
  (a:(x == ("__classdict__":Str))=false:=by decide):DE X (.Name x pos) (eV i):=
 eM (nJ h f hd a) fun j H Q c=>by
  obtain⟨F,b,l,d,S,q,k⟩:=c;unfold eV at q
  split at q
  ·rename_i m e;cases q;obtain⟨v,g,r⟩:=S.dat e
   exact⟨v,g,k F H v (aH.refl F H) r⟩
  ·cases q
theorem vN{h:D->D->Option D}{b:L2.St}{H:Hp}{Q:VK}(q:tD X.K (aE h ga gb) b H Q):qU (dB X.K h) (tD X.K ga) (tD X.K gb) b H Q:=by
 obtain⟨F,a,c,d,S,q,k⟩:=q;obtain⟨x,f,q⟩:=aJ q;obtain⟨y,e,q⟩:=aJ q
 exact⟨F,a,c,x,S,f,fun m p v E1 R1=>⟨m,a,c,y,S.ext E1,e,fun l o u E2 R2=>⟨l,x,y,d,((S.ext E1).ext E2).fz,R1.stay E2.stay,R2,q,fun j i w n g=>k j i w (E1.trans (E2.trans n)) g⟩⟩⟩
theorem bM{op:Operator}{h:D->D->Option D}(c:bN X (Zs op) (dB X.K h))(e:DE X a ga)(d:DE X b gb):DE X (.BinOp a op b pos) (aE h ga gb):=
 eM (K7 c e d) fun _ _ _ q=>vN q
theorem nZ{op:CmpOp}{h:D->D->Option D}(c:bN X (Zc op) (dB X.K h))(f:DE X a ga)(e:DE X b gb)(d:Z2 op b=false):DE X (.Compare a [op] [b] pos) (aE h ga gb):=
 eM (RZ c f e d) fun _ _ _ q=>vN q
theorem bP{h:D->D->Option D}(c:hE X (dB X.K h))(e:DE X a ga)(d:DE X b gb)(hs:vQ b:=by exact fun _ _=>rfl):DE X (.Subscript a b pos) (aE h ga gb):=
 eM (AQ c e d hs) fun _ _ _ q=>vN q
theorem vZ{op:UnaryOp}{h:D->Option D}(f:mR X (unaryOp op) (CM X.K h))(g:DE X a ga):DE X (.UnaryOp op a pos) (mU h ga):=
 eM (K8 f g) fun r H Q e=>by
  obtain⟨F,b,c,d,S,q,k⟩:=e;obtain⟨x,i,q⟩:=aJ q
  exact⟨F,b,c,x,S,i,fun o s v E1 l=>⟨o,x,d,(S.ext E1).fz,l,q,fun n m w p j=>k n m w (E1.trans p) j⟩⟩
theorem rB{K:PySem.W.Frag}{F:JW->Prop}{H:Hp}{d:D}{v:V}{b:Bool}(r:aR K F H d v)(h:lG d=some b):v=.bl b:=by
 cases r with
 | bl c=>cases h;rfl
 | _=>cases h
theorem Tn{K:PySem.W.Frag}{F:JW->Prop}{H:Hp}{d:D}{v:V}{i:Int}(r:aR K F H d v)(h:Cr d=some i):v=.int i:=by
 cases r with
 | int c=>cases h;rfl
 | _=>cases h
theorem Kh{t:TE}{g:aA->Option D}(m:∀ a H Q,tD X.K g a H Q->t a H Q){a:L2.St}{H:Hp}{Q:Bool->Hp->Prop}(q:lX X.K (eB g) a H Q):HF t a H Q:=by
 obtain⟨F,c,e,b,S,q,k⟩:=q;obtain⟨d,f,q⟩:=aJ q;exact m a H _ ⟨F,c,e,d,S,f,fun j i v l h=>⟨b,rB h q,k j i l⟩⟩
theorem bZ{op:CmpOp}{h:D->D->Option D}(c:bN X (Zc op) (dB X.K h))(f:DE X a ga)(e:DE X b gb)(d:Z2 op b=false):DT X (.Compare a [op] [b] pos) (eB (aE h ga gb)):=
 Al (RD c f e d) fun _ _ _ q=>Kh (fun _ _ _=>vN) q
theorem Kg{h h':D->D->Option D}{c:L2.St}{H:Hp}{Q:VK}(q:tD X.K (uU h h' ga gb gc) c H Q):HE (dB X.K h) (dB X.K h') (tD X.K ga) (tD X.K gb) (tD X.K gc) c H Q:=by
 obtain⟨F,a,b,d,S,q,k⟩:=q;obtain⟨x,o,q⟩:=aJ q;obtain⟨y,n,q⟩:=aJ q;obtain⟨z,m,q⟩:=aJ q;obtain⟨f,l,q⟩:=aJ q
 refine⟨F,a,b,x,S,o,fun I T v E1 R1=>⟨I,a,b,y,S.ext E1,n,fun G O u E2 R2=>⟨G,x,y,z,((S.ext E1).ext E2).fz,R1.stay E2.stay,R2,m,fun g A w E3 s=>⟨f,rB s l,?_⟩⟩⟩⟩
 cases f with
 | false=>
  simp only [Qq,if_false]at q ⊢;cases q;exact k g A _ (E1.trans (E2.trans E3)) (.bl false)
 | true=>
  simp only [if_true]at q ⊢;obtain⟨e,j,q⟩:=aJ q;have S3:=((S.ext E1).ext E2).ext E3
  exact⟨g,a,b,e,S3,j,fun E N M E4 r=>⟨E,y,e,d,(S3.ext E4).fz,(R2.stay E3.stay).stay E4.stay,r,q,fun B t i J p=>k B t i (E1.trans (E2.trans (E3.trans (E4.trans J)))) p⟩⟩
theorem EJ{op d:CmpOp}{h h':D->D->Option D}(f:bN X (Zc op) (dB X.K h))(e:bN X (Zc d) (dB X.K h'))(k:DE X a ga)(j:DE X b gb)(i:DE X c gc)
  (g:lastMarks [op,d] [b,c]=false:=by with_unfolding_all rfl):DE X (.Compare a [op,d] [b,c] pos) (uU h h' ga gb gc):=
 eM (RY f e k j i g) fun _ _ _ q=>Kg q
theorem nC(g:DE X a ga)(he:∀ whole,isTrue a X.env whole=(do let v <- whole;standAt a.pos;holding [v] (truthy v)):=by intro _;rfl):DT X a (eB ga):=
 Al (RF g he) fun n H Q f=>by
  obtain⟨F,c,e,b,S,q,k⟩:=f;obtain⟨d,h,q⟩:=aJ q
  exact⟨F,c,e,d,S,h,fun l j v m i=>⟨b,rB i q,k l j m⟩⟩
variable {t u:aA->Option Bool}{rest:List Expr}
theorem v6(b:DT X a t):DW X (.BoolOp .And [a] pos) t:=Rb b
theorem o7(b:DT X a t):DW X (.BoolOp .Or [a] pos) t:=Re b
theorem v5(i:DT X a t)(h:DW X (.BoolOp .And (b::rest) pos) u):DW X (.BoolOp .And (a::b::rest) pos) (gS t u):=
 GJ (Ra i h) fun p H Q g=>by
  obtain⟨F,c,e,r,S,q,k⟩:=g;obtain⟨d,j,q⟩:=aJ q
  refine⟨F,c,e,d,S,j,fun f m E1=>?_⟩
  cases d with
  | true=>simp only [if_true]at q ⊢;exact⟨f,c,e,r,S.ext E1,q,fun n l o=>k n l (E1.trans o)⟩
  | false=>simp only [Qq,if_false]at q ⊢;cases q;exact k f m E1
theorem l8(i:DT X a t)(h:DW X (.BoolOp .Or (b::rest) pos) u):DW X (.BoolOp .Or (a::b::rest) pos) (fX t u):=
 GJ (Lc i h) fun p H Q g=>by
  obtain⟨F,c,e,r,S,q,k⟩:=g;obtain⟨d,j,q⟩:=aJ q
  refine⟨F,c,e,d,S,j,fun f m E1=>?_⟩
  cases d with
  | false=>simp only [Qq,if_false]at q ⊢;exact⟨f,c,e,r,S.ext E1,q,fun n l o=>k n l (E1.trans o)⟩
  | true=>simp only [if_true]at q ⊢;cases q;exact k f m E1
theorem jR(h:DW X a t):DT X a t:=PW.pt h
theorem v4(f:DT X a t):DT X (.UnaryOp .Not a pos) (lJ t):=
 Al (RE f) fun l H Q e=>by
  obtain⟨F,b,c,r,S,q,k⟩:=e;obtain⟨d,g,q⟩:=aJ q;cases q
  exact⟨F,b,c,d,S,g,fun i h j=>k i h j⟩
theorem vY{op:BoolOp}(b:DE X a ga):DE X (.BoolOp op [a] pos) ga:=Si b
theorem vW(j:DE X a ga)(i:DE X (.BoolOp .And (b::rest) pos) gb):DE X (.BoolOp .And (a::b::rest) pos) (kN ga gb):=
 eM (RU j i) fun u H Q h=>by
  obtain⟨F,e,f,r,S,q,k⟩:=h;obtain⟨d,m,q⟩:=aJ q;obtain⟨c,l,q⟩:=aJ q
  refine⟨F,e,f,d,S,m,fun g p v E1 n=>⟨c,rB n l,?_⟩⟩
  cases c with
  | true=>simp only [if_true]at q ⊢;exact⟨g,e,f,r,S.ext E1,q,fun s o w t R2=>k s o w (E1.trans t) R2⟩
  | false=>simp only [Qq,if_false]at q ⊢;cases q;exact k g p _ E1 (.bl false)
theorem NS(g:DE X a ga):DE X (.UnaryOp .Not a pos) (Ea ga):=
 eM (Sg g) fun o H Q f=>by
  obtain⟨F,b,e,r,S,q,k⟩:=f;obtain⟨d,i,q⟩:=aJ q;obtain⟨c,h,q⟩:=aJ q;cases q
  exact⟨F,b,e,d,S,i,fun m l v n j=>⟨c,rB j h,k m l _ n (.bl _)⟩⟩
theorem EK(m:DT X c t)(o:DE X a ga)(n:DE X b gb):DE X (.IfExp c a b pos) (xV t ga gb):=
 eM (R8 m o n) fun s H Q l=>by
  obtain⟨F,e,f,r,S,q,k⟩:=l;obtain⟨d,p,q⟩:=aJ q
  refine⟨F,e,f,d,S,p,fun j u E1=>?_⟩
  cases d with
  | true=>simp only [if_true]at q ⊢;exact⟨j,e,f,r,S.ext E1,q,fun h g w i R2=>k h g w (E1.trans i) R2⟩
  | false=>simp only [Qq,if_false]at q ⊢;exact⟨j,e,f,r,S.ext E1,q,fun h g w i R2=>k h g w (E1.trans i) R2⟩
variable {gr:aA->Option (List D)}
theorem aL:DA X [] aG:=Hg mG fun c H Q b=>by
 obtain⟨F,a,e,d,S,q,k⟩:=b;cases q;exact k F H [] (aH.refl F H) .nil
theorem ED(h:DE X e ga)(g:DA X es gr)(hs:JX (e::es) X.env=(false,Zk e X.env)::JX es X.env:=by rfl):DA X (e::es) (aD ga gr):=
 Hg (j9 h g hs) fun o H Q c=>by
  obtain⟨F,a,b,d,S,q,k⟩:=c;obtain⟨x,j,q⟩:=aJ q;obtain⟨f,i,q⟩:=aJ q;cases q
  exact⟨F,a,b,x,S,j,fun n r v E1 R1=>⟨n,a,b,f,S.ext E1,i,fun m l p E2 R2=>k m l _ (E1.trans E2) (.cons (R1.stay E2.stay) R2)⟩⟩
theorem gG{n:Nat}(h:n<=1000):n<=sizeLine:=YE (Bs h)
theorem NV{x1}(h:DA X es gr):DE X (.Tuple es x1 pos) (dS gr):=
 eM (Sk h) fun l H Q g=>by
  obtain⟨F,a,f,d,S,q,k⟩:=g;obtain⟨c,i,q⟩:=aJ q
  refine⟨F,a,f,c,S,i,fun j n m E1 R1=>?_⟩
  by_cases b:c.length<=1000
  ·rw [if_pos b]at q;cases q
   refine⟨gG (by rw [<- R1.length];exact b),fun p e=>k j _ _ (E1.trans (aH.fresh e)) (aR.newTup e R1)⟩
  ·rw [if_neg b]at q;cases q
theorem iA(h:DA X es gr):DE X (.List es pos) (dM gr):=
 eM (Hq h) fun j H Q g=>by
  obtain⟨F,a,f,d,S,q,k⟩:=g;obtain⟨c,i,q⟩:=aJ q
  refine⟨F,a,f,c,S,i,fun n m l E1 R1=>?_⟩
  by_cases b:c.length<=1000
  ·rw [if_pos b]at q;cases q
   refine⟨gG (by rw [<- R1.length];exact b),fun p e=>k _ _ _ (E1.trans (aH.frozen e)) (aR.newLst e R1)⟩
  ·rw [if_neg b]at q;cases q
theorem FJ{h:List D->Option D}{b:L2.St}{H:Hp}{Q:VK}(q:tD X.K (aO h gr) b H Q):zA (jA X.K h) (CQ X.K gr) b H Q:=by
 obtain⟨F,a,e,d,S,q,k⟩:=q;obtain⟨c,f,q⟩:=aJ q
 exact⟨F,a,e,c,S,f,fun l o n E1 g=>⟨l,c,d,(S.ext E1).fz,g,q,fun j i w m R2=>k j i w (E1.trans m) R2⟩⟩
theorem gN{id:String}{x:Str}{h:List D->Option D}(g:fJ X (.builtin id) (jA X.K h))(f:Gl X x)(d:X.mg x=none)(b:Zb x=some (.builtin id))(i:DA X (e::es) gr)(c:x≠"__name__":=by decide)(a:(x == ("__debug__":Str))=false:=by decide)
  (he:JX (e::es) X.env=(false,Zk e X.env)::JX es X.env:=by rfl) (hpl:(Zi pos (JX es X.env)).any (·.1)=false:=by rfl):DE X (.Call (.Name x p) (e::es) [] pos) (aO h gr):=
 eM (AN g f d b i c a he hpl) fun _ _ _ q=>FJ q
theorem zZ{T:String}{x:Str}{h:List D->Option D}(g:fJ X (.type T) (jA X.K h))(f:Gl X x)(d:X.mg x=none)(b:Zb x=some (.type T))(i:DA X (e::es) gr)(c:x≠"__name__":=by decide)(a:(x == ("__debug__":Str))=false:=by decide)
  (he:JX (e::es) X.env=(false,Zk e X.env)::JX es X.env:=by rfl) (hpl:(Zi pos (JX es X.env)).any (·.1)=false:=by rfl):DE X (.Call (.Name x p) (e::es) [] pos) (aO h gr):=
 eM (AO g f d b i c a he hpl) fun _ _ _ q=>FJ q
def aY(K:PySem.W.Frag)(n:Nat)(G:List D->Option D):Sp:=fun b H Q _=>∃(F:JW->Prop) (ds:List D) (d:D),ds.length=n/\(∀ a,F a->H a≠none)/\Reps K F H ds b/\G ds=some d/\∀ F' H' v,aH F F' H H'->aR K F' H' d v->Q v H'
theorem NP{k n:Nat}{f:JW}{i:Zg}{h:List Str}{x:Str}{G:List D->Option D}(F:aN X.prog X.w X.K X.mg X.base aQ k f i h (aY X.K n G))(o:cT k X.A)(t:Gl X x)(r:X.mg x=some (.ref f))(s:PySem.W.keepIn X.K (.ref f)=true)(u:Binds X.K i h [])
  (v:DA X (e::es) gr) (c:∀ ρ ds,gr ρ=some ds->ds.length=n) (g:(x == ("__debug__":Str))=false:=by decide) (he:JX (e::es) X.env=(false,Zk e X.env)::JX es X.env:=by rfl) (hpl:(Zi pos (JX es X.env)).any (·.1)=false:=by rfl):
  DE X (.Call (.Name x p) (e::es) [] pos) (aO G gr):=
 eM (Hn (E:=E0) F o t r s u .nil Hl v g he hpl) fun N H Q l=>by
  obtain⟨F,a,ρ,d,S,q,k⟩:=l;obtain⟨b,j,q⟩:=aJ q
  exact⟨F,a,ρ,b,S,j,fun J B m E1 y=>by
   show aY X.K n G (m++[]) B Q E0
   rw [QO]
   exact⟨J,b,d,c ρ b j,(S.ext E1).fz,y,q,fun I z w M R2=>k I z w (E1.trans M) R2⟩⟩
theorem Aj{ρ:aA}{ds:List D}(h:aG ρ=some ds):ds.length=0:=by cases h;rfl
theorem jE{n:Nat}(h':∀ ρ ds,gr ρ=some ds->ds.length=n)(ρ:aA)(ds:List D)(h:aD ga gr ρ=some ds):ds.length=n+1:=by
 obtain⟨x,c,q⟩:=aJ h;obtain⟨a,b,q⟩:=aJ q;cases q
 simp [h' ρ a b]
end
end DL
namespace EX
open PySem.Spec L2
def mJ(h:Heap)(e:JW)(cls:YP)(a:Option JW):Prop:=
 ∃ oe vs,h.get? e=some oe/\oe.cls=cls/\oe.data=.fields vs/\match a with
  | none=>vs[1]?=some .none
  | some T=>vs[1]?=some (.ref T)/\T≠e/\∃ oT ts,h.get? T=some oT/\oT.data=.fields ts/\ts[3]?=some .none
structure ThrownC(X:Cx)(pins:List (JW × Obj))(H:Hp)(s:JV)(a:JW)(cls:YP)(tr:Option JW):Prop where
 fly:mJ s.heap a cls tr
 new:∀ b,(b=a ∨ some b=tr)->X.s₀.heap.get? b=none/\H b=none/\b≠X.env.locals/\(∀ x c,X.env.cells.lookup x=some c->c≠b)/\∀ p∈X.pn++pins,p.1≠b
section
variable {M:Model}{A:Around}{E:YP->JV->Prop}{s:JV}
structure p9(fs:List JW)(no:JW->Prop)(h h':Heap):Prop where
 keep:∀ b o,¬ no b->b∉fs->h.get? b=some o->h'.get? b=some o
 slot:∀ b o,¬ no b->h.get? b=some o->∃ sl,h'.get? b=some { o with slots:=sl }
theorem uV{base:Heap}{env:Env}{outer:List Env}{L e:JW}{oe:Obj}{vs:Array YP}{i:YP}{n:Bool}{Q:Unit->JV->Prop}
  (y:A.frames=some (env::outer)) (G:s.heap.FunFrames base (env::outer)) (K:env.frame=some L)
  (he:s.heap.get? e=some oe) (hd:oe.data=.fields vs) (hsz:1<vs.size)
  (h:∀ h' T,s.heap.objs.size<=T->mJ h' e oe.cls (some T)->p9 (dN (env::outer)) (·=e) s.heap h'->Q () { s with heap:=h' }):
  JY M A (do let a <- frameOf env;let pl <- entryPlaceOf L n;let b <- EntryCells.newEntry i a .none (Zy L) .none pl;setField (.ref e) 1 b) (fun _ s'=>JY M A (setFlight (.ref e) none) Q E s') E s:=by
 have t:e∉(env::outer).filterMap (·.frame):=fun J=>by
  obtain⟨_,o,v,w⟩:=G.mem J
  rw [he]at v;injection v with v;subst v;exact w vs hd
 refine Qa (wpAny_frameOf_fun y G K fun c d=>?_);refine Qa (wpAny_entryPlaceOf fun pl r=>?_);unfold EntryCells.newEntry newFields;refine Qa (Yd ?_ (r.sizeOk5 _ _ _ _ _));have m:c.get? e=some oe:=(d.2.1 e t).trans he;have l:=Qc (h:=c) { cls:=.type "traceback",dict:=none,data:=.fields ([i,.ref L,.none,Zy L,.none]++(if pl.isEmpty then List.replicate 6 J6 else pl)).toArray } m;refine YK l hd hsz ?_;have q:c.objs.size≠e:=YF (Qo m);have g:=Yo hd (·.setIfInBounds 1 (J5 c.objs.size));have k:=QV (Zn (·.setIfInBounds 1 (J5 c.objs.size))) l (YY g)
 have p:=(Ya (c.push { cls:=.type "traceback",dict:=none,data:=.fields ([i,.ref L,.none,Zy L,.none]++(if pl.isEmpty then List.replicate 6 J6 else pl)).toArray })
  (Zn (·.setIfInBounds 1 (J5 c.objs.size))) (Zx q)).trans (Qt c rfl)
 unfold setFlight;refine Qa (YQ k g (x:=.ref c.objs.size) (by simp [hsz]) ?_);rw [if_pos (show(J5 c.objs.size != J6)=true from by simp)];refine YK p rfl (by simp only [QH,Qf,QE,Y9] <;> lia) (h _ c.objs.size (by rw [d.1];exact Qk _) ?_ ?_)
 ·refine⟨_,_,?_,JG _ _,g,by simp [hsz],q,_,_,QV _ p (YY (Yo rfl _)),Yo rfl _,by first | (simp;done) | (rcases r with rfl | ⟨_,_,_,_,_,_,_,rfl⟩ <;> simp)⟩
  rw [Ya _ _ q];exact k
 ·have keep:∀ b o,¬ (b=e)->c.get? b=some o->
    (((c.push { cls:=.type "traceback",dict:=none,data:=.fields ([i,.ref L,.none,Zy L,.none]++(if pl.isEmpty then List.replicate 6 J6 else pl)).toArray }).update e (Zn (·.setIfInBounds 1 (J5 c.objs.size)))).update c.objs.size
     (Zn (·.setIfInBounds 3 ((none:Option JW).elim J6 fun f=>Zy f)))).get? b=some o:=fun b o u j=>by
   have F:c.objs.size≠b:=YF (Qo j);have B:e≠b:=Zx u;rw [Ya _ _ F,Ya _ _ B];exact Qc _ j
  refine⟨fun b o u z j=>keep b o u ((d.2.1 b z).trans j),fun b o u j=>?_⟩
  obtain⟨H,I⟩:=d.2.2 b o j
  exact⟨H,keep b _ u I⟩
theorem Ox{base:Heap}{env:Env}{outer:List Env}{L e:JW}{cls:YP}{r:Option JW}{Q:Unit->JV->Prop}
  (k:A.frames=some (env::outer)) (x:s.heap.FunFrames base (env::outer)) (t:env.frame=some L) (F:mJ s.heap e cls r)
  (h:∀ h' T,s.heap.objs.size<=T->mJ h' e cls (some T)->p9 (dN (env::outer)) (fun b=>b=e ∨ some b=r) s.heap h'->Q () { s with heap:=h' }):JY M A (leaving env (.ref e)) Q E s:=by
 obtain⟨I,p,n,G,hd,f⟩:=F;subst G;unfold leaving noteFrame;simp only [t]
 cases r with
 | none=>
  have m:p[1]?=some .none:=f;refine Qa (Qa (YQ n hd m ?_));rw [if_neg (by decide)];refine uV k x t n hd (Yi.mp m).1 fun h' T f w K'=>h h' T f w ⟨fun b o c=>K'.keep b o fun z=>c (.inl z),fun b o c=>K'.slot b o fun z=>c (.inl z)⟩
 | some T=>
  obtain⟨m,v,J,B,f,i,y⟩:=f;refine Qa (Qa (YQ n hd m ?_));rw [if_pos (show(J5 T != J6)=true from by simp)];refine Qa (YQ f i y ?_);rw [if_neg (show ¬ ((J6 == Zy L)=true)from by simp [Zy])];refine Qa (YK f i (Yi.mp y).1 ?_);have a:∀ b,b≠T->(s.heap.update T (Zn (·.setIfInBounds 3 J6))).get? b=s.heap.get? b:=fun b c=>Ya _ _ (Zx c)
  have d:∀ b o,s.heap.get? b=some o->(∀ p,o.data≠.fields p)->b≠T:=fun b o c g q=>by
   rw [q,f]at c;injection c with c;subst c;exact g B i
  refine uV (s:={ s with heap:=s.heap.update T (Zn (·.setIfInBounds 3 J6)) }) k (x.of_keeps fun b o c g=>⟨o,(a b (d b o c g)).trans c,rfl⟩) t ((a e (Zx v)).trans n) hd (Yi.mp m).1 fun h' H l w K'=>h h' H (by rw [Heap.size_update]at l;exact l) w ?_
  exact⟨fun b o c u j=>K'.keep b o (fun z=>c (.inl z)) u ((a b fun z=>c (.inr (by rw [z]))).trans j),fun b o c j=>K'.slot b o (fun z=>c (.inl z)) ((a b fun z=>c (.inr (by rw [z]))).trans j)⟩
end
end EX
namespace DL
open PySem.Spec L2
inductive aK where
 | nx (ρ:aA)
 | rt (d:D)
 | bk (ρ:aA)
 | ct (ρ:aA)
 | ex (x:Str) (ρ:aA)
def rK(X:Cx)(b:JW->Prop)(H₀:Hp)(F:JW->Prop)(H:Hp)(W:jL):aK->Prop
 | .nx ρ=>∀ F' H' σ,aH b F' H₀ H'->bU X.K F F' H H'->bE X.K F' H' H₀ σ ρ->W.nx σ H'
 | .rt d=>∀ F' H' v,aH b F' H₀ H'->aR X.K F' H' d v->W.rt v H'
 | .bk ρ=>∀ F' H' σ,aH b F' H₀ H'->bU X.K F F' H H'->bE X.K F' H' H₀ σ ρ->W.bk σ H'
 | .ct ρ=>∀ F' H' σ,aH b F' H₀ H'->bU X.K F F' H H'->bE X.K F' H' H₀ σ ρ->W.ct σ H'
 | .ex x ρ=>∀ F' H' σ pins s a C tr,aH b F' H₀ H'->bE X.K F' H' H₀ σ ρ->Inv X pins σ H' s->PySem.W.nsIn X.K J2 x=some (some (.ref C))->EX.ThrownC X pins H' s a (.ref C) tr->X.xe (.ref a) s
theorem rK.from{X:Cx}{a F g:JW->Prop}{H₀ H H':Hp}{W:jL}{o:aK}(T:bU X.K F g H H')(k:rK X a H₀ F H W o):rK X a H₀ g H' W o:=by
 cases o with
 | nx ρ=>exact fun f e b E c S=>k f e b E (T.trans c) S
 | rt d=>exact k
 | bk ρ=>exact fun f e b E c S=>k f e b E (T.trans c) S
 | ct ρ=>exact fun f e b E c S=>k f e b E (T.trans c) S
 | ex x ρ=>exact k
inductive Co(X:Cx)(g:aA->Option aK)(W:jL)(σ:L2.St)(H:Hp):Prop
 | mk (F₀:JW->Prop) (H₀:Hp) (F:JW->Prop) (ρ:aA) (o:aK) (E:aH F₀ F H₀ H) (S:bE X.K F H H₀ σ ρ) (q:g ρ=some o) (k:rK X F₀ H₀ F H W o):Co X g W σ H
def uI(X:Cx)(g:aA->Option aK):TS:=fun W a H=>Co X g W a H
def DS(X:Cx)(a:Zj)(g:aA->Option aK):Prop:=PS X a (uI X g)
def fT(X:Cx)(a:List Zj)(g:aA->Option aK):Prop:=fU X a (uI X g)
def aM(c b:aA->Option aK):aA->Option aK:=fun a=>(c a).bind fun o=>match o with
 | .nx ρ'=>b ρ'
 | o=>some o
def cM:aA->Option aK:=fun a=>some (.nx a)
def bK(g:aA->Option D):aA->Option aK:=fun a=>(g (a.map frz)).bind fun d=>some (.rt d)
def bI(i:Nat)(g:aA->Option D):aA->Option aK:=fun a=>(g a).bind fun d=>some (.nx (a.set i (.dat d)))
def jX(i:Nat)(g:aA->Option (List D)):aA->Option aK:=fun a=>(g a).bind fun b=>if b.length<=1000 then some (.nx (a.set i (.own b)))else none
def DU(i:Nat)(ρ:aA):aA:=match ρ[i]? with
 | some (.own ds)=>ρ.set i (.dat (.list ds))
 | _=>ρ
def oP(i:Nat)(g:aA->Option aK):aA->Option aK:=fun a=>g (DU i a)
def cE(t:aA->Option Bool)(d c:aA->Option aK):aA->Option aK:=fun a=>(t (a.map frz)).bind fun b=>if b=true then d a else c a
def jI(g:aA->Option D):aA->Option aK:=fun a=>(g a).bind fun _=>some (.nx a)
def jW(i:Nat)(g:aA->Option D):aA->Option aK:=fun a=>match a[i]? with
 | some (.own ds)=>(g a).bind fun d=>if ds.length<1000 then some (.nx (a.set i (.own (ds++[d]))))else none
 | _=>none
def gB(t:aA->Option Bool)(g:aA->Option aK):Nat->aA->Option aK
 | 0,_=>none
 | n+1,ρ=>(t (ρ.map frz)).bind fun b=>if b=true then(g ρ).bind fun o=>match o with
   | .nx ρ'=>gB t g n ρ'
   | .ct ρ'=>gB t g n ρ'
   | .bk ρ'=>some (.nx ρ')
   | .rt d=>some (.rt d)
   | .ex x ρ'=>some (.ex x ρ')
  else some (.nx ρ)
def fG(s:D->aA->Option aA)(g:aA->Option aK):List D->aA->Option aK
 | [],ρ=>some (.nx ρ)
 | d::ds,ρ=>(s d ρ).bind fun a=>(g a).bind fun o=>match o with
   | .nx ρ'=>fG s g ds ρ'
   | .ct ρ'=>fG s g ds ρ'
   | .bk ρ'=>some (.nx ρ')
   | .rt d=>some (.rt d)
   | .ex x ρ'=>some (.ex x ρ')
def dW(gi:aA->Option (List D))(s:D->aA->Option aA)(g:aA->Option aK):aA->Option aK:=fun a=>(gi a).bind fun b=>fG s g b a
section
variable {X:Cx}{e a b c tg:Expr}{es:List Expr}{st:Zj}{rest body orelse:List Zj}{g g1 g2 gb:aA->Option aK}{ga:aA->Option D}{gr:aA->Option (List D)}{t:aA->Option Bool}{pos p:Pos}
theorem eU:fT X [] cM:=Ak RB fun W c H d=>by
 obtain⟨b,a,F,e,o,E,S,q,k⟩:=d;cases q;exact k F H c E (bU.refl _ F H) S
theorem TV{a:JW->Prop}{H₀:Hp}{F:JW->Prop}{ρ:aA}{o:aK}{W:jL}{b:L2.St}{H:Hp}(E:aH a F H₀ H)(S:bE X.K F H H₀ b ρ)(q:aM g1 g2 ρ=some o)(k:rK X a H₀ F H W o):uI X g1 { W with nx:=uI X g2 W } b H:=by
 obtain⟨c,f,q⟩:=aJ q
 refine⟨a,H₀,F,ρ,c,E,S,f,?_⟩
 cases c with
 | nx ρ'=>exact fun i l e j g h=>⟨a,H₀,i,ρ',o,j,h,q,k.from g⟩
 | rt d=>cases q;exact k
 | bk ρ'=>cases q;exact k
 | ct ρ'=>cases q;exact k
 | ex x ρ'=>cases q;exact k
theorem aX(d:DS X st g1)(c:fT X rest g2):fT X (st::rest) (aM g1 g2):=
 Ak (RA d c) fun W e H ⟨b,a,F,f,o,E,S,q,k⟩=>TV E S q k
theorem bB(a:DS X st g):fT X [st] g:=RC a
theorem aH.thaw{K:PySem.W.Frag}{c F l:JW->Prop}{H₀ H H':Hp}{k:L2.St}{ρ:aA}(E:aH c F H₀ H)(S:bE K F H H₀ k ρ)(E':aH (fun a=>F a ∨ gK k ρ a) l H H'):aH c l H₀ H':=
 ⟨E.same.trans E'.same,fun a f=>E'.up a (.inl (E.up a f)),fun a f=>by
  rcases E'.new a f with(f | ⟨i,q,e,d⟩ | ⟨i,q,e,d⟩) | ⟨o,n⟩
  ·rcases E.new a f with f | ⟨f,p⟩
   ·exact .inl f
   ·exact .inr ⟨f,fun z=>p (E'.same.free z)⟩
  ·obtain⟨b,m,j,h,_,g,_⟩:=S.own e;rw [j]at d;cases d;exact .inr ⟨g,by rw [E'.same _ _ h];simp⟩
  ·obtain⟨b,m,r,j,h,_,g,_⟩:=S.ownD e;rw [j]at d;cases d;exact .inr ⟨g,by rw [E'.same _ _ h];simp⟩
  ·exact .inr ⟨E.same.free o,n⟩⟩
theorem bY(g:DE X e ga):DS X (.Return (some e) pos) (bK ga):=ps_mono (GH g) fun W n H f=>by
 obtain⟨b,a,F,c,o,E,S,q,k⟩:=f;obtain⟨d,h,q⟩:=aJ q;cases q
 exact⟨_,a,c.map frz,d,S.frz,h,fun l j v m i=>k l j v (E.thaw S m) i⟩
theorem cG{i:Nat}{x:Str}{a:Pos}(n:X.N.Nodup)(m:DE X e ga)(j:X.N[i]?=some x:=by rfl)(h:Loc X.env.scope x:=by first | exact ZG rfl | exact Zr rfl)(hs:ZE e (some (.Name x a)) pos.line X.env=pure false:=by rfl)(l:X.fn x=true ∨ X.env.scope.names.lookup x=some .local:=by first | exact .inl rfl | exact .inr rfl | assumption):
  DS X (.Assign [.Name x a] e pos) (bI i ga):=ps_mono (pW n j h m hs l) fun W u H g=>by
 obtain⟨c,b,F,f,o,E,S,q,k⟩:=g;obtain⟨d,p,q⟩:=aJ q;cases q
 exact⟨F,b,f,d,S,p,fun t s v E' r=>k t s _ (E.trans E') E'.stay ((S.ext E').put r)⟩
theorem aH.lend{K:PySem.W.Frag}{F j:JW->Prop}{H H₀ H':Hp}{d:L2.St}{ρ:aA}(S:bE K F H H₀ d ρ)(E':aH (fun a=>F a ∨ gK d ρ a) j H H'):aH F (fun a=>j a/\¬ gK d ρ a) H H':=
 ⟨E'.same,fun a f=>⟨E'.up a (.inl f),fun z=>by
   rcases z with⟨i,o,e,c⟩ | ⟨i,o,e,c⟩
   ·obtain⟨b,l,h,m,g,_⟩:=S.own e;rw [h]at c;cases c;exact g f
   ·obtain⟨b,l,p,h,m,g,_⟩:=S.ownD e;rw [h]at c;cases c
    exact g f⟩,fun a k=>by
  obtain⟨f,n⟩:=k;rcases E'.new a f with(f | f) | f
  ·exact .inl f
  ·exact absurd f n
  ·exact .inr f⟩
theorem nB{i:Nat}{x:Str}{b a:Pos}(r:X.N.Nodup)(p:DA X es gr)(m:X.N[i]?=some x:=by rfl)(l:Loc X.env.scope x:=by first | exact ZG rfl | exact Zr rfl)(hs:ZE (.List es a) (some (.Name x b)) pos.line X.env=pure false:=by rfl)(n:X.fn x=true ∨ X.env.scope.names.lookup x=some .local:=by first | exact .inl rfl | exact .inr rfl | assumption):
  DS X (.Assign [.Name x b] (.List es a) pos) (jX i gr):=ps_mono (pW r m l (Hq p) hs n) fun W u H j=>by
 obtain⟨g,c,F,h,o,E,S,q,k⟩:=j;obtain⟨f,s,q⟩:=aJ q;by_cases e:f.length<=1000
 ·rw [if_pos e]at q;cases q
  refine⟨F,c,h,f,S,s,fun t y v E' R'=>⟨gG (by rw [<- R'.length];exact e),fun w d=>?_⟩⟩
  exact k t _ _ ((E.trans E').trans (aH.fresh d)) (E'.stay.trans (aH.fresh d).stay) ((S.ext E').putOwn d ((E.trans E').same.free d) R')
 ·rw [if_neg e]at q;cases q
theorem D7(i:Nat)(h:fT X rest g):fT X rest (oP i g):=Ak h fun W m H e=>by
 obtain⟨c,b,F,d,o,E,S,q,k⟩:=e;unfold oP DU at q
 split at q
 ·rename_i n l;obtain⟨a,j,S'⟩:=S.frz1 l
  refine⟨c,b,_,_,o,⟨E.same,fun x f=>.inl (E.up x f),fun x f=>?_⟩,S',q,k.from ⟨fun _ f=>.inl f,fun _ _ f=>f,fun _ _ _ f=>f,fun _ _ _ f=>f⟩⟩
  rcases f with f | rfl
  ·exact E.new x f
  ·exact .inr ⟨j,S'.fz x (.inr rfl)⟩
 ·exact⟨c,b,F,d,o,E,S,q,k⟩
theorem eS(f:DT X c t)(h:fT X body g1)(g:fT X orelse g2):DS X (.If c body orelse pos) (cE t g1 g2):=ps_mono (La f h g) fun W j H e=>by
 obtain⟨b,a,F,d,o,E,S,q,k⟩:=e;obtain⟨r,i,q⟩:=aJ q
 refine⟨_,a,d.map frz,r,S.frz,i,fun m l E'=>?_⟩
 have E2:=E'.lend S
 cases r with
 | true=>simp only [if_true]at q ⊢;exact⟨b,a,_,d,o,E.trans E2,S.ext E2,q,k.from E2.stay⟩
 | false=>simp only [Qq,if_false]at q ⊢;exact⟨b,a,_,d,o,E.trans E2,S.ext E2,q,k.from E2.stay⟩
theorem l6(h:DE X e ga)(hs:ZE e none pos.line X.env=pure false:=by rfl):DS X (.Expr e pos) (jI ga):=ps_mono (wH h hs) fun W c H g=>by
 obtain⟨b,a,F,f,o,E,S,q,k⟩:=g;obtain⟨d,i,q⟩:=aJ q;cases q
 exact⟨F,a,f,d,S,i,fun l j v E' m=>k l j c (E.trans E') E'.stay (S.ext E')⟩
theorem aH.turn{c F:JW->Prop}{H₀ H:Hp}{p:JW}{o:HO}(E:aH c F H₀ H)(e:H₀ p=none):aH c F H₀ (aP H p o):=
 ⟨fun b u q=>by rw [aU (eE q e)];exact E.same b u q,E.up,fun a f=>by
  rcases E.new a f with f | ⟨h,g⟩
  ·exact .inl f
  ·refine .inr ⟨h,fun z=>?_⟩;by_cases d:a=p
   ·subst d;rw [cQ]at z;cases z
   ·rw [aU d]at z;exact g z⟩
theorem v2{i:Nat}{x:Str}{b a:Pos}(Q:DE X e ga)(U:X.N[i]?=some x:=by rfl)(O:jQ X.env.scope x:=by first | exact ZG rfl | exact Zr (ZG rfl) | exact Zr (Zr rfl))(hd:(x == ("__debug__":Str))=false:=by decide)
  (t:(x == ("__classdict__":Str))=false:=by decide) (h:JX [e] X.env=(false,Zk e X.env)::JX [] X.env:=by rfl)
  (g:UC (.Name x p) "append" X.env (Zk (.Name x p) X.env)=Zk (.Name x p) X.env:=by rfl)
  (j:((Zi a (JX [e] X.env)).all (fun x => !x.1) && (backToKw a (UW [] X.env)).all (fun x=>x.1.isSome)
   && decide ([e].length+([]:List UA).length+(if([]:List UA).isEmpty then 0 else 1)<30))=true:=by rfl)
  (f:(b.endLine == a.line)=true:=by rfl) (c:(Zi a (JX [] X.env)).any (·.1)=false:=by rfl) (s:ZE (.Call (.Attribute (.Name x p) "append" b) [e] [] a) none pos.line X.env=pure false:=by rfl):
  DS X (.Expr (.Call (.Attribute (.Name x p) "append" b) [e] [] a) pos) (jW i ga):=
 ps_mono (wH (Hm PySem.F.plainAttrs_list PySem.F.slot_list_append PySem.F.type_list_append Fb (nJ U O hd t) (j9 Q mG h) g j f h c) s) fun W G H J=>by
 obtain⟨B,m,F,I,o,E,S,q,k⟩:=J;unfold jW at q
 split at q
 ·rename_i ds u;obtain⟨d,Z,q⟩:=aJ q;by_cases w:ds.length<1000
  ·rw [if_pos w]at q;cases q;obtain⟨l,vs,r,M,q3,K,q5⟩:=S.own u
   refine⟨_,r,.inl ⟨rfl,_,cN.of M⟩,F,m,I,d,S,Z,fun F' H' v E' R'=>?_⟩
   have S':=S.ext E';obtain⟨l',n,A,z,Y,g4,y⟩:=S'.own u;rw [r]at A;cases A
   refine⟨l,n,v,rfl,rfl,z,Bs (by rw [<- y.length];lia),?_⟩
   obtain⟨S2,T⟩:=S'.turn u r z Y (y.append (.cons R' .nil));exact k F' _ G ((E.trans E').turn K) (E'.stay.trans T) S2
  ·rw [if_neg w]at q;cases q
 ·cases q
end
end DL
namespace DL
open PySem.Spec L2
inductive Cm(K:PySem.W.Frag)(s:D->aA->Option aA)(v:V)(σ:L2.St)(H:Hp)(Q:L2.St->Hp->Prop):Prop
 | mk (F:JW->Prop) (H₀:Hp) (ρ:aA) (d:D) (ρ':aA) (S:bE K F H H₀ σ ρ) (R:aR K F H d v) (q:s d ρ=some ρ') (k:∀ σ',bE K F H H₀ σ' ρ'->Q σ' H):Cm K s v σ H Q
def qT(K:PySem.W.Frag)(s:D->aA->Option aA):TG:=fun v a H Q=>Cm K s v a H Q
def LT(K:PySem.W.Frag)(s:List D->aA->Option aA):kH:=fun b a H Q=>∃(F:JW->Prop) (H₀:Hp) (ρ:aA) (ds:List D) (ρ':aA),bE K F H H₀ a ρ/\Reps K F H ds b/\s ds ρ=some ρ'/\∀ σ',bE K F H H₀ σ' ρ'->Q σ' H
def DG(X:Cx)(a:Expr)(s:D->aA->Option aA):Prop:=PG X a (qT X.K s)
def sY(X:Cx)(ts:List Expr)(s:List D->aA->Option aA):Prop:=mM X ts (LT X.K s)
def bC(i:Nat):D->aA->Option aA:=fun d a=>some (a.set i (.dat d))
def j0:List D->aA->Option aA
 | [],ρ=>some ρ
 | _::_,_=>none
def fS(c:D->aA->Option aA)(b:List D->aA->Option aA):List D->aA->Option aA
 | [],_=>none
 | d::ds,ρ=>(c d ρ).bind fun a=>b ds a
def j1(n:Nat)(s:List D->aA->Option aA):D->aA->Option aA
 | .tuple ds,ρ=>if ds.length=n then s ds ρ else none
 | _,_=>none
section
variable {X:Cx}{e tg:Expr}{es:List Expr}{pos:Pos}
theorem Hs{t t':TG}(h:PG X tg t)(m:∀ v σ H Q,t' v σ H Q->t v σ H Q):PG X tg t':=fun a s σ H v u Q I r q=>h a s σ H v u Q I r (m v σ H Q q)
theorem Ht{t t':kH}(h:mM X es t)(m:∀ v σ H Q,t' v σ H Q->t v σ H Q):mM X es t':=fun a s σ H v u Q I r q=>h a s σ H v u Q I r (m v σ H Q q)
theorem cI{i:Nat}{x:Str}(h:X.N.Nodup)(f:X.N[i]?=some x:=by rfl)(e:Loc X.env.scope x:=by first | exact ZG rfl | exact Zr rfl)(g:X.fn x=true ∨ X.env.scope.names.lookup x=some .local:=by first | exact .inl rfl | exact .inr rfl | assumption):DG X (.Name x pos) (bC i):=
 Hs (So h f e g) fun v j H Q c=>by
  obtain⟨F,a,l,d,b,S,R,q,k⟩:=c;cases q;exact k _ (S.put R)
theorem rS:sY X [] j0:=Ht Ro fun v b H Q d=>by
 obtain⟨F,a,e,f,c,S,R,q,k⟩:=d
 cases R with
 | nil=>cases q;exact⟨rfl,k b S⟩
 | cons _ _=>cases q
theorem j4{f:D->aA->Option aA}{d:List D->aA->Option aA}(m:DG X e f)(l:sY X es d)
  (hs:(ZV (e::es) X.env).map (·.2)=assign e X.env::(ZV es X.env).map (·.2):=by rfl):sY X (e::es) (fS f d):=
 Ht (Rn m l hs) fun v p H Q i=>by
  obtain⟨F,a,h,s,c,S,R,q,k⟩:=i
  cases R with
  | nil=>cases q
  | cons r j=>
   obtain⟨b,n,q⟩:=aJ q
   exact⟨_,_,rfl,F,a,h,_,b,S,r,n,fun g o=>⟨F,a,b,_,c,o,j,q,k⟩⟩
theorem rR{n k:Nat}{s:List D->aA->Option aA}(l:X.calm=true)(h:sY X es s)(j:(ZV es X.env).length=n:=by rfl)(f:(ZV es X.env).findIdx? (·.1)=none:=by rfl):DG X (.Tuple es k pos) (j1 n s):=
 Hs (Sq l h j f) fun v m H Q i=>by
  obtain⟨F,c,e,d,ρ',S,R,q,k⟩:=i
  cases R with
  | @tup a vs ds hq r=>
   by_cases g:ds.length=n
   ·have b:(if ds.length=n then s ds e else none)=some ρ':=q;rw [if_pos g]at b
    exact⟨_,_,rfl,hq,by rw [<- r.length];exact g,F,c,e,_,ρ',S,r,b,k⟩
   ·have b:(if ds.length=n then s ds e else none)=some ρ':=q;rw [if_neg g]at b;cases b
  | non=>cases q
  | dct _ _ _ _ _=>cases q
  | exn _ _ _=>cases q
  | bl _=>cases q
  | int _=>cases q
  | str _=>cases q
  | lst _ _=>cases q
end
section
variable {X:Cx}{e a b c tg iter:Expr}{es:List Expr}{st:Zj}{rest body orelse:List Zj}{g g1 g2 gb:aA->Option aK}{ga:aA->Option D}{gr:aA->Option (List D)}{t:aA->Option Bool}{pos p:Pos}
theorem v3(n:Nat)(I:PassesOwn (J0 X.prog X.w) X.A X.env X.xe)(J:DT X c t)(M:fT X body g):DS X (.While c body [] pos) (gB t g n):=
 ps_mono (Rz I J M) fun W U H G=>by
  obtain⟨f,a,z,y,o,E,S,q,k⟩:=G
  refine⟨fun m j v=>∃ F h,aH f F a v/\bU X.K z F H v/\bE X.K F v a j h/\gB t g m h=some o,⟨n,z,y,E,bU.refl _ _ _,S,q⟩,?_⟩
  rintro m j v ⟨F,h,E',T',S',e⟩
  cases m with
  | zero=>cases e
  | succ m=>
   obtain⟨r,Q,e⟩:=aJ e
   refine⟨_,a,h.map frz,r,S'.frz,Q,fun Y T E2'=>?_⟩
   have E2:=E2'.lend S'
   cases r with
   | false=>
    simp only [Qq,if_false]at e ⊢;cases e;exact k _ T j (E'.trans E2) (T'.trans E2.stay) (S'.ext E2)
   | true=>
    simp only [if_true]at e ⊢;obtain⟨B,O,e⟩:=aJ e
    refine⟨fun b i=>∃ F h,aH f F a i/\bU X.K z F H i/\bE X.K F i a b h/\gB t g m h=some o,fun b i N=>⟨m,Nat.lt_succ_self m,N⟩,f,a,_,h,B,E'.trans E2,S'.ext E2,O,?_⟩
    cases B with
    | nx ρ3=>exact fun s i b u l p=>⟨s,ρ3,u,(T'.trans E2.stay).trans l,p,e⟩
    | ct ρ3=>exact fun s i b u l p=>⟨s,ρ3,u,(T'.trans E2.stay).trans l,p,e⟩
    | bk ρ3=>cases e;exact fun s i b u l p=>k s i b u ((T'.trans E2.stay).trans l) p
    | rt d=>cases e;exact k
    | ex x ρ3=>cases e;exact k
def lC(K:PySem.W.Frag)(F:JW->Prop)(H:Hp)(ds:List D)(J:It):Prop:=
 ∀ F2 H2,bU K F F2 H H2->(∀ a,F2 a->H2 a≠none)->∀ i:Nat,(∀ d,ds[i]?=some d->J.go i H2/\∀ x H3,J.yld i H2 x H3->∃ F3,aH F2 F3 H2 H3/\aR K F3 H3 d x)/\(ds.length<=i->J.stop i H2)
def CT(K:PySem.W.Frag)(gi:aA->Option (List D)):TI:=fun a H R=>mQ K a H gi fun F b=>∀ F' H' J,aH F F' H H'->lC K F' H' b J->R J H'
def DI(X:Cx)(b a:Expr)(gi:aA->Option (List D)):Prop:=PI X b a (CT X.K gi)
theorem AS{b wi':TI}(h:PI X tg iter b)(m:∀ σ H R,wi' σ H R->b σ H R):PI X tg iter wi':=fun a s σ H R I q=>h a s σ H R I (m σ H R q)
structure BI(K:PySem.W.Frag)(s:D->aA->Option aA)(g:aA->Option aK)(xs:List D)(o:aK)(F₀ F F1:JW->Prop)(H₀ H H1:Hp)(i:Nat)(σ2:L2.St)(H2:Hp)(F2:JW->Prop)(ρ2:aA):Prop where
 E:aH F₀ F2 H₀ H2
 T0:bU K F F2 H H2
 T1:bU K F1 F2 H1 H2
 S:bE K F2 H2 H₀ σ2 ρ2
 q:fG s g (xs.drop i) ρ2=some o
theorem gZ{gi:aA->Option (List D)}{s:D->aA->Option aA}(hp:PassesOwn (J0 X.prog X.w) X.A X.env X.xe)(hc:X.calm=true)(hi:DI X tg iter gi)(hg:DG X tg s)(hb:fT X body g)
  (hs:∀ x,ZC iter X.env x=pure x:=by intro _;rfl):DS X (.For tg iter body [] pos) (dW gi s g):=
 ps_mono (Ry hp hc hi hg hb hs) fun W σ H zz=>by
  obtain⟨e,a,F,Y,o,E,S,q,k⟩:=zz;obtain⟨b,e1,q⟩:=aJ q
  refine⟨F,a,Y,b,S,e1,fun U H1 J E1 I1=>?_⟩
  refine⟨fun i m l I=>m=b.length-i/\i<=b.length/\∃ M n,BI X.K s g b o e F U a H H1 i l I M n,
   ⟨b.length,rfl,QY _,U,Y,E.trans E1,E1.stay,bU.refl _ _ _,S.ext E1,q⟩,?_⟩
  rintro i m l I ⟨rfl,a1,M,n,E2,T0,T1,S2,c⟩;obtain⟨Q,O⟩:=I1 M I T1 S2.fz i;by_cases f:i<b.length
  ·right
   have u:b[i]?=some b[i]:=by simp [f]
   obtain⟨go,N⟩:=Q _ u;rw [Ym f]at c;obtain⟨t,e3,c⟩:=aJ c;obtain⟨Z,e4,c⟩:=aJ c
   refine⟨go,fun r H4=>∃ F4 ρ4,BI X.K s g b o e F U a H H1 (i+1) r H4 F4 ρ4,fun r H4 h=>⟨b.length-(i+1),by lia,rfl,f,h⟩,fun x H3 y=>?_⟩
   obtain⟨F3,E3,R3⟩:=N x H3 y
   refine⟨F3,a,n,b[i],t,S2.ext E3,R3,e3,fun a0 S5=>⟨e,a,F3,t,Z,E2.trans E3,S5,e4,?_⟩⟩
   have TT0:=T0.trans E3.stay;have TT1:=T1.trans E3.stay
   cases Z with
   | nx ρ6=>exact fun B T j G p z=>⟨B,ρ6,G,TT0.trans p,TT1.trans p,z,c⟩
   | ct ρ6=>exact fun B T j G p z=>⟨B,ρ6,G,TT0.trans p,TT1.trans p,z,c⟩
   | bk ρ6=>cases c;exact fun B T j G p z=>k B T j G (TT0.trans p) z
   | rt d=>cases c;exact k
   | ex x ρ6=>cases c;exact k
  ·left
   have v:b.length<=i:=Jr f
   refine⟨O v,?_⟩
   rw [List.drop_eq_nil_of_le v]at c;cases c;exact k M I l E2 T0 S2
def oM:List D->Option (List D)
 | [.int j]=>if -4611686018427387904<=j/\j<4611686018427387904 then some ((List.range j.toNat).map fun(k:Nat)=>.int (0+(k:Int)))else none
 | _=>none
theorem OT{K:PySem.W.Frag}{F:JW->Prop}{H:Hp}(a:Int)(n:Nat):lC K F H ((List.range n).map fun(k:Nat)=>.int (a+(k:Int))) (tG a n):=fun h l T z i=>by
 refine⟨fun d hd=>?_,fun g=>?_⟩
 ·have c:i<n:=by
   have:=(Qe.mp hd).1
   simpa using this
  have b:d=.int (a+(i:Int)):=by
   rw [QS,List.getElem?_range c]at hd;cases hd;rfl
  subst b
  refine⟨c,fun x j y=>?_⟩
  obtain⟨f,e⟩:=y;subst f e
  exact⟨h,aH.refl _ _,.int _⟩
 ·show n<=i
  simpa using g
theorem M9(g:Gl X "range")(f:X.mg "range"=none)(h:DA X [a] gr)(hs:JX [a] X.env=[(false,Zk a X.env)]:=by rfl):DI X tg (.Call (.Name "range" p) [a] [] pos) (fun ρ=>(gr ρ).bind oM):=
 AS (Rq g f h hs) fun s H R d=>by
  obtain⟨F,b,ρ,v,S,q,k⟩:=d;obtain⟨t,i,q⟩:=aJ q;unfold oM at q
  split at q
  ·rename_i j;by_cases c:-4611686018427387904<=j/\j<4611686018427387904
   ·rw [if_pos c]at q;cases q
    refine⟨F,b,ρ,_,S,i,fun n m u o l=>?_⟩
    cases l with
    | cons r e=>
     cases r;cases e
     exact⟨j,rfl,by lia,by lia,k n m _ o (OT 0 _)⟩
   ·rw [if_neg c]at q;cases q
  ·cases q
def m8:D->Option (List D)
 | .list a=>some a
 | .tuple a=>some a
 | _=>none
theorem OS{K:PySem.W.Frag}{F:JW->Prop}{H:Hp}{a:JW}{vs:List V}{ds:List D}(h:kG K F H a vs)(r:Reps K F H ds vs):lC K F H ds (BL K a):=fun l n T z i=>by
 have b:=h.stay T;have c:=r.stay T
 refine⟨fun d hd=>?_,fun k=>⟨vs,b.sq,by rw [<- c.length];exact k⟩⟩
 obtain⟨v,e,j⟩:=c.get hd
 refine⟨⟨vs,v,b.sq,e⟩,fun x m y=>?_⟩
 obtain⟨g,f⟩:=y;subst g
 have:=f vs b.sq
 rw [e]at this;cases this
 exact⟨l,aH.refl _ _,j⟩
theorem OV{K:PySem.W.Frag}{F:JW->Prop}{H:Hp}{a:JW}{vs:List V}{ds:List D}(h:bQ K H a vs)(r:Reps K F H ds vs):lC K F H ds (BM K a):=fun l n T z i=>by
 have b:=T.tp _ _ h;have c:=r.stay T
 refine⟨fun d hd=>?_,fun k=>⟨vs,b,by rw [<- c.length];exact k⟩⟩
 obtain⟨v,e,j⟩:=c.get hd
 refine⟨⟨vs,v,b,e⟩,fun x m y=>?_⟩
 obtain⟨g,f⟩:=y;subst g
 have:=f vs b
 rw [e]at this;cases this
 exact⟨l,aH.refl _ _,j⟩
theorem ES(A:DE X e ga):DI X tg e (fun ρ=>(ga ρ).bind m8):=by
 intro i s u H R I h;obtain⟨F,l,ρ,E,S,q,k⟩:=h;obtain⟨d,B,q⟩:=aJ q;refine bA (A i s u H (fun x f=>∃ g,aH F g H f/\aR X.K g f d x) I ⟨F,l,ρ,d,S,B,fun g f v m r=>⟨g,m,r⟩⟩) fun v c w=>?_;obtain⟨x,f,I1,t,g,m,r⟩:=w
 cases r with
 | @lst a vs ds' hq rr=>
  cases q;cases t;obtain⟨j,y,p,z⟩:=I1.list hq.sq;refine Ug p.isList ?_
  refine⟨c.heap.objs.size,[c.heap.objs.size],_,_,f,rfl,I1.kept (t':=c.toks) fun b o e=>Qc _ e,Sz a _,⟨_,Qt _ rfl,rfl,rfl⟩,fun b n=>?_,k g f _ m (OS hq rr)⟩
  have e:b=c.heap.objs.size:=by simpa using n
  subst e;exact I1.fpOk (Qk _) (I1.hok.fresh (Qk _))
 | @tup a vs ds' hq rr=>
  cases q;cases t;obtain⟨j,y,p,z⟩:=I1.tuple hq;refine Ub (show c.heap.IsTuple a j.toArray from p) ?_
  refine⟨c.heap.objs.size,[c.heap.objs.size],_,_,f,rfl,I1.kept (t':=c.toks) fun b o e=>Qc _ e,T5 a _,⟨_,Qt _ rfl,rfl,rfl⟩,fun b n=>?_,k g f _ m (OV hq rr)⟩
  have e:b=c.heap.objs.size:=by simpa using n
  subst e;exact I1.fpOk (Qk _) (I1.hok.fresh (Qk _))
 | non=>cases q
 | dct _ _ _ _ _=>cases q
 | exn _ _ _=>cases q
 | bl _=>cases q
 | int _=>cases q
 | str _=>cases q
end
def dQ(n:Nat)(ds:List D):aA:=ds.map .dat++List.replicate (n-ds.length) .no
def cF(n:Nat)(g:aA->Option aK):List D->Option D:=fun a=>match g (dQ n a)with
 | some (.rt d)=>some d
 | some (.nx _)=>some .none
 | _=>none
theorem nO{K:PySem.W.Frag}{F:JW->Prop}{H:Hp}{N:List Str}{ds:List D}{vs:List V}(z:∀ a,F a->H a≠none)(r:Reps K F H ds vs):bE K F H H (L2.start N vs) (dQ N.length ds):=by
 have l:=r.length
 refine⟨by simp [L2.start,dQ,l],fun i s h=>?_,fun i j a g n m b=>?_,z⟩
 ·unfold dQ at h;by_cases c:i<ds.length
  ·rw [YW (by simpa using c),QS]at h
   cases e:ds[i]? with
   | none=>rw [e]at h;cases h
   | some d=>
    rw [e]at h;cases h;obtain⟨v,o,k⟩:=r.get e
    refine⟨some v,?_,v,rfl,k⟩
    unfold L2.start;rw [YW (by simpa using(by lia:i<vs.length)),QS,o];rfl
  ·rw [YS (by simpa using c),YA]at h
   split at h
   ·rename_i f;cases h
    refine⟨none,?_,trivial⟩
    unfold L2.start;rw [YS (by simpa using(by lia:vs.length<=i)),YA,if_pos (by simp at f ⊢;lia)]
   ·cases h
 ·unfold dQ at b;by_cases c:i<ds.length
  ·rw [YW (by simpa using c),QS]at b
   cases e:ds[i]? with
   | none=>rw [e]at b;cases b
   | some d=>rw [e]at b;cases g <;> cases b
  ·rw [YS (by simpa using c),YA]at b
   split at b
   ·cases g <;> cases b
   ·cases b
theorem IP{P:JZ}{w:J1}{K:PySem.W.Frag}{mg:Str->Option YP}{base:Heap}{x a:Str}{b:Zj}{f:JW}{o:Zg}{N c:List Str}{k:Nat}{g:aA->Option aK}(F:kF K x a b f o)(S:cB N c (aW b))
  (B:∀(cdv:YP) (A:Around) (outer:List Env) (s:JV) (H:Hp) (E:XK),cT k (A.deeper (envOfC a (aW b) s.heap.objs.size f cdv))->
   fT (hX aQ P w K mg base N a (aW b) f cdv A outer s H E).nox (eY b) g):aN P w K mg base aQ (k+1) f o c (aY K c.length (cF N.length g)):=by
 refine F.ok S (fun u H Q E h=>?_) (fun cdv A outer s H u Q E y h=>?_)
 ·obtain⟨F,G,d,n,_,r,_⟩:=h;rw [<- r.length,n]
 ·obtain⟨F,G,d,n,z,r,q,m⟩:=h
  refine⟨_,B cdv A outer s H E y,?_⟩
  unfold cF at q
  split at q
  ·rename_i J e;cases q
   exact⟨F,H,F,_,_,aH.refl F H,nO z r,e,fun j i v l I=>m j i v l I⟩
  ·rename_i t e;cases q
   exact⟨F,H,F,_,_,aH.refl F H,nO z r,e,fun j i p l M O=>m j i .non l .non⟩
  ·cases q
end DL
namespace DL
open PySem.Spec PySem.SeqAt L2
mutual
theorem aR.reads{X:Cx}{pins:List (JW × Obj)}{k:L2.St}{H:Hp}{s:JV}{F:JW->Prop}(I:L2.Inv X pins k H s){d:D}{x:V}{u:YP}(h:aR X.K F H d x)(c:d.canLay0=true)(r:L2.RelV x u):∃ as,UJ s.heap u d as:=by
 cases h with
 | non=>cases r;exact⟨_,.none⟩
 | bl b=>cases r;exact⟨_,.bool b⟩
 | int i=>obtain⟨t,rfl⟩:=r;exact⟨_,.int i t⟩
 | str x=>obtain⟨t,rfl⟩:=r;exact⟨_,.str x t⟩
 | tup h q=>
  cases r;obtain⟨e,a,⟨o,g,j,n,hd⟩,_⟩:=I.tuple h;obtain⟨as,z⟩:=Reps.reads I q c a
  exact⟨_,.tuple g j hd z⟩
 | lst h q=>
  cases r;obtain⟨e,a,m,_⟩:=I.list h.sq;obtain⟨o,n,g,j,_,hd⟩:=m;obtain⟨as,z⟩:=Reps.reads I q c a
  exact⟨_,.list g j hd z⟩
 | dct f h n l r=>cases c
 | exn f h n=>cases c
theorem Reps.reads{X:Cx}{pins:List (JW × Obj)}{a:L2.St}{H:Hp}{s:JV}{F:JW->Prop}(I:L2.Inv X pins a H s){ds:List D}{xs:List V}{us:List YP}(h:Reps X.K F H ds xs)(c:J8 ds=true)(r:L2.Vals xs us):∃ as,UZ s.heap us ds as:=by
 cases h with
 | nil=>cases r;exact⟨_,.nil⟩
 | cons h q=>
  have c:=QI.mp c
  cases r with
  | cons d b=>
   obtain⟨as,z⟩:=aR.reads I h c.1 d;obtain⟨bs,y⟩:=Reps.reads I q c.2 b
   exact⟨_,.cons z y⟩
end
def oD(t:Int->Int->D):D->D->Option D
 | .int i,.int j=>some (t i j)
 | _,_=>none
def qG(C:Int->Int->Bool)(t:Int->Int->D):D->D->Option D
 | .int i,.int j=>if C i j=true then some (t i j)else none
 | _,_=>none
def mE(i j:Int):Bool:=(decide (-18446744073709551616<i) && decide (i<18446744073709551616)) || (decide (-18446744073709551616<j) && decide (j<18446744073709551616))
def pS(_ j:Int):Bool:=decide (0<j) && decide (j<1073741824)
def Hc(_ j:Int):Bool:=decide (0<j)
section
variable {X:Cx}
theorem tZ{f:YP->YP->Sem YP}{g:Int->Int->V}{t:Int->Int->D}(h:bN X f (lS g))(r:∀ i j K F H,aR K F H (t i j) (g i j)):bN X f (dB X.K (oD t)):=
 pU h fun x y H Q b=>by
  obtain⟨F,d,e,q,z,c,R2,a,k⟩:=b;unfold oD at a
  split at a
  ·cases a;cases c;cases R2
   exact⟨_,_,rfl,rfl,k F H _ (aH.refl F H) (r _ _ _ _ _)⟩
  ·cases a
theorem yE{f:YP->YP->Sem YP}{C:Int->Int->Prop}{B:Int->Int->Bool}{g:Int->Int->V}{t:Int->Int->D}(h:bN X f (rI C g))(l:∀ i j,B i j=true->C i j)(r:∀ i j K F H,aR K F H (t i j) (g i j)):bN X f (dB X.K (qG B t)):=
 pU h fun x y H Q c=>by
  obtain⟨F,d,e,q,z,m,R2,a,k⟩:=c;unfold qG at a
  split at a
  ·rename_i i j;by_cases b:B i j=true
   ·rw [if_pos b]at a;cases a;cases m;cases R2
    exact⟨_,_,rfl,rfl,l _ _ b,k F H _ (aH.refl F H) (r _ _ _ _ _)⟩
   ·rw [if_neg b]at a;cases a
  ·cases a
def qI:D->D->Option D:=oD fun i j=>.int (i-j)
def dG:D->D->Option D:=qG mE fun i j=>.int (i * j)
def k9:D->D->Option D:=qG pS fun i j=>.int (i / j)
def iH:D->D->Option D:=qG Hc fun i j=>.int (i % j)
def mT:D->D->Option D:=oD fun i j=>.bool (decide (i<j))
def qH:D->D->Option D:=oD fun i j=>.bool (decide (i<=j))
def mS:D->D->Option D:=oD fun i j=>.bool (decide (j<i))
theorem AL:bN X (Zs .Sub) (dB X.K qI):=tZ O5 fun _ _ _ _ _=>.int _
theorem iD:bN X (Zs .Mult) (dB X.K dG):=yE O3 (fun i j h=>by
 unfold mE at h;simp only [UL,Qy,decide_eq_true_eq]at h;unfold sX
 lia) fun _ _ _ _ _=>.int _
theorem sE:bN X (Zs .FloorDiv) (dB X.K k9):=yE O0 (fun i j h=>by
 unfold pS at h;simp only [Qy,decide_eq_true_eq]at h
 exact h) fun _ _ _ _ _=>.int _
theorem nH:bN X (Zs .Mod) (dB X.K iH):=yE O2 (fun i j h=>by
 unfold Hc at h
 simpa using h) fun _ _ _ _ _=>.int _
theorem qZ:bN X (Zc .Lt) (dB X.K mT):=tZ K4 fun _ _ _ _ _=>.bl _
theorem wB:bN X (Zc .LtE) (dB X.K qH):=tZ K3 fun _ _ _ _ _=>.bl _
theorem uT:bN X (Zc .Gt) (dB X.K mS):=tZ K1 fun _ _ _ _ _=>.bl _
def lI:D->Option D
 | .int i=>some (.int (-i))
 | _=>none
theorem v8:mR X (unaryOp .USub) (CM X.K lI):=U7 U6 fun x H Q b=>by
 obtain⟨F,d,q,z,c,a,k⟩:=b;unfold lI at a
 split at a
 ·cases a;cases c
  exact⟨_,rfl,k F H _ (aH.refl F H) (.int _)⟩
 ·cases a
def iG(d e:D):Option D:=if(shaped d && shaped e)=true then some (.bool (ZO d e))else none
def bR(d e:D):Option D:=if(shaped d && shaped e)=true then some (.bool (!PyData.eqv d e))else none
theorem uS(j:X.A.units+64<Za):bN X (Zc .Eq) (dB X.K iG):=fun f s n H x y v u Q I i h g=>by
 obtain⟨F,d,e,q,z,R1,R2,a,k⟩:=g;unfold iG at a;by_cases c:(shaped d && shaped e)=true
 ·rw [if_pos c]at a;cases a;have b:=QI.mp c;obtain⟨o,m⟩:=R1.reads I (QW b.1) i;obtain⟨bs,l⟩:=R2.reads I (QW b.2) h;exact eq_dataH m l b.1 b.2 j ⟨.bl _,H,I,rfl,k F H _ (aH.refl F H) (.bl _)⟩
 ·rw [if_neg c]at a;cases a
theorem gH(j:X.A.units+64<Za):bN X (Zc .NotEq) (dB X.K bR):=fun f s n H x y v u Q I i h g=>by
 obtain⟨F,d,e,q,z,R1,R2,a,k⟩:=g;unfold bR at a;by_cases c:(shaped d && shaped e)=true
 ·rw [if_pos c]at a;cases a;have b:=QI.mp c;obtain⟨o,m⟩:=R1.reads I (QW b.1) i;obtain⟨bs,l⟩:=R2.reads I (QW b.2) h;exact ne_dataH m l b.1 b.2 j ⟨.bl _,H,I,rfl,k F H _ (aH.refl F H) (.bl _)⟩
 ·rw [if_neg c]at a;cases a
def fW(neg:Bool)(d:D):D->Option D
 | .list a=>if(shaped d && shaped (.list a))=true then some (.bool (if neg then !(a.any fun y=>ZO y d)else a.any fun y=>ZO y d))else none
 | .tuple a=>if(shaped d && shaped (.tuple a))=true then some (.bool (if neg then !(a.any fun y=>ZO y d)else a.any fun y=>ZO y d))else none
 | _=>none
theorem qX(m:X.A.units+65<Za):bN X (Zc .In) (dB X.K (fW false)):=fun l s p H x y v u Q I j i n=>by
 obtain⟨F,d,e,q,z,R1,R2,a,k⟩:=n;unfold fW at a
 split at a
 ·rename_i f;by_cases c:(shaped d && shaped (.list f))=true
  ·rw [if_pos c]at a;cases a;have b:=QI.mp c;obtain⟨o,h⟩:=R1.reads I (QW b.1) j;obtain⟨bs,g⟩:=R2.reads I (QW b.2) i;exact in_list_reads g h (QW b.2) (QW b.1) (UU b.1 m) ⟨.bl _,H,I,rfl,k F H _ (aH.refl F H) (.bl _)⟩
  ·rw [if_neg c]at a;cases a
 ·rename_i f;by_cases c:(shaped d && shaped (.tuple f))=true
  ·rw [if_pos c]at a;cases a;have b:=QI.mp c;obtain⟨o,h⟩:=R1.reads I (QW b.1) j;obtain⟨bs,g⟩:=R2.reads I (QW b.2) i;exact in_tuple_reads g h (QW b.2) (QW b.1) (UU b.1 m) ⟨.bl _,H,I,rfl,k F H _ (aH.refl F H) (.bl _)⟩
  ·rw [if_neg c]at a;cases a
 ·cases a
theorem AK(m:X.A.units+65<Za):bN X (Zc .NotIn) (dB X.K (fW true)):=fun l s p H x y v u Q I j i n=>by
 obtain⟨F,d,e,q,z,R1,R2,a,k⟩:=n;unfold fW at a
 split at a
 ·rename_i f;by_cases c:(shaped d && shaped (.list f))=true
  ·rw [if_pos c]at a;cases a;have b:=QI.mp c;obtain⟨o,h⟩:=R1.reads I (QW b.1) j;obtain⟨bs,g⟩:=R2.reads I (QW b.2) i;exact notIn_list_reads g h (QW b.2) (QW b.1) (UU b.1 m) ⟨.bl _,H,I,rfl,k F H _ (aH.refl F H) (.bl _)⟩
  ·rw [if_neg c]at a;cases a
 ·rename_i f;by_cases c:(shaped d && shaped (.tuple f))=true
  ·rw [if_pos c]at a;cases a;have b:=QI.mp c;obtain⟨o,h⟩:=R1.reads I (QW b.1) j;obtain⟨bs,g⟩:=R2.reads I (QW b.2) i;exact notIn_tuple_reads g h (QW b.2) (QW b.1) (UU b.1 m) ⟨.bl _,H,I,rfl,k F H _ (aH.refl F H) (.bl _)⟩
  ·rw [if_neg c]at a;cases a
 ·cases a
def bH:D->D->Option D
 | .tuple xs,.int i=>atI xs i
 | .list xs,.int i=>atI xs i
 | _,_=>none
theorem Reps.atI{K:PySem.W.Frag}{F:JW->Prop}{H:Hp}{ds:List D}{vs:List V}{i:Int}{d:D}(r:Reps K F H ds vs)(h:L2.atI ds i=some d):∃ v,L2.atI vs i=some v/\aR K F H d v:=by
 unfold L2.atI at h ⊢;rw [r.length]at h
 cases e:ixN vs.length i with
 | none=>rw [e]at h;cases h
 | some j=>
  rw [e]at h;obtain⟨v,b,a⟩:=r.get (show ds[j]?=some d from h)
  exact⟨v,b,a⟩
theorem bS:hE X (dB X.K bH):=Oc (N8.or Ob) fun x y H Q h=>by
 obtain⟨F,d,e,q,z,g,R2,b,k⟩:=h;unfold bH at b
 split at b
 ·rename_i j i
  cases g with
  | @tup a vs _ h1 r1=>
   cases R2;obtain⟨v,f,c⟩:=r1.atI b;exact .inr ⟨a,vs,i,v,rfl,rfl,h1,f,k F H _ (aH.refl F H) c⟩
 ·rename_i j i
  cases g with
  | @lst a vs _ h1 r1=>
   cases R2;obtain⟨v,f,c⟩:=r1.atI b;exact .inl ⟨a,vs,i,v,rfl,rfl,h1.sq,f,k F H _ (aH.refl F H) c⟩
 ·cases b
def eH:List D->Option D
 | [.list xs]=>some (.int xs.length)
 | [.tuple xs]=>some (.int xs.length)
 | _=>none
theorem k4:fJ X (.builtin "len") (jA X.K eH):=rM Mm fun e H Q d=>by
 obtain⟨F,f,q,z,R,b,k⟩:=d;unfold eH at b
 split at b
 ·cases b
  cases R with
  | cons c R2=>
   cases R2
   cases c with
   | @lst a vs _ h1 r1=>exact⟨a,vs,rfl,.inl h1.sq,by rw [<- r1.length];exact k F H _ (aH.refl F H) (.int _)⟩
 ·cases b
  cases R with
  | cons c R2=>
   cases R2
   cases c with
   | @tup a vs _ h1 r1=>exact⟨a,vs,rfl,.inr h1,by rw [<- r1.length];exact k F H _ (aH.refl F H) (.int _)⟩
 ·cases b
def oC:List D->Option D
 | [.int i]=>some (.int (if i<0 then -i else i))
 | _=>none
theorem zS:fJ X (.builtin "abs") (jA X.K oC):=rM MP fun d H Q b=>by
 obtain⟨F,e,q,z,R,a,k⟩:=b;unfold oC at a
 split at a
 ·cases a
  cases R with
  | cons c R2=>cases R2;cases c;exact⟨_,rfl,k F H _ (aH.refl F H) (.int _)⟩
 ·cases a
def eA:List D->Option (List Int)
 | []=>some []
 | .int i::r=>(eA r).bind fun a=>some (i::a)
 | _=>none
theorem Ft{K:PySem.W.Frag}{F:JW->Prop}{H:Hp}:∀{ds:List D}{vs:List V}{is:List Int},Reps K F H ds vs->eA ds=some is->vs=is.map V.int:=by
 intro ds
 induction ds with
 | nil=>intro vs is r h;cases r;cases h;rfl
 | cons d ds c=>
  intro vs is r h
  cases r with
  | cons b a=>
   cases d with
   | int i=>
    cases b;obtain⟨f,e,h⟩:=aJ h;cases h;rw [c a e];rfl
   | _=>cases h
def vV:List D->Option D
 | [.list xs]=>some (.tuple xs)
 | [.tuple xs]=>some (.tuple xs)
 | _=>none
theorem C4:fJ X (.type "tuple") (jA X.K vV):=rM Mq fun f H Q e=>by
 obtain⟨F,g,q,z,R,b,k⟩:=e;unfold vV at b
 split at b
 ·cases b
  cases R with
  | cons c R2=>
   cases R2
   cases c with
   | @lst a vs _ h1 r1=>exact⟨a,vs,rfl,.inl ⟨h1.sq,fun l d=>k F _ _ (aH.fresh d) (aR.newTup d r1)⟩⟩
 ·cases b
  cases R with
  | cons c R2=>
   cases R2
   cases c with
   | @tup a vs _ h1 r1=>exact⟨a,vs,rfl,.inr ⟨h1,k F H _ (aH.refl F H) (.tup h1 r1)⟩⟩
 ·cases b
end
end DL
namespace DL
open PySem.Spec PySem.SeqAt L2 CL
def j6(inner:List (Option Nat))(ρ:aA):aA:=inner.map fun o=>match o with
 | some j=>match ρ[j]? with
  | some (.dat d)=>.dat d
  | _=>.no
 | none=>.no
def oZ(s:D->aA->Option aA)(t:aA->Option Bool)(ge:aA->Option D):List D->aA->Option (List D)
 | [],_=>some []
 | d::ds,ρ=>(s d ρ).bind fun a=>(t a).bind fun b=>if b=true then(ge a).bind fun y=>(oZ s t ge ds a).bind fun r=>some (y::r)else oZ s t ge ds a
def bW(gi:aA->Option (List D))(s:D->aA->Option aA)(t:aA->Option Bool)(ge:aA->Option D)(inner:List (Option Nat)):aA->Option (List D):=
 fun b=>(gi b).bind fun c=>(oZ s t ge c (j6 inner b)).bind fun a=>if a.length<=1000 then some a else none
def bX(g:aA->Option (List D)):aA->Option D:=fun b=>(g b).bind fun a=>some (.list a)
def eT:aA->Option Bool:=fun _=>some true
def Kb:Sl->Bool
 | .own _ | .ownD _ | .ownM _=>true
 | _=>false
def nV(ρ:aA):Prop:=∀(i:Nat) (s:Sl),Kb s=true->ρ[i]?≠some s
def rJ(s:D->aA->Option aA):Prop:=∀ d ρ ρ',nV ρ->s d ρ=some ρ'->nV ρ'
theorem Ru{ρ:aA}{i:Nat}{d:D}(h:nV ρ):nV (ρ.set i (.dat d)):=fun j a ow e=>by
 by_cases c:i=j
 ·subst c;by_cases l:i<ρ.length
  ·rw [QC l]at e;cases e;cases ow
  ·rw [List.getElem?_eq_none (by simpa using Jr l)]at e;cases e
 ·rw [Qz c]at e;exact h j a ow e
theorem fN(i:Nat):rJ (bC i):=fun d b a h e=>by cases e;exact Ru h
theorem AU(inner:List (Option Nat))(ρ:aA):nV (j6 inner ρ):=fun i ds ow e=>by
 unfold j6 at e;rw [QS]at e
 cases q:inner[i]? with
 | none=>rw [q]at e;cases e
 | some o=>
  rw [q]at e
  cases o with
  | none=>cases e;cases ow
  | some j=>
   have a:(match ρ[j]? with | some (.dat d)=>Sl.dat d | _=>Sl.no)=ds:=QJ e
   split at a <;> (subst a;cases ow)
theorem S9{K:PySem.W.Frag}{F:JW->Prop}{H:Hp}{p:JW}{vs us:List V}(c:H p=some (.lst vs))(d:¬ F p):bU K F F H (aP H p (.lst us)):=
 ⟨fun _ h=>h,fun a e h=>by
  rcases h with(h | ⟨o,h⟩) | h
  ·exact .inl (.inl (by rw [aU (by intro z;subst z;rw [c]at h;cases h)];exact h))
  ·exact .inl (.inr ⟨o,by rw [aU (by intro z;subst z;rw [c]at h;cases h)];exact h⟩)
  ·exact .inr h,fun a e f h=>by
  have b:a≠p:=fun z=>d (by rw [<- z];exact f);rcases h with h | ⟨o,h⟩
  ·exact .inl (by rw [aU b];exact h)
  ·exact .inr ⟨o,by rw [aU b];exact h⟩,fun a g f h=>by rw [aU (fun z=>d (by rw [<- z];exact f))];exact h⟩
theorem bE.plain{K:PySem.W.Frag}{F k:JW->Prop}{H H' H₀ b:Hp}{l:L2.St}{ρ:aA}(S:bE K F H H₀ l ρ)(c:nV ρ)(T:bU K F k H H')(z:∀ a,k a->H' a≠none):bE K k H' b l ρ:=
 ⟨S.len,fun i s h=>by
  obtain⟨o,q,w⟩:=S.sl i s h
  refine⟨o,q,?_⟩
  cases s with
  | no=>trivial
  | ownD f=>exact absurd h (c i _ rfl)
  | ownM f=>exact absurd h (c i _ rfl)
  | val R=>obtain⟨v,g,n⟩:=w;exact⟨v,g,fun u t p=>n u t (T.trans p)⟩
  | dat d=>obtain⟨v,e,r⟩:=w;exact⟨v,e,r.stay T⟩
  | own m=>exact absurd h (c i _ rfl),fun i j a m x _ g=>absurd g (c i _ (by cases m <;> rfl)),z⟩
theorem bE.inner{K:PySem.W.Frag}{F:JW->Prop}{H H₀:Hp}{c:L2.St}{ρ:aA}(S:bE K F H H₀ c ρ)(inner:List (Option Nat)):bE K F H H₀ (jT inner c) (j6 inner ρ):=
 ⟨by simp [jT,j6],fun i s h=>by
  unfold j6 at h;unfold jT;rw [QS]at h ⊢
  cases q:inner[i]? with
  | none=>rw [q]at h;cases h
  | some o=>
   rw [q]at h
   cases o with
   | none=>cases h;exact⟨none,rfl,trivial⟩
   | some j=>
    have b:(match ρ[j]? with | some (.dat d)=>Sl.dat d | _=>Sl.no)=s:=QJ h
    split at b
    ·rename_i d e;cases b;obtain⟨v,g,r⟩:=S.dat e
     exact⟨some v,by simp [g],v,rfl,r⟩
    ·cases b
     exact⟨_,rfl,trivial⟩,fun i j a k l _ f=>absurd f (AU inner ρ i _ (by cases k <;> rfl)),S.fz⟩
def p6(X:Cx)(a:List Expr)(t:aA->Option Bool):Prop:=n7 X a (lX X.K t)
theorem l7{X:Cx}:p6 X [] eT:=fun a s e H Q I d=>by
 obtain⟨F,c,f,b,S,q,k⟩:=d;cases q;exact wpAny_tests_nil ⟨H,I,k F H (aH.refl F H)⟩
theorem iV{X:Cx}{c:Expr}{t:aA->Option Bool}(h:DT X c t):p6 X [c] t:=RG h
section
variable {X:Cx}{elt tg iter:Expr}{ifs:List Expr}{scope:Zz}{pos:Pos}{N':List Str}{inner:List (Option Nat)}{gi:aA->Option (List D)}{s:D->aA->Option aA}{t:aA->Option Bool}{ge:aA->Option D}
structure Id(X:Cx)(s:D->aA->Option aA)(t:aA->Option Bool)(ge:aA->Option D)(xs out:List D)(F1:JW->Prop)(H1:Hp)(D':JW)(i m:Nat)(σ':L2.St)(H':Hp)(F2:JW->Prop)(ρ2:aA)(vs:List V)(don rst:List D):Prop where
 em:m=xs.length-i
 hi:i<=xs.length
 E:aH F1 F2 H1 H'
 T:bU X.K F1 F2 H1 H'
 S:bE X.K F2 H' H1 σ' ρ2
 pl:nV ρ2
 dD:H' D'=some (.lst vs)
 nf:¬ F2 D'
 rd:Reps X.K F2 H' don vs
 ec:oZ s t ge (xs.drop i) ρ2=some rst
 eo:don++rst=out
 kp:∀ b o,b≠D'->H1 b=some o->H' b=some o
theorem zW(kp:rJ s){O:L2.St}{H:Hp}{Q:VK}{F:JW->Prop}{H₀:Hp}{ρ:aA}{out:List D}(S:bE X.K F H H₀ O ρ)(q:bW gi s t ge inner ρ=some out)
  (fin:∀ F' H' D' vs,aH F F' H H'->bU X.K F F' H H'->H D'=none->H' D'=some (.lst vs)->¬ F' D'->Reps X.K F' H' out vs->bE X.K F' H' H₀ O ρ->Q (.ref D') H'):
  Bx (CT X.K gi) (qT X.K s) (lX X.K t) (tD X.K ge) inner O H Q:=by
 obtain⟨g,e1,q⟩:=aJ q;obtain⟨r,e2,q⟩:=aJ q;by_cases hl:r.length<=1000
 ·rw [if_pos hl]at q;cases q
  refine⟨F,H₀,ρ,g,S,e1,fun I n J E1 I1 D' M=>?_⟩
  have S1:=S.ext E1
  refine⟨fun i m p H'=>∃ G j vs h k,Id X s t ge g out I n D' i m p H' G j vs h k,?_,?_⟩
  ·have E2:aH I I n (aP n D' (.lst [])):=aH.fresh M
   refine⟨g.length,I,j6 inner ρ,[],[],out,rfl,QY _,E2,E2.stay,?_,AU inner ρ,cQ,fun f=>S1.fz _ f M,.nil,e2,rfl,fun b o nb e=>by rw [aU nb];exact e⟩
   exact(S1.inner inner).plain (AU inner ρ) E2.stay (E2.fz S1.fz)
  ·rintro i m p H' ⟨G,j,vs,h,k,rfl,hi,E2,T2,S2,pl,B,Y,rd,a,A,v⟩;obtain⟨a0,Z⟩:=I1 G H' T2 S2.fz i;by_cases d:i<g.length
   ·right
    have w:g[i]?=some g[i]:=by simp [d]
    obtain⟨go,U⟩:=a0 _ w;rw [Ym d]at a;obtain⟨c,e3,a⟩:=aJ a;obtain⟨b,e4,a⟩:=aJ a
    refine⟨go,fun x H3 y=>?_⟩
    obtain⟨F3,E3,R3⟩:=U x H3 y;have l:=kp _ _ _ pl e3
    refine⟨F3,n,j,g[i],c,S2.ext E3,R3,e3,fun a1 S5=>⟨F3,n,c,b,S5,e4,fun F6 H6 E6=>?_⟩⟩
    have S6:=S5.ext E6;have E36:=E3.trans E6;have d6:H6 D'=some (.lst vs):=E36.same _ _ B
    have W:¬ F6 D':=fun f=>by
     rcases E36.new _ f with f | ⟨f,_⟩
     ·exact Y f
     ·rw [B]at f;cases f
    cases b with
    | false=>
     simp only [Qq,if_false]at a ⊢
     exact⟨g.length-(i+1),by lia,F6,c,vs,h,k,rfl,d,E2.trans E36,T2.trans E36.stay,S6,l,d6,W,rd.stay E36.stay,a,A,fun b o nb e=>E36.same _ _ (v b o nb e)⟩
    | true=>
     simp only [if_true]at a ⊢;obtain⟨yd,e5,a⟩:=aJ a;obtain⟨r',e6,a⟩:=aJ a;cases a
     refine⟨F6,n,c,yd,S6,e5,fun E N T E7 R7=>?_⟩
     have E37:=E36.trans E7;have d7:N D'=some (.lst vs):=E37.same _ _ B
     have u:¬ E D':=fun f=>by
      rcases E37.new _ f with f | ⟨f,_⟩
      ·exact Y f
      ·rw [B]at f;cases f
     have T8:bU X.K E E N (aP N D' (.lst (vs++[T]))):=S9 d7 u;have S7:=S6.ext E7;have E8:aH I E n (aP N D' (.lst (vs++[T]))):=(E2.trans E37).turn M
     have ll:vs.length<1000:=by
      have h1:=rd.length;have h2:=congrArg List.length A;rw [Qf,QE]at h2;lia
     refine⟨vs,d7,Bs (YE ll),g.length-(i+1),by lia,E,c,vs++[T],h++[yd],r',rfl,d,E8,(T2.trans E37.stay).trans T8,S7.plain l T8 (E8.fz S1.fz),l,cQ,u,?_,e6,by rw [QL];exact A,fun b o nb e=>?_⟩
     ·exact((rd.stay E37.stay).append (.cons R7 .nil)).stay T8
     ·rw [aU nb];exact E37.same _ _ (v b o nb e)
   ·left
    have z:g.length<=i:=Jr d
    refine⟨Z z,?_⟩
    rw [List.drop_eq_nil_of_le z]at a;cases a;rw [QO]at A;subst A;have hH:H D'=none:=E1.same.free M;have EE:aH F G H H':=E1.trans E2;exact fin G H' D' vs EE (E1.stay.trans T2) hH B Y rd (S.ext EE)
 ·rw [if_neg hl]at q;cases q
theorem gO(n:X.calm=true)(y:lY X N' scope inner)(i:rJ s)(l:DI X tg iter gi)(m:∀ cl C fp s' H,DG (eI X N' scope cl C fp s' H) tg s)(j:∀ cl C fp s' H,p6 (eI X N' scope cl C fp s' H) ifs t)(he:∀ cl C fp s' H,DE (eI X N' scope cl C fp s' H) elt ge)
  (hs:∀ x,ZC iter X.env x=pure x:=by intro _;rfl):DE X (.ListComp elt [⟨tg,iter,ifs,0⟩] scope pos) (bX (bW gi s t ge inner)):=
 eM (R5 (g:=qT X.K s) (ti:=lX X.K t) (te:=tD X.K ge) n y l (fun cl C fp s' H=>m cl C fp s' H) (fun cl C fp s' H=>j cl C fp s' H) (fun cl C fp s' H=>he cl C fp s' H) hs) fun z H Q e=>by
  obtain⟨F,c,A,d,S,q,k⟩:=e;obtain⟨h,r,q⟩:=aJ q;cases q;refine zW i S r fun v u w B E' I p b G o E=>?_;refine k (fun a=>v a ∨ a=w) u _ ⟨E'.same,fun a f=>.inl (E'.up a f),fun a f=>?_⟩ (.lst (.inl ⟨.inr rfl,.inl b⟩) (o.stay ⟨fun _ f=>.inl f,fun _ _ f=>f,fun _ _ _ f=>f,fun _ _ _ f=>f⟩));rcases f with f | rfl
  ·exact E'.new a f
  ·exact .inr ⟨p,by rw [b];simp⟩
theorem Ae{i:Nat}{y:Str}{h b:Pos}(O:X.N.Nodup)(M:X.calm=true)(Z:lY X N' scope inner)(w:rJ s)(G:DI X tg iter gi)(I:∀ cl C fp s' H,DG (eI X N' scope cl C fp s' H) tg s)(B:∀ cl C fp s' H,p6 (eI X N' scope cl C fp s' H) ifs t)(he:∀ cl C fp s' H,DE (eI X N' scope cl C fp s' H) elt ge)
  (c:ZE (.ListComp elt [⟨tg,iter,ifs,0⟩] scope pos) (some (.Name y h)) b.line X.env=pure true:=by rfl) (z:X.N[i]?=some y:=by rfl) (A:L2.Loc X.env.scope y:=by first | exact ZG rfl | exact Zr rfl) (J:X.fn y=true ∨ X.env.scope.names.lookup y=some .local:=by first | exact .inl rfl | exact .inr rfl | assumption)
  (hs:∀ x,ZC iter X.env x=pure x:=by intro _;rfl):DS X (.Assign [.Name y h] (.ListComp elt [⟨tg,iter,ifs,0⟩] scope pos) b) (bI i (bX (bW gi s t ge inner))):=
 ps_mono (GG (g:=qT X.K s) (ti:=lX X.K t) (te:=tD X.K ge) O M Z G (fun cl C fp s' H=>I cl C fp s' H) (fun cl C fp s' H=>B cl C fp s' H) (fun cl C fp s' H=>he cl C fp s' H) c z A J hs) fun W σ H u=>by
  obtain⟨n,m,F,ρ,o,E,S,q,k⟩:=u;obtain⟨d,Y,q⟩:=aJ q;cases q;obtain⟨v,U,q⟩:=aJ Y;cases q;refine zW w S U fun e H' r vs E' T' T j h3 Q h5=>?_;have l:bU X.K e (fun a=>e a ∨ a=r) H' H':=⟨fun _ f=>.inl f,fun _ _ f=>f,fun _ _ _ f=>f,fun _ _ _ f=>f⟩
  have p:aH F (fun a=>e a ∨ a=r) H H':=⟨E'.same,fun a f=>.inl (E'.up a f),fun a f=>by
   rcases f with f | rfl
   ·exact E'.new a f
   ·exact .inr ⟨T,by rw [j];simp⟩⟩
  exact k _ H' _ (E.trans p) (T'.trans l) ((S.ext p).put (.lst (.inl ⟨.inr rfl,.inl j⟩) (Q.stay l)))
end
end DL
namespace SG
structure dL(src:Array Keyed)(kd:SortKind)(z:ZP):Prop where
 mix:(J3 z).Perm src
 kd:kindOf z=kd
 fine:failedOf z=none
 none:ZU z=#[]
theorem dL.len{src:Array Keyed}{kd:SortKind}{z:ZP}(f:dL src kd z):(J3 z).size=src.size:=f.mix.size_eq
theorem dL.re{src:Array Keyed}{kd:SortKind}{z:ZP}(f:dL src kd z){a:Array Keyed}(m:a.Perm (J3 z)):dL src kd (setArr z a):=⟨m.trans f.mix,f.kd,f.fine,f.none⟩
section
variable {prog:JZ}{w:J1}{A:Around}{E:YP->JV->Prop}{s:JV}{src:Array Keyed}{κ:KeyKind}{kd:SortKind}
def kE(prog:JZ)(w:J1)(A:Around)(s:JV)(κ:KeyKind)(kd:SortKind):Prop:=
 ∀(x y:YP) (a b:κ.α) (E:YP->JV->Prop) (Q:Bool->JV->Prop),κ.keyOf x=some a->κ.keyOf y=some b->Q (κ.blt a b) s->JY (J0 prog w) A (keyLt' kd x y) Q E s
theorem dL.item{z:ZP}(f:dL src kd z)(all:KeysOf κ src){i:Nat}(h:i<src.size):∃ x y a,(J3 z)[i]?=some (x,y)/\κ.keyOf x=some a/\KK κ (J3 z) i=a:=by
 have c:i<(J3 z).size:=by rw [f.len];exact h
 have e:=getElem?_pos (J3 z) i c;obtain⟨a,b⟩:=all (J3 z)[i] ((Array.perm_iff_toList_perm.mp f.mix).mem_iff.mp (by simp))
 exact⟨_,_,a,e,b,by unfold KK;rw [e];simp [b]⟩
theorem sB{z:ZP}{i j:Nat}{Q:Option Bool->ZP->Prop}(L:kE prog w A s κ kd)(f:dL src kd z)(all:KeysOf κ src)(l:i<src.size)(h:j<src.size)
  (k:Q (some (κ.blt (KK κ (J3 z) i) (KK κ (J3 z) j))) z):wpS (J0 prog w) A E s (ltAt' i j) Q z:=by
 obtain⟨x,p,a,n,g,d⟩:=f.item all l;obtain⟨y,o,b,m,e,c⟩:=f.item all h;rw [d,c]at k;rw [ltAt'_eq];refine Yj (wpS_get ?_)
 show wpS _ _ _ _ (elem' (J3 z) i >>= fun u=>elem' (J3 z) j >>= fun v=>lt' u v) Q z
 rw [elem'_eq,n,elem'_eq,m];refine Yj (YL (Yj (YL ?_)));rw [lt'_eq];refine Yj (wpS_get (Yj (wpS_lift (UD ?_))));rw [f.kd];exact L x y a b _ _ g e ⟨rfl,YL k⟩
theorem HW{z:ZP}{a top:Nat}{Q:AscSt->ZP->Prop}(L:kE prog w A s κ kd)(all:KeysOf κ src)(f:dL src kd z)(y:1<=a)(u:a<=top)(t:top<=src.size)(r:Zo κ (J3 z) a)
  (k:∀ n,a<=n->n<=top->Zo κ (J3 z) n->n=top ∨ κ.klt (KK κ (J3 z) n) (KK κ (J3 z) (n-1))->Q (none,n) z):wpS (J0 prog w) A E s (ascLoop a top) Q z:=by
 unfold ascLoop;refine Uh (fun x c d=>d=z/\c=(none,x)/\Zo κ (J3 z) x) (fun x c d v m l=>?_) (fun c d l=>?_) ⟨rfl,rfl,r⟩
 ·obtain⟨g,h,b⟩:=l;subst g h;dsimp only;refine Yj (sB L f all (QD m t) (by lia) ?_)
  cases q:κ.blt (KK κ (J3 d) x) (KK κ (J3 d) (x-1))with
  | true=>simp only [if_true];exact YL (k x v (YE m) b (Zr q))
  | false=>
   simp only [Qq,if_false];refine YL ⟨rfl,rfl,fun i j le lt=>?_⟩;rcases JL j x with p | p
   ·exact b i j le p
   ·obtain rfl:j=x:=by lia
    rcases Jk le with o | o
    ·subst o;exact YO _
    ·exact Uw (b i (j-1) (by lia) (by lia)) q
 ·obtain⟨g,h,b⟩:=l;subst g h
  have e:max a top=top:=by lia
  rw [e]at b ⊢;exact k top u (Qk _) b (ZG rfl)
theorem HS{z:ZP}{n top:Nat}{Q:Option Nat->ZP->Prop}(L:kE prog w A s κ kd)(all:KeysOf κ src)(f:dL src kd z)(a:1<=n)(e:n<=top)(d:top<=src.size)(r:NonIncK κ (J3 z) n)
  (k:∀ m z',dL src kd z'->1<=m->m<=top->Zo κ (J3 z') m->Q (some m) z'):wpS (J0 prog w) A E s (tail3 n top) Q z:=by
 have sz:n<=(J3 z).size:=by rw [f.len];lia
 have b:dL src kd (setArr z (mirror (J3 z) 0 n ((n-0) / 2))):=f.re (mirror_perm _ _ _ _)
 have c:Zo κ (J3 (setArr z (mirror (J3 z) 0 n ((n-0) / 2)))) n:=by
  intro i j le lt
  show κ.kle (KK κ (mirror (J3 z) 0 n ((n-0) / 2)) i) (KK κ (mirror (J3 z) 0 n ((n-0) / 2)) j)
  rw [KK_mirror sz,KK_mirror sz,if_pos ⟨QY _,by lia⟩,if_pos ⟨QY _,lt⟩];exact r _ _ (by lia) (by lia)
 unfold tail3;refine Yj (wpS_reverse (Yj (HW L all b a e d c fun m l h g _=>?_)));exact YL (k m _ b (Qv a l) h g)
theorem Ng{z:ZP}{n top:Nat}{Q:DescSt->ZP->Prop}(L:kE prog w A s κ kd)(all:KeysOf κ src)(f:dL src kd z)(M:1<=n)(K:n<=top)(J:top<=src.size)(r:NonIncK κ (J3 z) n)
  (k:∀ m q z',dL src kd z'->n<=m->m<=top->NonIncK κ (J3 z') m->q+1<=m->(∀ i,m-(q+1)<=i->i<m->KK κ (J3 z') i=KK κ (J3 z') (m-1))->Q (none,m,q) z'):wpS (J0 prog w) A E s (descLoop n top) Q z:=by
 have one:∀(g:Array Keyed) (x:Nat) (i:Nat),x-(0+1)<=i->i<x->KK κ g i=KK κ g (x-1):=fun g x i B l=>by
  have:i=x-1:=JB (Nat.le_sub_one_of_lt l) B
  rw [this]
 unfold descLoop
 refine Uh (fun x c z'=>∃ q,c=(none,x,q)/\dL src kd z'/\NonIncK κ (J3 z') x/\q+1<=x/\∀ i,x-(q+1)<=i->i<x->KK κ (J3 z') i=KK κ (J3 z') (x-1))
  (fun x c z' N H G=>?_) (fun c z' G=>?_) ⟨0,rfl,f,r,M,one _ _⟩
 ·obtain⟨q,v,a,b,u,h⟩:=G;subst v;dsimp only;have t:x<src.size:=QD H J
  have sz:x<=(J3 z').size:=by rw [a.len];exact YE t
  have F:x-1<src.size:=Yh (Nat.sub_le x 1) t;refine Yj (sB L a all t F ?_)
  cases B:κ.blt (KK κ (J3 z') x) (KK κ (J3 z') (x-1))with
  | true=>
   simp only [if_true]
   have d:∀ g:Array Keyed,(∀ m,KK κ g m=KK κ (J3 z') m)->NonIncK κ g (x+1):=fun g same i j le lt=>by
    rw [same i,same j];rcases JL j x with y | y
    ·exact b i j le y
    ·obtain rfl:j=x:=JB (Y7 lt) y
     rcases Jk le with p | p
     ·subst p;exact YO _
     ·exact Uw (Ui B) (b i (j-1) (Nat.le_sub_one_of_lt p) (Nat.sub_lt (Yh (QY i) p) Nat.one_pos))
   by_cases l:q > 0
   ·rw [if_pos l];exact Yj (wpS_reverse (YL ⟨0,rfl,a.re (mirror_perm _ _ _ _),d _ (JS sz h),Nat.succ_le_succ (QY _),one _ _⟩))
   ·rw [if_neg l];exact YL ⟨0,rfl,a,d _ fun _=>rfl,Nat.succ_le_succ (QY _),one _ _⟩
  | false=>
   simp only [Qq,if_false];refine Yj (sB L a all (by lia) t ?_)
   cases l:κ.blt (KK κ (J3 z') (x-1)) (KK κ (J3 z') x)with
   | true=>simp only [if_true];exact YL (k x q z' a N (YE H) b u h)
   | false=>
    simp only [Qq,if_false];have same:KK κ (J3 z') x=KK κ (J3 z') (x-1):=KeyOrd.kle_antisymm l B;refine YL ⟨q+1,rfl,a,fun i j le lt=>?_,by lia,fun i y p=>?_⟩
    ·rcases JL j x with o | o
     ·exact b i j le o
     ·obtain rfl:j=x:=by lia
      rcases Jk le with I | I
      ·subst I;exact YO _
      ·rw [same];exact b i (j-1) (by lia) (by lia)
    ·show KK κ (J3 z') i=KK κ (J3 z') x
     rcases JL i x with o | o
     ·rw [same];exact h i (by lia) o
     ·have:i=x:=by lia
      rw [this]
 ·obtain⟨q,v,a,b,u,h⟩:=G
  have e:max n top=top:=by lia
  rw [e]at v b u h;subst v;exact k top q z' a K (Qk _) b u h
theorem EW{z:ZP}{n top:Nat}{Q:Option Nat->ZP->Prop}(L:kE prog w A s κ kd)(all:KeysOf κ src)(f:dL src kd z)(h:n+1<=top)(a:top<=src.size)(r:NonIncK κ (J3 z) (n+1))
  (k:∀ m z',dL src kd z'->1<=m->m<=top->Zo κ (J3 z') m->Q (some m) z'):wpS (J0 prog w) A E s (descPart n top) Q z:=by
 unfold descPart;refine Yj (wpS_lift (JJ ⟨rfl,Yj (Ng L all f (Nat.le_add_left 1 n) h a r fun m q z' b o g d l e=>?_)⟩))
 have sz:m<=(J3 z').size:=by rw [b.len];lia
 dsimp only;by_cases c:q > 0
 ·rw [if_pos c];refine Yj (wpS_reverse (HS L all (b.re (mirror_perm _ _ _ _)) (by lia) g a (fun i j le lt=>?_) k))
  show κ.kle (KK κ (mirror (J3 z') (m-(q+1)) m ((m-(m-(q+1))) / 2)) j) (KK κ (mirror (J3 z') (m-(q+1)) m ((m-(m-(q+1))) / 2)) i)
  rw [JS sz e,JS sz e];exact d i j le lt
 ·rw [if_neg c];exact HS L all b (by lia) g a d k
theorem MU{z:ZP}{top:Nat}{Q:Option Nat->ZP->Prop}(L:kE prog w A s κ kd)(all:KeysOf κ src)(f:dL src kd z)(u:1<=top)(b:top<=src.size)
  (k:∀ m z',dL src kd z'->1<=m->m<=top->Zo κ (J3 z') m->Q (some m) z'):wpS (J0 prog w) A E s (countRun' 0 top) Q z:=by
 have t:Zo κ (J3 z) 1:=fun i j le lt=>by
  obtain rfl:i=j:=JB le (Qv (Y7 lt) (QY _))
  exact YO _
 rw [countRun0_eq];refine Yj (HW L all f (Qk 1) u b t fun n l e p v=>?_);dsimp only;by_cases c:n=top
 ·rw [if_pos (beq_iff_eq.mpr c)];exact YL (k n z f l e p)
 ·rw [if_neg (fun h=>c (beq_iff_eq.mp h))];have a:=v.resolve_left c;by_cases q:n > 1
  ·rw [if_pos q];have r:n-1<n:=Nat.sub_lt l Nat.one_pos;refine Yj (sB L f all (QD l (Qv e b)) (QD r (Qv e b)) ?_)
   cases x:κ.blt (KK κ (J3 z) 0) (KK κ (J3 z) (n-1))with
   | true=>simp only [if_true];exact YL (k n z f l e p)
   | false=>
    simp only [Qq,if_false]
    have sz:n<=(J3 z).size:=by rw [f.len];exact Qv e b
    have o:∀ m,0<=m->m<n->KK κ (J3 z) m=KK κ (J3 z) (n-1):=fun m _ lt=>
     KeyOrd.kle_antisymm (p m (n-1) (Nat.le_sub_one_of_lt lt) r) (Uw x (p 0 m (QY _) lt))
    refine Yj (wpS_reverse (EW L all (f.re (mirror_perm _ _ _ _)) (Nat.lt_of_le_of_ne e c) b (fun i j le lt=>?_) k))
    show κ.kle (KK κ (mirror (J3 z) 0 n ((n-0) / 2)) j) (KK κ (mirror (J3 z) 0 n ((n-0) / 2)) i)
    rw [JS sz o,JS sz o];rcases JL j n with d | d
    ·rw [o i (QY _) (Yh le d),o j (QY _) d];exact YO _
    ·obtain rfl:j=n:=JB (Y7 lt) d
     rcases Jk le with g | g
     ·subst g;exact YO _
     ·rw [o i (QY _) g];exact Ui a
  ·rw [if_neg q]
   obtain rfl:n=1:=JB (Jr q) l
   refine EW L all f (by lia) b (fun i j le lt=>?_) k;rcases Jk le with g | g
   ·subst g;exact YO _
   ·obtain rfl:i=0:=by lia
    obtain rfl:j=1:=by lia
    exact Ui a
theorem OL{z:ZP}{n ok:Nat}{Q:Bool->ZP->Prop}(L:kE prog w A s κ kd)(all:KeysOf κ src)(f:dL src kd z)(h1:ok<=n)(h3:n<=src.size)(r:Zo κ (J3 z) ok)
  (k:∀ z',dL src kd z'->Zo κ (J3 z') n->Q true z'):wpS (J0 prog w) A E s (binarySort' 0 n ok) Q z:=by
 rw [binarySort'_eq];simp only [JK]
 have U:Zo κ (J3 z) (min (max ok 1) n):=fun i j le lt=>by
  rcases Jk le with c | c
  ·subst c;exact YO _
  ·exact r i j le (by lia)
 refine Yj (wpS_mono (Uh (fun m c z'=>c=(none,())/\dL src kd z'/\Zo κ (J3 z') (min m n)) (Q:=fun c z'=>c=(none,())/\dL src kd z'/\Zo κ (J3 z') n)
  (fun m c z' g1 g2 K=>?_) (fun c z' K=>?_) ⟨rfl,f,U⟩) fun c z' X=>?_)
 ·obtain⟨g,p,b⟩:=K;subst g
  have Y:min m n=m:=by lia
  rw [Y]at b
  have I:m<src.size:=by lia
  refine Yj (wpS_mono (Uh (fun t c a=>a=z'/\∃ lo hi,c=(none,lo,hi)/\lo<=hi/\hi<=m/\hi+t<=m+lo/\(∀ i,i<lo->κ.kle (KK κ (J3 z') i) (KK κ (J3 z') m)) /\
    ∀ i,hi<=i->i<m->κ.klt (KK κ (J3 z') m) (KK κ (J3 z') i))
   (Q:=fun c a=>a=z'/\∃ lo hi,c=(none,lo,hi)/\lo<=m/\(∀ i,i<lo->κ.kle (KK κ (J3 z') i) (KK κ (J3 z') m))/\∀ i,lo<=i->i<m->κ.klt (KK κ (J3 z') m) (KK κ (J3 z') i))
   (fun t c a _ lt B=>?_) (fun c a B=>?_) ⟨rfl,0,m,rfl,QY _,Qk _,by lia,fun i c=>absurd c (YD _),fun i S h=>absurd h (Nat.not_lt.mpr S)⟩) fun c a B=>?_)
  ·obtain⟨y,lo,hi,g,S,h,O,x,v⟩:=B;subst y g;dsimp only;by_cases d:lo >= hi
   ·rw [if_pos d]
    obtain rfl:lo=hi:=by lia
    exact YL ⟨rfl,lo,lo,rfl,h,x,v⟩
   ·rw [if_neg d]
    have u:lo<=(lo+hi) / 2/\(lo+hi) / 2<hi:=by clear h O;lia
    generalize (lo+hi) / 2=l at u ⊢;have o:=QD u.2 h;refine Yj (sB L p all I (Nat.lt_trans o I) ?_)
    cases q:κ.blt (KK κ (J3 a) m) (KK κ (J3 a) l)with
    | true=>
     simp only [if_true];exact YL ⟨rfl,lo,l,rfl,u.1,YE o,Qv (Nat.add_right_comm l t 1 ▸ Nat.add_le_add_right u.2 t) O,x,fun i N M=>KeyOrd.klt_of_klt_of_kle q (b _ _ N M)⟩
    | false=>
     simp only [Qq,if_false];refine YL ⟨rfl,l+1,hi,rfl,u.2,h,Nat.add_le_add (show lo<=l from u.1) (Qk 1) |> fun z=>by lia,fun i N=>?_,v⟩;have W:κ.kle (KK κ (J3 a) l) (KK κ (J3 a) m):=q;exact Uw (b i l (Y7 N) o) W
  ·obtain⟨y,lo,hi,g,S,h,O,x,v⟩:=B
   obtain rfl:lo=hi:=by lia
   exact⟨y,lo,lo,g,h,x,v⟩
  ·obtain⟨y,lo,hi,g,h,x,v⟩:=B;subst y g
   show wpS _ _ _ _ (moveDown' m lo >>= fun _=>pure (ZD (none,()))) _ _
   rw [moveDown'_eq];refine Yj (wpS_modify (YL ⟨rfl,p.re (bubble_perm _ _ _),?_⟩))
   have T:m<(J3 a).size:=by rw [p.len];exact I
   have M:min (m+1) n=m+1:=by lia
   rw [M];intro i j le lt
   show κ.kle (KK κ (bubble (J3 a) m (m-lo)) i) (KK κ (bubble (J3 a) m (m-lo)) j)
   have Z:m-(m-lo)=lo:=by lia
   rw [KK_bubble T (by lia),KK_bubble T (by lia),Z]
   by_cases H:i=lo <;> by_cases G:j=lo
   ·rw [if_pos H,if_pos G];exact YO _
   ·rw [if_pos H,if_neg G,if_pos ⟨by lia,by lia⟩];exact Ui (v _ (by lia) (by lia))
   ·rw [if_neg H,if_pos G,if_neg (by lia)];exact x _ (by lia)
   ·rw [if_neg H,if_neg G]
    by_cases J:lo<i/\i<=m <;> by_cases F:lo<j/\j<=m
    ·rw [if_pos J,if_pos F];exact b _ _ (by lia) (by lia)
    ·exact absurd ⟨by lia,by lia⟩ F
    ·rw [if_neg J,if_pos F];exact b _ _ (by lia) (by lia)
    ·rw [if_neg J,if_neg F];exact b _ _ le (by lia)
 ·obtain⟨g,p,b⟩:=K
  have e:min (max (max ok 1) n) n=n:=by lia
  rw [e]at b
  exact⟨g,p,b⟩
 ·obtain⟨g,p,b⟩:=X;subst g;exact YL (k z' p b)
theorem MA{z:ZP}{Q:Unit->ZP->Prop}(L:kE prog w A s κ kd)(all:KeysOf κ src)(f:dL src kd z)(M:2<=src.size)(r:src.size<64)
  (k:∀ z',(J3 z').Perm src->failedOf z'=none->Zo κ (J3 z') src.size->Q () z'):wpS (J0 prog w) A E s sortRuns' Q z:=by
 have K:minRun' src.size src.size 0=src.size:=by
  have g:∀ t,t=src.size->minRun' t src.size 0=src.size:=fun t e=>by
   cases t with
   | zero=>lia
   | succ t=>rw [minRun'_succ,if_pos r];rfl
  exact g _ rfl
 rw [sortRuns'_eq];refine Yj (wpS_get ?_);dsimp only;simp only [f.len,K]
 refine Yj (wpS_mono (Uh (fun t c z'=>(t=0/\c=(none,0)/\dL src kd z') ∨ (0<t/\c=(none,src.size)/\(J3 z').Perm src/\failedOf z'=none/\ZU z'=#[(0,src.size,0)]/\Zo κ (J3 z') src.size))
  (Q:=fun c z'=>c=(none,src.size)/\(J3 z').Perm src/\failedOf z'=none/\ZU z'=#[(0,src.size,0)]/\Zo κ (J3 z') src.size)
  (fun t c z' _ lt q=>?_) (fun c z' q=>?_) (ZG ⟨rfl,rfl,f⟩)) fun c z' H=>?_)
 ·rcases q with⟨p,h,J⟩ | ⟨p,h,F,B,y,x⟩
  ·subst p h;dsimp only;rw [if_neg (by lia)];simp only [Nat.sub_zero,Nat.min_self,JK]
   have b:∀ a,dL src kd a->Zo κ (J3 a) src.size->(0<0+1/\((none:Option Unit),src.size)=(none,src.size)/\(J3 (setPending a ((ZU a).push (0,src.size,0)))).Perm src/\failedOf (setPending a ((ZU a).push (0,src.size,0)))=none /\
     ZU (setPending a ((ZU a).push (0,src.size,0)))=#[(0,src.size,0)]/\Zo κ (J3 (setPending a ((ZU a).push (0,src.size,0)))) src.size):=fun a j n=>
    ⟨Nat.zero_lt_succ _,rfl,j.mix,j.fine,by show(ZU a).push (0,src.size,0)=_;rw [j.none];rfl,n⟩
   refine Yj (MU L all J (by lia) (Qk _) fun m i u N I G=>?_);dsimp only;by_cases c:m<src.size
   ·rw [if_pos c];refine Yj (wpS_lift (JJ ⟨rfl,Yj (OL L all u I (Qk _) G fun a j n=>?_)⟩));simp only [Yw,Qq,if_false];refine Yj (wpS_get ?_)
    have v:(ZU a).back?=none:=by rw [j.none];rfl
    rw [v];dsimp only;exact Yj (wpS_modify (YL (Zr (b a j n))))
   ·rw [if_neg c]
    obtain rfl:m=src.size:=by lia
    refine Yj (wpS_get ?_)
    have v:(ZU i).back?=none:=by rw [u.none];rfl
    rw [v];dsimp only;exact Yj (wpS_modify (YL (Zr (b i u G))))
  ·subst h;dsimp only;rw [if_pos (Qk _)];exact YL ⟨rfl,F,B,y,x⟩
 ·rcases q with⟨p,_⟩ | ⟨_,d⟩
  ·lia
  ·exact d
 ·obtain⟨h,F,B,y,x⟩:=H;subst h;dsimp only;refine Yj (wpS_mono (Uh (fun _ c i=>i=z'/\c=(none,())) (Q:=fun c i=>i=z'/\c=(none,())) (fun t c i _ _ l=>?_) (fun _ _ l=>l) ⟨rfl,rfl⟩) fun c i l=>?_)
  ·obtain⟨o,h⟩:=l;subst o h;refine Yj (wpS_get ?_);rw [if_pos (by rw [y];exact Qk 1)];exact YL ⟨rfl,rfl⟩
  ·obtain⟨o,h⟩:=l;subst o h;exact YL (k _ F B x)
theorem SN{a:JW}{vs:List YP}{n:Nat}{P:Fin->JV->Prop}(f:s.heap.get? a=some (Uj "list" vs.toArray n))(all:KeysOf κ (UX vs))(p:vs.length<64)
  (kind:∀ h',(∀ b o,b≠a->s.heap.get? b=some o->h'.get? b=some o)->2<=vs.length->JY (J0 prog w) A (keyKind' vs.toArray) (fun q s'=>q=kd/\s'={ s with heap:=h' }) E { s with heap:=h' })
  (L:∀ h',(∀ b o,b≠a->s.heap.get? b=some o->h'.get? b=some o)->kE prog w A { s with heap:=h' } κ kd)
  (k:∀ z':ZP,(J3 z').Perm (UX vs)->Zo κ (J3 z') (UX vs).size->P (.done (.ret .none)) { s with heap:=sortedHeap s.heap a vs ((J3 z').map (·.2)) }):
  JY (J0 prog w) A (Builtin.«list.sort» ⟨[.ref a],[]⟩) P E s:=by
 have x:a<s.heap.objs.size:=Qo f
 have v:vs.toArray.size=vs.length:=by simp
 rw [list_sort_plain];refine Qa (listItems_at f rfl (Qa (listUpdate_at f rfl ?_)));obtain⟨t,r⟩:∃ t,(s.heap.update a (ZS fun _=>#[])).get? a=some (Uj "list" #[] t):=⟨_,get?_update_seq f fun _=>#[]⟩;refine Qa (seqEpoch_at r rfl (Qa (wpAny_newTuple (Qa (wpAny_newList (Q7 ?_))))))
 show JY (J0 prog w) A _ P E { s with heap:=((s.heap.update a (ZS fun _=>#[])).push (Uj "tuple" vs.toArray 0)).push (Uj "list" #[] 0) }
 have keep:∀ b o,b≠a->s.heap.get? b=some o->(((s.heap.update a (ZS fun _=>#[])).push (Uj "tuple" vs.toArray 0)).push (Uj "list" #[] 0)).get? b=some o:=fun b o nb e=>
  Qc _ (Qc _ (by rw [Heap.get?_update_ne _ _ _ _ nb];exact e))
 have g:(((s.heap.update a (ZS fun _=>#[])).push (Uj "tuple" vs.toArray 0)).push (Uj "list" #[] 0)).get? a=some (Uj "list" #[] t):=Qc _ (Qc _ r);dsimp only;by_cases c:vs.toArray.size<2
 ·rw [if_pos c,if_pos c];refine Qa (Qb ?_);rw [StateT.run_pure]
  refine Qa (Qb (Qa (seqEpoch_at g rfl (Qa (listUpdate_at g rfl ?_ (hsz2:=by
   rw [Jj];show(UX vs).size<=_;rw [JM,Yf];lia))))))
  simp only [bne_self_eq_false,Qq,if_false];refine Qb (k (SortSt.mk' general' (vs.toArray.zip vs.toArray) #[] 7 none) (Array.Perm.refl _) fun i j le lt=>?_)
  obtain rfl:i=j:=by rw [JM]at lt;lia
  exact YO _
 ·rw [if_neg c,if_neg c];refine Qa (YZ (kind _ keep (by lia)) (fun q s' m=>?_) fun _ _ e=>e);obtain⟨rfl,rfl⟩:=m
  refine Qa (YZ (MA (src:=UX vs) (z:=SortSt.mk' q (vs.toArray.zip vs.toArray) #[] 7 none)
   (Q:=fun _ z'=>(J3 z').Perm (UX vs)/\failedOf z'=none/\Zo κ (J3 z') (UX vs).size)
   (L _ keep) all ⟨Array.Perm.refl _,rfl,rfl,rfl⟩ (by rw [JM];lia) (by rw [JM];exact p) fun z' d l h=>⟨d,l,h⟩) (fun u s' m=>?_) fun _ _ e=>e)
  obtain⟨⟨⟩,z'⟩:=u;obtain⟨rfl,d,l,h⟩:=m;dsimp only at d l h ⊢
  refine Qa (seqEpoch_at g rfl (Qa (listUpdate_at g rfl ?_ (hsz2:=by
   refine Qv (Nat.le_of_eq ((Jj ..).trans (d.size_eq.trans (JM _)))) ?_
   rw [Yf];lia))))
  rw [l];simp only [bne_self_eq_false,Qq,if_false];exact Qb (k z' d h)
end
end SG
namespace SD
open PySem.Spec PySem.SeqAt L2 DL SG
theorem pP:∀ a:List Int,HT.lexLt a a=false
 | []=>rfl
 | x::xs=>by rw [HT.lexLt_cons,if_pos rfl];exact pP xs
theorem vM:∀ a b c:List Int,HT.lexLt a b=true->HT.lexLt b c=true->HT.lexLt a c=true
 | [],b,[],h1,h2=>by cases b with | nil=>cases h1 | cons _ _=>cases h2
 | [],_,_::_,_,_=>rfl
 | _::_,[],_,h1,_=>by cases h1
 | _::_,_::_,[],_,h2=>by cases h2
 | x::xs,y::ys,z::zs,h1,h2=>by
  rw [HT.lexLt_cons]at h1 h2 ⊢;by_cases e:x=y
  ·subst e;rw [if_pos rfl]at h1;by_cases d:x=z
   ·subst d;rw [if_pos rfl]at h2 ⊢;exact vM xs ys zs h1 h2
   ·rw [if_neg d]at h2 ⊢;exact h2
  ·rw [if_neg e]at h1;have f:x<y:=of_decide_eq_true h1;by_cases d:y=z
   ·subst d;rw [if_neg e];exact decide_eq_true f
   ·rw [if_neg d]at h2;have g:y<z:=of_decide_eq_true h2;rw [if_neg (by lia)];exact decide_eq_true (by lia)
theorem r8:∀ a b:List Int,HT.lexLt a b=false->HT.lexLt b a=false->a=b
 | [],[],_,_=>rfl
 | [],_::_,h1,_=>by cases h1
 | _::_,[],_,h2=>by cases h2
 | x::xs,y::ys,h1,h2=>by
  rw [HT.lexLt_cons]at h1 h2;by_cases c:x=y
  ·subst c;rw [if_pos rfl]at h1 h2;rw [r8 xs ys h1 h2]
  ·rw [if_neg c]at h1;rw [if_neg (Zx c)]at h2;have e:¬ x<y:=of_decide_eq_false h1;have d:¬ y<x:=of_decide_eq_false h2;lia
theorem FH(a b c:List Int)(h:HT.lexLt a c=true):HT.lexLt a b=true ∨ HT.lexLt b c=true:=by
 cases e:HT.lexLt a b with
 | true=>exact .inl rfl
 | false=>
  right
  cases d:HT.lexLt b a with
  | false=>rw [<- r8 a b e d];exact h
  | true=>exact vM b a c d h
theorem vL:∀(a b c d:List Int),a.length=b.length->HT.lexLt (a++c) (b++d)=if a=b then HT.lexLt c d else HT.lexLt a b
 | [],[],c,d,_=>by simp
 | [],_::_,_,_,h=>by simp at h
 | _::_,[],_,_,h=>by simp at h
 | x::xs,y::ys,c,d,h=>by
  rw [Yy,Yy,HT.lexLt_cons];have f:=vL xs ys c d (by simpa using h);by_cases e:x=y
  ·subst e;rw [if_pos rfl,f,HT.lexLt_cons,if_pos rfl];simp
  ·rw [if_neg e,if_neg (by simp [e]),HT.lexLt_cons,if_neg e]
def qN(a:List (YP × List Int)):PyProof.Rows.KeyKind where
 α:=List Int
 blt:=HT.lexLt
 irrefl:=pP
 trans:=vM
 negTrans:=FH
 total:=r8
 keyOf:=fun v=>a.lookup v
 dflt:=[]
def iN:D->D->Bool
 | .int _,.int _=>true
 | .tuple xs,.tuple ys=>decide (xs.length=ys.length)
 | _,_=>false
def gA:List D->List D->Bool
 | [],[]=>true
 | x::xs,y::ys=>iN x y && gA xs ys
 | _,_=>false
def kO:D->Option (List Int)
 | .int i=>some [i]
 | .tuple a=>eA a
 | _=>none
def gC:List D->Option (List Int)
 | []=>some []
 | d::ds=>(kO d).bind fun a=>(gC ds).bind fun b=>some (a++b)
theorem N1{d x y:D}(c:iN d x=true)(e:iN d y=true):iN x y=true:=by
 cases d with
 | int i=>
  cases x with
  | int _=>cases y with
   | int _=>rfl
   | _=>cases e
  | _=>cases c
 | tuple f=>
  cases x with
  | tuple h=>cases y with
   | tuple g=>
    have a:f.length=h.length:=of_decide_eq_true c;have b:f.length=g.length:=of_decide_eq_true e;exact decide_eq_true (a.symm.trans b)
   | _=>cases e
  | _=>cases c
 | _=>cases x <;> cases c
theorem sA:∀{d x y:List D},gA d x=true->gA d y=true->gA x y=true
 | [],[],[],_,_=>rfl
 | [],[],_::_,_,h=>by cases h
 | [],_::_,_,h,_=>by cases h
 | _::_,[],_,h,_=>by cases h
 | _::_,_::_,[],_,h=>by cases h
 | d::ds,x::xs,y::ys,h1,h2=>by
  have a:=QI.mp h1;have b:=QI.mp h2;exact QI.mpr ⟨N1 a.1 b.1,sA a.2 b.2⟩
theorem Fs:∀{xs ys:List D}{a b:List Int},eA xs=some a->eA ys=some b->ZA xs ys=decide (a=b)
 | [],[],_,_,e,d=>by cases e;cases d;rfl
 | [],.int _::_,_,_,e,d=>by
  cases e;obtain⟨_,_,d⟩:=aJ d;cases d
  simp [ZA]
 | .int _::_,[],_,_,e,d=>by
  cases d;obtain⟨_,_,e⟩:=aJ e;cases e
  simp [ZA]
 | .int i::xs,.int j::ys,_,_,e,d=>by
  obtain⟨a,g,e⟩:=aJ e;obtain⟨b,f,d⟩:=aJ d
  cases e;cases d
  rw [ZA,Fs g f]
  simp [ZO]
  by_cases c:i=j <;> simp [c]
 | .none::_,_,_,_,e,_=>by cases e
 | .bool _::_,_,_,_,e,_=>by cases e
 | .str _::_,_,_,_,e,_=>by cases e
 | .list _::_,_,_,_,e,_=>by cases e
 | .tuple _::_,_,_,_,e,_=>by cases e
 | .dict _::_,_,_,_,e,_=>by cases e
 | _,.none::_,_,_,_,d=>by cases d
 | _,.bool _::_,_,_,_,d=>by cases d
 | _,.str _::_,_,_,_,d=>by cases d
 | _,.list _::_,_,_,_,d=>by cases d
 | _,.tuple _::_,_,_,_,d=>by cases d
 | _,.dict _::_,_,_,_,d=>by cases d
theorem mC:∀{xs:List D}{a:List Int},eA xs=some a->J8 xs=true/\J9 xs=0/\xs.length=a.length/\xs=a.map J4
 | [],_,h=>by cases h;exact⟨rfl,rfl,rfl,rfl⟩
 | .int i::xs,_,h=>by
  obtain⟨a,e,h⟩:=aJ h;cases h;obtain⟨f,d,c,b⟩:=mC e
  exact⟨by simp [J8,Zw,f],by simp [J9,ZZ,d],by simp [c],by rw [b];rfl⟩
 | .none::_,_,h=>by cases h
 | .bool _::_,_,h=>by cases h
 | .str _::_,_,h=>by cases h
 | .list _::_,_,h=>by cases h
 | .tuple _::_,_,h=>by cases h
 | .dict _::_,_,h=>by cases h
theorem rY{h:Heap}:∀{xs:List D}{a:List Int}{us:List YP}{as:List JW},eA xs=some a->UZ h us xs as->Ue us a
 | [],_,_,_,e,r=>by cases e;cases r;exact .nil
 | .int i::xs,_,_,_,e,r=>by
  obtain⟨a,d,e⟩:=aJ e;cases e
  cases r with
  | cons c b=>
   cases c;exact .cons i _ (rY d b)
 | .none::_,_,_,_,h,_=>by cases h
 | .bool _::_,_,_,_,h,_=>by cases h
 | .str _::_,_,_,_,h,_=>by cases h
 | .list _::_,_,_,_,h,_=>by cases h
 | .tuple _::_,_,_,_,h,_=>by cases h
 | .dict _::_,_,_,_,h,_=>by cases h
section
variable {prog:JZ}{w:J1}{A:Around}{E:YP->JV->Prop}{s:JV}
theorem zK{x y:D}{a b:List Int}(l:iN x y=true)(g:kO x=some a)(f:kO y=some b):a.length=b.length:=by
 cases x with
 | int i=>cases y with
  | int j=>cases g;cases f;rfl
  | _=>cases l
 | tuple d=>cases y with
  | tuple c=>
   have e:d.length=c.length:=of_decide_eq_true l;rw [<- (mC (show eA d=some a from g)).2.2.1,<- (mC (show eA c=some b from f)).2.2.1,e]
  | _=>cases l
 | _=>cases y <;> cases l
theorem Eb{x y:D}{p q:YP}{a b:List Int}{as bs:List JW}(B:A.units+64<Za)(h:UJ s.heap p x as)(g:UJ s.heap q y bs)(l:iN x y=true)(m:kO x=some a)(k:kO y=some b):EqAt A s p q (decide (a=b)):=by
 cases x with
 | int i=>cases y with
  | int j=>
   cases m;cases k
   cases h with
   | int _ t=>cases g with
    | int _ u=>
     have:=EqAt.int_int (A:=A) (s:=s) i t j u
     have e:(i == j)=decide ([i]=[j]):=by
      by_cases c:i=j
      ·subst c;simp
      ·simp [c]
     rw [<- e];exact this
  | _=>cases l
 | tuple f=>cases y with
  | tuple d=>
   have o:eA f=some a:=m;have n:eA d=some b:=k;obtain⟨z,v,_,_⟩:=mC o;obtain⟨w,r,_,_⟩:=mC n
   have:=eqAt_reads (.tuple f) (.tuple d) A s p q as bs h g z w (by show A.units+min (J9 f+1) (J9 d+1)<Za;rw [v,r];lia)
   have e:ZO (.tuple f) (.tuple d)=decide (a=b):=by rw [ZO];exact Fs o n
   rw [e]at this;exact this
  | _=>cases l
 | _=>cases y <;> cases l
theorem HR{b:Bool}{Q:Bool->JV->Prop}(h:Q b s):JY (J0 prog w) A (truthOfDropped (.bool b)) Q E s:=by
 unfold truthOfDropped;exact Y4 h
theorem IJ{x y:D}{p q:YP}{a b:List Int}{as bs:List JW}{f:Bool}{Q:Bool->JV->Prop}(N:A.units+64<Za)(d:UJ s.heap p x as)(c:UJ s.heap q y bs)(l:iN x y=true)(h:kO x=some a)(g:kO y=some b)
  (t:f=true->∃ i,x=.int i) (k:Q (HT.lexLt a b) s) (o:a≠b):JY (J0 prog w) A (oneLt' f p q) Q E s:=by
 cases x with
 | int i=>cases y with
  | int j=>
   cases h;cases g;cases d;cases c
   have e:HT.lexLt [i] [j]=decide (i<j):=by
    rw [HT.lexLt_cons,if_neg (by intro z;exact o (by rw [z]))]
   rw [e]at k
   cases f with
   | true=>exact oneLt_int k
   | false=>
    rw [oneLt'_eq];simp only [Qq,if_false];refine Qa (HT.rcLt_int A s i _ j _ prog w E _ (HR k))
  | _=>cases l
 | tuple n=>
  cases f with
  | true=>obtain⟨i,r⟩:=t rfl;cases r
  | false=>cases y with
   | tuple m=>
    have M:eA n=some a:=h;have K:eA m=some b:=g
    cases d with
    | tuple F B v u=>cases c with
     | tuple J I H G=>
      rw [oneLt'_eq];simp only [Qq,if_false];exact Qa (HT.lt_tupInts ⟨_,F,B,_,v⟩ ⟨_,J,I,_,H⟩ (rY M u) (rY K G) (by lia) (HR k))
   | _=>cases l
 | _=>cases y <;> cases l
theorem GQ{b:Bool}{fin:Bool}{Q:Bool->JV->Prop}(k:A.units+64<Za):∀{xs ys:List D}{a c:List Int}{us vs:List YP}{as bs:List JW} (i:Nat),gA xs ys=true->gC xs=some a->gC ys=some c->UZ s.heap us xs as->UZ s.heap vs ys bs->
  (b=true->i=0->∀ x r,xs=x::r->∃ n,x=.int n)->(a=c->Q fin s)->(a≠c->Q (HT.lexLt a c) s)->PySem.W.KatLex prog w A b fin Q (us.zip vs) i s
 | [],[],_,_,_,_,_,_,i,_,g,f,r1,r2,_,k1,k2=>by
  cases g;cases f;cases r1;cases r2
  exact PySem.W.kat_nil (k1 rfl)
 | [],_::_,_,_,_,_,_,_,_,l,_,_,_,_,_,_,_=>by cases l
 | _::_,[],_,_,_,_,_,_,_,l,_,_,_,_,_,_,_=>by cases l
 | x::xs,y::ys,_,_,_,_,_,_,i,l,g,f,r1,r2,hb,k1,k2=>by
  obtain⟨u,o,g⟩:=aJ g;obtain⟨M,K,g⟩:=aJ g;cases g;obtain⟨t,m,f⟩:=aJ f;obtain⟨c2,J,f⟩:=aJ f;cases f;obtain⟨j,F⟩:=QI.mp l;have d:=zK j o m
  cases r1 with
  | cons q B=>cases r2 with
   | cons p v=>
    rw [Jx];refine PySem.W.kat_cons (Eb k q p j o m prog w _ _ ?_);by_cases c:u=t
    ·rw [decide_eq_true c];subst c;refine PySem.W.kat_yes (GQ k (i+1) F K J B v (fun _ h=>by lia) (fun e=>k1 (by rw [e])) fun e=>?_)
     have:=k2 (fun z=>e (List.append_cancel_left z))
     rw [vL _ _ _ _ rfl,if_pos rfl]at this;exact this
    ·rw [decide_eq_false c];refine PySem.W.kat_no (IJ k q p j o m (fun G=>?_) ?_ c)
     ·obtain⟨I,H⟩:=QI.mp G;exact hb I (by simpa using H) x xs rfl
     ·have E:u++M≠t++c2:=fun z=>c (List.append_inj_left z d)
      have:=k2 E
      rw [vL _ _ _ _ d,if_neg c]at this;exact this
theorem AA{a:Type}{f:YP->Sem a}{g:YP->a}:∀{vs:List YP}{Q:List a->JV->Prop},(∀ v∈vs,∀(R:a->JV->Prop),R (g v) s->JY (J0 prog w) A (f v) R E s)->Q (vs.map g) s->JY (J0 prog w) A (vs.mapM f) Q E s
 | [],_,_,k=>by rw [List.mapM_nil];exact Qb k
 | v::vs,Q,h,k=>by
  rw [List.mapM_cons];refine Qa (h v Qd _ (Qa (AA (fun u b=>h u (Qg _ b)) (Qb k))))
def isInt:D->Bool
 | .int _=>true
 | _=>false
def jF(h:Heap):YP->Option YP
 | .ref a=>match h.get? a with
  | some o=>match o.data with
   | .seq b _=>b[0]?
   | _=>none
  | none=>none
 | _=>none
def oV:YP->YP
 | .ref _=>.type "tuple"
 | _=>.type "int"
theorem MT(v:YP):firstOfTuple' v=(typeOf v >>= fun t=>if(t != .type "tuple")=true then pure none else Builtin.List.listItems v >>= fun xs=>pure xs[0]?):=by
 unfold firstOfTuple';rfl
theorem Om{vs:List YP}{m:Bool}{d:D}(hd:isInt d=m)(M:∀ v∈vs,∃ x xs as,UJ s.heap v (.tuple (x::xs)) as/\iN d x=true)(J:vs≠[]):
  JY (J0 prog w) A (keyKind' vs.toArray) (fun q s'=>q=tuples' m/\s'=s) E s:=by
 rw [keyKind'_eq,List.mapM_toArray,map_eq_pure_bind];refine Qa (Qa (AA (g:=fun v=>jF s.heap v) (fun v c R z=>?_) (Qb ?_)))
 ·obtain⟨x,xs,as,r,_⟩:=M v c
  cases r with
  | @tuple a o us n _ _ f H B G=>
   rw [MT];refine Qa (Y2 (T:="tuple") ⟨o,f,H⟩ ?_)
   have e:(ZR "tuple" != ZR "tuple")=false:=by simp
   rw [if_neg (by rw [e];simp)];refine Qa (listItems_at f B (Qb ?_))
   have F:jF s.heap (.ref a)=us[0]?:=by
    show(match s.heap.get? a with | some o=>(match o.data with | .seq xs _=>xs[0]? | _=>none) | none=>none)=us[0]?
    rw [f]
    show(match o.data with | .seq xs _=>xs[0]? | _=>none)=us[0]?
    rw [B]
   rw [F]at z;exact z
 ·have h:∀ v∈vs,∃ u x as,jF s.heap v=some u/\UJ s.heap u x as/\iN d x=true:=fun v c=>by
   obtain⟨x,xs,as,r,l⟩:=M v c
   cases r with
   | @tuple a o us n _ _ f H B G=>
    have F:jF s.heap (.ref a)=us[0]?:=by
     show(match s.heap.get? a with | some o=>(match o.data with | .seq xs _=>xs[0]? | _=>none) | none=>none)=us[0]?
     rw [f]
     show(match o.data with | .seq xs _=>xs[0]? | _=>none)=us[0]?
     rw [B]
    generalize hl:us.toList=ul at G
    cases G with
    | @cons u vs' _ _ as' bs' r1 r2=>
     refine⟨u,x,as',?_,r1,l⟩
     rw [F,<- QN,hl];rfl
  have ty:∀ u x as,UJ s.heap u x as->iN d x=true->oV u=(if m=true then .type "int" else .type "tuple")/\∀(R:YP->JV->Prop),R (oV u) s->JY (J0 prog w) A (typeOf u) R E s:=fun u x as r l=>by
   cases d with
   | int i=>
    cases x with
    | int j=>cases r;cases hd;exact⟨rfl,fun R k=>Y2 (T:="int") (typeIs_int s _ _) k⟩
    | _=>cases l
   | tuple ds=>
    cases x with
    | tuple xs=>
     cases r with
     | tuple f H B G=>cases hd;exact⟨rfl,fun R k=>Y2 (T:="tuple") ⟨_,f,H⟩ k⟩
    | _=>cases l
   | _=>cases x <;> cases l
  have all:((vs.map fun v=>jF s.heap v).toArray.all fun x=>x.isSome)=true:=by
   rw [List.all_toArray,List.all_map,QM];intro v c;obtain⟨u,x,as,e,_⟩:=h v c
   simp [e]
  rw [if_pos all];refine Qa (JJ (Qa ?_));rw [oneTypeOnly'_eq]
  have X:((vs.map fun v=>jF s.heap v).toArray.filterMap id)=(vs.filterMap fun v=>jF s.heap v).toArray:=by
   rw [List.filterMap_toArray,List.filterMap_map];rfl
  rw [X,List.mapM_toArray,map_eq_pure_bind]
  have mem:∀ u∈vs.filterMap (fun v=>jF s.heap v),∃ x as,UJ s.heap u x as/\iN d x=true:=fun u y=>by
   obtain⟨v,c,e⟩:=List.mem_filterMap.mp y;obtain⟨u',x,as,N,r,l⟩:=h v c;rw [e]at N;cases N
   exact⟨x,as,r,l⟩
  refine Qa (Qa (AA (g:=oV) (fun u y R k=>?_) (Qb ?_)))
  ·obtain⟨x,as,r,l⟩:=mem u y
   exact(ty u x as r l).2 R k
  ·obtain⟨p,vs',rfl⟩:∃ p vs',vs=p::vs':=by
    cases vs with
    | nil=>exact absurd rfl J
    | cons a b=>exact⟨a,b,rfl⟩
   obtain⟨Q,O,K,Z,S,U⟩:=h p Qd
   have W:∀ t∈((p::vs').filterMap (fun v=>jF s.heap v)).map oV,t=(if m=true then .type "int" else .type "tuple"):=fun t I=>by
    obtain⟨u,y,rfl⟩:=QT.mp I;obtain⟨x,as,r,l⟩:=mem u y
    exact(ty u x as r l).1
   have Y:(((p::vs').filterMap (fun v=>jF s.heap v)).map oV).toArray[0]?=some (if m=true then .type "int" else .type "tuple"):=by
    rw [Jb,Z];simp only [Qp];rw [(ty Q O K S U).1];rfl
   rw [Y]
   have F:((((p::vs').filterMap (fun v=>jF s.heap v)).map oV).toArray.all fun x=>x == (if m=true then .type "int" else .type "tuple"))=true:=by
    rw [List.all_toArray,QM];intro t I;rw [W t I];simp
   dsimp only;rw [if_pos F];refine Qb (Qb ⟨?_,rfl⟩)
   cases m <;> rfl
end
end SD
namespace SD
open PySem.Spec PySem.SeqAt L2 DL SG
abbrev KD:=List Int × D
def jV(d0:List D):D->Option (List Int)
 | .tuple (x::xs)=>if gA d0 (x::xs)=true then gC (x::xs)else none
 | _=>none
def fB(d0:List D):List D->Option (List KD)
 | []=>some []
 | d::ds=>(jV d0 d).bind fun k=>(fB d0 ds).bind fun r=>some ((k,d)::r)
def jU(p:KD):List KD->List KD
 | []=>[p]
 | q::r=>if HT.lexLt q.1 p.1=true then q::jU p r else p::q::r
def gI:List KD->List KD
 | []=>[]
 | p::r=>jU p (gI r)
def jD:List D->Option D
 | [.list []]=>some (.list [])
 | [.list (.tuple d0::ds)]=>if ds.length<63 then(fB d0 (.tuple d0::ds)).bind fun l=>some (.list ((gI l).map (·.2)))else none
 | _=>none
def Le(p q:KD):Prop:=HT.lexLt q.1 p.1=false
theorem Le.trans{p q r:KD}(a:Le p q)(b:Le q r):Le p r:=by
 unfold Le at *
 cases e:HT.lexLt r.1 p.1 with
 | false=>rfl
 | true=>
  rcases FH _ q.1 _ e with h | h
  ·rw [b]at h;cases h
  ·rw [a]at h;cases h
theorem Bj(p:KD):∀ l:List KD,(jU p l).Perm (p::l)
 | []=>.refl _
 | q::r=>by
  unfold jU;split
  ·exact((Bj p r).cons q).trans (.swap p q r)
  ·exact .refl _
theorem p4:∀ l:List KD,(gI l).Perm l
 | []=>.refl _
 | p::r=>(Bj p (gI r)).trans ((p4 r).cons p)
theorem Fq(p:KD):∀ l:List KD,l.Pairwise Le->(jU p l).Pairwise Le
 | [],_=>by simp [jU]
 | q::r,h=>by
  obtain⟨d,f⟩:=Q9.mp h;unfold jU;split
  ·rename_i c;refine Q9.mpr ⟨fun z a=>?_,Fq p r f⟩;rcases Qi.mp ((Bj p r).mem_iff.mp a)with e | e
   ·subst e;unfold Le
    cases g:HT.lexLt z.1 q.1 with
    | false=>rfl
    | true=>have:=vM _ _ _ c g;rw [pP]at this;cases this
   ·exact d z e
  ·rename_i c
   have b:Le p q:=by simpa [Le]using c
   refine Q9.mpr ⟨fun z a=>?_,h⟩;rcases Qi.mp a with e | e
   ·rw [e];exact b
   ·exact b.trans (d z e)
theorem sR:∀ l:List KD,(gI l).Pairwise Le
 | []=>.nil
 | p::r=>Fq p _ (sR r)
theorem Bv:∀{a b:List KD},a.Perm b->a.Pairwise Le->b.Pairwise Le->(∀ p∈a,∀ q∈a,p.1=q.1->p=q)->a=b
 | [],b,h,_,_,_=>h.nil_eq
 | x::r,[],h,_,_,_=>absurd h.length_eq (by simp)
 | x::r,y::t,h,ha,hb,inj=>by
  have d:y∈x::r:=h.mem_iff.mpr Qd;have f:x∈y::t:=h.mem_iff.mp Qd
  have e:x=y:=by
   refine inj x Qd y d (r8 _ _ ?_ ?_)
   ·rcases Qi.mp f with c | c
    ·rw [c];exact pP _
    ·exact(Q9.mp hb).1 x c
   ·rcases Qi.mp d with c | c
    ·rw [c];exact pP _
    ·exact(Q9.mp ha).1 y c
  subst e;rw [Bv h.cons_inv (Q9.mp ha).2 (Q9.mp hb).2 fun p i q g=>inj p (Qg _ i) q (Qg _ g)]
theorem Sn{c i:Type}{f:c->i}{a b:List i}(h:a.Perm b):∀ l:List c,l.map f=a->∃ l':List c,l'.Perm l/\l'.map f=b:=by
 induction h with
 | nil=>intro l e;exact⟨l,.refl _,e⟩
 | cons x _ t=>
  intro l e
  cases l with
  | nil=>cases e
  | cons y l=>
   rw [Qp]at e
   injection e with e1 e2
   obtain⟨l',p,q⟩:=t l e2
   exact⟨y::l',p.cons y,by rw [Qp,e1,q]⟩
 | swap x y r=>
  intro l e
  match l,e with
  | a::b::l,e=>
   rw [Qp,Qp]at e
   injection e with e1 e2
   injection e2 with e2 e3
   exact⟨b::a::l,.swap a b l,by rw [Qp,Qp,e1,e2,e3]⟩
 | trans _ _ g d=>
  intro l e;obtain⟨s,n,k⟩:=g l e;obtain⟨o,m,j⟩:=d s k
  exact⟨o,m.trans n,j⟩
theorem Eo:∀{xs ys:List D}{a:List Int},gA xs ys=true->gC xs=some a->gC ys=some a->xs=ys
 | [],[],_,_,_,_=>rfl
 | [],_::_,_,l,_,_=>by cases l
 | _::_,[],_,l,_,_=>by cases l
 | x::xs,y::ys,a,l,c,b=>by
  obtain⟨g,f,c⟩:=aJ c;obtain⟨u,s,c⟩:=aJ c;obtain⟨t,e,b⟩:=aJ b;obtain⟨c2,r,b⟩:=aJ b;obtain⟨d,m⟩:=QI.mp l;have n:=zK d f e;have q:g++u=t++c2:=(QJ c).trans (QJ b).symm;obtain⟨p,o⟩:=List.append_inj q n;subst p o;rw [Eo m s r];congr 1
  cases x with
  | int i=>cases y with
   | int j=>cases f;cases e;rfl
   | _=>cases d
  | tuple k=>cases y with
   | tuple h=>rw [(mC (show eA k=some g from f)).2.2.2,(mC (show eA h=some g from e)).2.2.2]
   | _=>cases d
  | _=>cases y <;> cases d
theorem u4:∀{xs:List D}{a:List Int},gC xs=some a->J8 xs=true
 | [],_,_=>rfl
 | x::xs,a,f=>by
  obtain⟨h,b,f⟩:=aJ f;obtain⟨j,g,f⟩:=aJ f;have d:=u4 g
  have e:Zw x=true:=by
   cases x with
   | int i=>rfl
   | tuple c=>exact(mC (show eA c=some h from b)).1
   | _=>cases b
  simp [J8,e,d]
theorem kA{d0:List D}{d:D}{k:List Int}(h:jV d0 d=some k):∃ x xs,d=.tuple (x::xs)/\gA d0 (x::xs)=true/\gC (x::xs)=some k:=by
 cases d with
 | tuple b=>
  cases b with
  | nil=>cases h
  | cons x xs=>
   have a:(if gA d0 (x::xs)=true then gC (x::xs)else none)=some k:=h;by_cases c:gA d0 (x::xs)=true
   ·rw [if_pos c]at a;exact⟨x,xs,rfl,c,a⟩
   ·rw [if_neg c]at a;cases a
 | _=>cases h
theorem kW{d0:List D}{d e:D}{k:List Int}(f:jV d0 d=some k)(c:jV d0 e=some k):d=e:=by
 obtain⟨x,j,rfl,b,h⟩:=kA f;obtain⟨y,i,rfl,a,g⟩:=kA c;rw [Eo (sA b a) h g]
theorem wL{d0:List D}:∀{ds:List D}{l:List KD},fB d0 ds=some l->l.map (·.2)=ds/\∀ p∈l,jV d0 p.2=some p.1
 | [],_,h=>by cases h;exact⟨rfl,fun p a=>nomatch a⟩
 | d::ds,_,h=>by
  obtain⟨k,g,h⟩:=aJ h;obtain⟨r,f,h⟩:=aJ h;cases h;obtain⟨c,b⟩:=wL f
  refine⟨by rw [Qp,c],fun p a=>?_⟩
  rcases Qi.mp a with e | e
  ·rw [e];exact g
  ·exact b p e
abbrev Tr:=KD × V × YP
section
variable {X:Cx}{pins:List (JW × Obj)}{σ:L2.St}{H:Hp}{s:JV}{F:JW->Prop}
theorem HP{K:PySem.W.Frag}:∀{l:List KD}{vs:List V}{us:List YP},Reps K F H (l.map (·.2)) vs->L2.Vals vs us->∃ T:List Tr,T.map (·.1)=l/\T.map (·.2.1)=vs/\T.map (·.2.2)=us/\∀ t∈T,aR K F H t.1.2 t.2.1/\L2.RelV t.2.1 t.2.2
 | [],_,_,r,v=>by cases r;cases v;exact⟨[],rfl,rfl,rfl,fun t a=>nomatch a⟩
 | p::l,_,_,r,v=>by
  cases r with
  | cons f d=>cases v with
   | cons c b=>
    obtain⟨T,j,i,h,g⟩:=HP (l:=l) d b
    refine⟨(p,_,_)::T,by rw [Qp,j],by rw [Qp,i],by rw [Qp,h],fun t a=>?_⟩
    rcases Qi.mp a with e | e
    ·rw [e];exact⟨f,c⟩
    ·exact g t e
theorem HQ{K:PySem.W.Frag}:∀{T:List Tr},(∀ t∈T,aR K F H t.1.2 t.2.1/\L2.RelV t.2.1 t.2.2)->Reps K F H (T.map (·.1.2)) (T.map (·.2.1))/\L2.Vals (T.map (·.2.1)) (T.map (·.2.2))
 | [],_=>⟨.nil,.nil⟩
 | t::T,h=>by
  obtain⟨c,b⟩:=h t Qd;obtain⟨e,d⟩:=HQ fun u a=>h u (Qg _ a)
  exact⟨.cons c e,.cons b d⟩
theorem w5:∀{T:List Tr}{v:YP}{k:List Int},(T.map fun t=>(t.2.2,t.1.1)).lookup v=some k->∃ t∈T,t.2.2=v/\t.1.1=k
 | [],_,_,h=>by cases h
 | t::T,v,k,h=>by
  rw [Qp,Q3]at h
  cases e:v == t.2.2 with
  | true=>rw [e]at h;cases h;exact⟨t,Qd,(Yv e).symm,rfl⟩
  | false=>
   rw [e]at h;obtain⟨u,a,c,b⟩:=w5 h
   exact⟨u,Qg _ a,c,b⟩
theorem HH:∀{T:List Tr}{t:Tr},t∈T->∃ k,(T.map fun t=>(t.2.2,t.1.1)).lookup t.2.2=some k:=by
 intro T
 induction T with
 | nil=>intro t h;cases h
 | cons u T a=>
  intro t h;rw [Qp,Q3]
  cases e:t.2.2 == u.2.2 with
  | true=>exact⟨_,rfl⟩
  | false=>
   rcases Qi.mp h with z | z
   ·rw [z,beq_self_eq_true]at e;cases e
   ·exact a z
theorem GA{d0:List D}{its:List YP}{ds:List D}{vs:List V}{l:List KD}{Q:VK}(hu:X.A.units+66<Za)(I:L2.Inv X pins σ H s)(rv:L2.Vals vs its)(r:Reps X.K F H ds vs)(hk:fB d0 ds=some l)(b3:ds.length<64)
  (k:∀ p vs',H p=none->Reps X.K F H ((gI l).map (·.2)) vs'->vs'.length<=1000->Q (.ref p) (aP H p (.lst vs'))):JY (J0 X.prog X.w) X.A.in1 (newList its >>= fun l=>holding [l] (call (.builtin "list.sort") [l] []) >>= fun _=>ret l) (fun fin s'=>∃ v,fin=.done (.ret v)/\EP X pins σ Q v s') X.xe s:=by
 obtain⟨em,a0⟩:=wL hk;obtain⟨T,t1,t2,t3,t4⟩:=HP (K:=X.K) (F:=F) (H:=H) (l:=l) (by rw [em];exact r) rv;have c:∀ t∈T,jV d0 t.1.2=some t.1.1:=fun t f=>a0 t.1 (by rw [<- t1];exact JO f)
 have a9:its.length<64:=by rw [<- rv.length,<- r.length];exact b3
 have all:KeysOf (qN (T.map fun t=>(t.2.2,t.1.1))) (UX its):=fun p hp=>by
  rw [pairsOf_toList]at hp
  have:p.1∈its:=(List.of_mem_zip hp).1
  rw [<- t3]at this;obtain⟨t,f,e⟩:=QT.mp this;rw [<- e];exact HH f
 have rd:∀ t∈T,∀ g:Heap,(∀ b o,s.heap.get? b=some o->g.get? b=some o)->∃ as,UJ g t.2.2 t.1.2 as:=fun t f g B=>by
  obtain⟨y,ys,y1,_,y2⟩:=kA (c t f);obtain⟨as,z⟩:=(t4 t f).1.reads I (by rw [y1];exact u4 y2) (t4 t f).2
  exact⟨as,Reads.keeps B z⟩
 have same:∀ t∈T,∀ u∈T,t.2.2=u.2.2->t.1.1=u.1.1:=fun t f u E e=>by
  obtain⟨as,Z⟩:=rd t f s.heap fun _ _ q=>q;obtain⟨bs,z2⟩:=rd u E s.heap fun _ _ q=>q;obtain⟨x,xs,O,_,f1⟩:=kA (c t f);rw [e]at Z;have Y:t.1.2=u.1.2:=Reads.unique t.1.2 u.1.2 u.2.2 as bs (by rw [O];exact u4 f1) Z z2;have N:=c t f;have M:=c u E;rw [Y,M]at N
  exact(QJ N).symm
 refine Qa (wpAny_newList ?_ (hsz:=?_))
 rotate_left
 ·exact gG (by lia)
 show JY _ _ _ _ _ { s with heap:=s.heap.push (Uj "list" its.toArray 0) }
 have hL:(s.heap.push (Uj "list" its.toArray 0)).get? s.heap.objs.size=some (Uj "list" its.toArray 0):=Qt _ rfl
 have kp:∀ g:Heap,(∀ b o,b≠s.heap.objs.size->(s.heap.push (Uj "list" its.toArray 0)).get? b=some o->g.get? b=some o)->∀ b o,s.heap.get? b=some o->g.get? b=some o:=fun g B b o e=>
  B b o (Qw (Qo e)) (Qc _ e)
 refine Qa (Q7 (Yc slot_list_sort ⟨_,hL,rfl⟩ entry_list_sort (SN (κ:=qN (T.map fun t=>(t.2.2,t.1.1))) (kd:=tuples' (isInt (d0.headD .none))) hL all a9 (fun g B M=>?_) (fun g B=>?_) fun G p1 p2=>⟨_,rfl,Qb ⟨_,rfl,?_⟩⟩) (args_list_sort _)))
 ·
  refine Om (s:={ s with heap:=g }) (d:=d0.headD .none) rfl (fun v hv=>?_) (fun e=>by rw [e]at M;simp at M);rw [<- t3]at hv;obtain⟨t,f,e⟩:=QT.mp hv;obtain⟨x,xs,O,S,f1⟩:=kA (c t f);obtain⟨as,z⟩:=rd t f g (kp g B);rw [O]at z
  refine⟨x,xs,as,by rw [<- e];exact z,?_⟩
  cases d0 with
  | nil=>cases S
  | cons y ys=>exact(QI.mp S).1
 ·
  intro x y ka kb E' Q' N M U;obtain⟨t,f,O,g1⟩:=w5 N;obtain⟨u,E,Y,g2⟩:=w5 M;obtain⟨x1,b6,e3,S,f1⟩:=kA (c t f);obtain⟨y1,b4,e4,l2,f2⟩:=kA (c u E);obtain⟨as,Z⟩:=rd t f g (kp g B);obtain⟨bs,z2⟩:=rd u E g (kp g B);rw [e3,O]at Z;rw [e4,Y]at z2;rw [g1]at f1;rw [g2]at f2
  cases Z with
  | @tuple ax ox us n _ _ q1 q2 q3 q4=>cases z2 with
   | @tuple ay oy ws m _ _ w1 w2 w3 w4=>
    have ll:us.size=ws.size:=by
     have a1:=UM _ _ _ q4;have a2:=UM _ _ _ w4
     have a3:∀(p q:List D),gA p q=true->p.length=q.length:=by
      intro p
      induction p with
      | nil=>intro q J;cases q with
       | nil=>rfl
       | cons _ _=>cases J
      | cons p0 p ih=>intro q J;cases q with
       | nil=>cases J
       | cons q0 q=>simp [ih q (QI.mp J).2]
     have a4:=a3 _ _ (sA S l2);rw [Qs]at a1 a2;lia
    have ef:decide (us.size<ws.size)=false:=by rw [ll];simp
    refine PySem.W.kat_lt (s:={ s with heap:=g }) q1 q3 w1 w3 ?_;rw [ef];refine GQ (s:={ s with heap:=g }) (show X.A.in1.in1.units+64<Za by show X.A.units+1+1+64<Za;lia) 0 (sA S l2) f1 f2 q4 w4 (fun hb _ z r' ez=>?_) (fun e=>?_) fun _=>U
    ·cases ez
     cases d0 with
     | nil=>cases S
     | cons y0 b5=>
      have l3:=(QI.mp S).1
      cases y0 with
      | int n=>cases x1 with
       | int m=>exact⟨m,rfl⟩
       | _=>cases l3
      | _=>cases hb
    ·have e5:HT.lexLt ka kb=false:=by rw [e];exact pP _
     have:(qN (T.map fun t=>(t.2.2,t.1.1))).blt ka kb=false:=e5
     rw [this]at U;exact U
 ·
  have pm:(((J3 G).map (·.2)).toList).Perm its:=by
   have N:=Array.perm_iff_toList_perm.mp p1;have M:=N.map (·.2);rw [pairsOf_toList]at M;rw [Array.toList_map]
   have h3:(its.zip its).map (·.2)=its:=by
    rw [List.map_snd_zip];exact Qk _
   rw [h3]at M;exact M
  obtain⟨T',q1,q2⟩:=Sn pm.symm T t3;have h:∀ t∈T',t∈T:=fun t f=>q1.mem_iff.mp f;obtain⟨g1,g2⟩:=HQ (K:=X.K) (F:=F) (H:=H) (T:=T') fun t f=>t4 t (h t f)
  have lT:T'.length=its.length:=by rw [q1.length_eq,<- t3,Ql]
  have a8:(T'.map (·.1)).Pairwise Le:=by
   rw [Q2,List.pairwise_iff_getElem];intro i j hi hj b1
   have a7:(J3 G).size=T'.length:=by
    rw [p1.size_eq,JM,lT]
   have key:∀ m (hm:m<T'.length),KK (qN (T.map fun t=>(t.2.2,t.1.1))) (J3 G) m=T'[m].1.1:=fun m hm=>by
    have b0:m<(J3 G).size:=by rw [a7];exact hm
    have O:(J3 G)[m]?=some (J3 G)[m]:=getElem?_pos _ m b0;have Y:(J3 G)[m]∈(UX its).toList:=(Array.perm_iff_toList_perm.mp p1).mem_iff.mp (by simp);rw [pairsOf_toList]at Y
    have e3:(J3 G)[m].1=(J3 G)[m].2:=by
     obtain⟨n,hn,en⟩:=List.getElem_of_mem Y;rw [List.getElem_zip]at en;rw [<- en]
    have e4:(J3 G)[m].2=T'[m].2.2:=by
     have:=congrArg (fun(l:List YP)=>l[m]?) q2
     simp only [QS,Array.toList_map,QN,O]at this;rw [Qh hm]at this
     exact(QJ this).symm
    unfold KK;rw [O]
    show((qN (T.map fun t=>(t.2.2,t.1.1))).keyOf (J3 G)[m].1).getD []=_
    rw [e3,e4];obtain⟨kx,a5⟩:=HH (h T'[m] (Yr hm));obtain⟨t,f,e5,e6⟩:=w5 a5
    show((T.map fun t=>(t.2.2,t.1.1)).lookup T'[m].2.2).getD []=_
    rw [a5]
    show kx=_
    rw [<- e6];exact same t f _ (h _ (Yr hm)) e5
   have:=p2 i j (YE b1) (by rw [JM,<- lT];exact hj)
   rw [key i hi,key j hj]at this;exact this
  have a6:T'.map (·.1)=gI l:=by
   refine Bv (((q1.map (·.1)).trans (.of_eq t1)).trans (p4 l).symm) a8 (sR l) fun p hp q J e=>?_;obtain⟨t,f,rfl⟩:=QT.mp hp;obtain⟨u,E,rfl⟩:=QT.mp J;have N:=c t (h t f);have M:=c u (h u E);rw [e]at N;exact YX e (kW N M)
  have eD:(gI l).map (·.2)=T'.map (·.1.2):=by rw [<- a6,Yk];rfl
  have fresh:H s.heap.objs.size=none:=I.hok.fresh (Qk _);obtain⟨ep,b2⟩:=sortedHeap_at (out:=(J3 G).map (·.2)) hL
  have old:∀ b o,s.heap.get? b=some o->(sortedHeap (s.heap.push (Uj "list" its.toArray 0)) s.heap.objs.size its ((J3 G).map (·.2))).get? b=some o:=fun b o e=>by
   have lt:=Qo e;rw [sortedHeap_old (Qw lt) (by rw [size_push'];exact Y6 lt)];exact Qc _ e
  have lv:(T'.map (·.2.1)).length<=1000:=by rw [Ql,lT];lia
  refine⟨.ref s.heap.objs.size,_,I.laid (t':=s.toks) (o:=.lst (T'.map (·.2.1))) old (Qk _) ?_,rfl,k _ _ fresh (by rw [eD];exact g1) lv⟩
  refine⟨gG lv,T'.map (·.2.2),ep,g2,?_⟩
  rw [b2,q2]
theorem sS{d0:List D}{a:JW}{ds:List D}{vs:List V}{l:List KD}{Q:VK}(i:X.A.units+66<Za)(I:L2.Inv X pins σ H s)(j:cN X.K H a vs)(r:Reps X.K F H ds vs)(n:fB d0 ds=some l)(d:ds.length<64)
  (k:∀ p vs',H p=none->Reps X.K F H ((gI l).map (·.2)) vs'->vs'.length<=1000->Q (.ref p) (aP H p (.lst vs'))):JY (J0 X.prog X.w) X.A (call (.builtin "sorted") [.ref a]) (EP X pins σ Q) X.xe s:=by
 obtain⟨c,f,g,h⟩:=I.list j;refine Calls.call_function_entry kind_sorted plain_sorted entry_sorted (args_sorted1 _) ?_;unfold Builtin.«sorted»;refine Qa (m:=checkCount "sorted" 1 1 _) (Qb (Qa (collect_list g.isList ?_ (hsz:=?_))))
 ·refine GA i (I.kept (h':=(s.heap.push (Uj "list" #[] 0)).update s.heap.objs.size (ZS (·++c.toArray))) (t':=s.toks) fun b o e=>?_) f r n d k;rw [Heap.get?_update_ne _ _ _ _ (Qw (Qo e))];exact Qc _ e
 ·rw [<- f.length];exact h
end
end SD
namespace DL
open PySem.Spec L2 SD
theorem zU{X:Cx}(n:X.A.units+66<Za):fJ X (.builtin "sorted") (jA X.K jD):=fun m s t H v w Q I j o=>by
 obtain⟨F,x,q,z,R,b,k⟩:=o;unfold jD at b
 split at b
 ·cases b
  cases R with
  | cons i R2=>
   cases R2
   cases i with
   | @lst a vs _ h1 r1=>
    obtain⟨u,rfl,f⟩:=i4 j;cases f;exact sS (d0:=[]) (l:=[]) n I h1.sq r1 rfl (by simp) fun p e d g _=>k _ _ _ (aH.frozen d) (aR.newLst d g)
 ·rename_i d0 h;by_cases c:h.length<63
  ·rw [if_pos c]at b;obtain⟨l,r,b⟩:=aJ b;cases b
   cases R with
   | cons i R2=>
    cases R2
    cases i with
    | @lst a vs _ h1 r1=>
     obtain⟨u,rfl,f⟩:=i4 j;cases f;exact sS (d0:=d0) n I h1.sq r1 r (by simp;lia) fun p e d g _=>k _ _ _ (aH.frozen d) (aR.newLst d g)
  ·rw [if_neg c]at b;cases b
 ·cases b
end DL
namespace ZL
open PySem.Spec L2 DL
def xE(K:PySem.W.Frag)(a b:JW):It:=
 ⟨fun i H=>∃ xs ys x y,cN K H a xs/\cN K H b ys/\xs[i]?=some x/\ys[i]?=some y,
  fun i H v c=>∃ p,H p=none/\v=.ref p/\∃ x y,c=aP H p (.tup [x,y])/\(∀ xs,cN K H a xs->xs[i]?=some x)/\∀ ys,cN K H b ys->ys[i]?=some y,
  fun i H=>∃ xs ys,cN K H a xs/\cN K H b ys/\(xs.length<=i ∨ ys.length<=i)⟩
theorem wA{X:Cx}{pins:List (JW × Obj)}{f:L2.St}{H H':Hp}{s:JV}{ch:List JW}{h':Heap}{tk:Nat}(I:L2.Inv X pins f H s)(g:∀ b∈ch,gR X pins H b)(k:∀ b o,b∉ch->s.heap.get? b=some o->h'.get? b=some o)
  (l:∀ b o,s.heap.get? b=some o->H' b=H b) (d:∀ b o,H b=some o->H' b=some o) (c:cY X.prog X.w H' h'):L2.Inv X pins f H' { s with heap:=h',toks:=tk }:=by
 refine I.step (g':=s.gens) (d':=s.drawn) (ch:=ch) (fun b j=>?_) (fun b o _ _ a e _=>k b o a e) (fun b o _ _ a e _=>⟨o.slots,k b o a e⟩) (fun b o _ e n=>by rw [l b o e];exact n)
  (fun b o a e=>⟨o,k b o a e⟩) (fun b A e=>d _ _ e) (fun b o u e=>d _ _ e) (fun b B e=>⟨#[],by rw [d _ _ e];simp⟩) (fun m i=>?_) c I.bare
 ·obtain⟨_,v,_,t,q,p⟩:=g b j
  exact⟨t,v,q,p⟩
 ·obtain⟨o,x,y,h,r⟩:=i
  exact⟨o,x,y,k _ o (fun z=>(g _ z).2.1 rfl) h,r⟩
theorem T7{P:JZ}{w:J1}{K:PySem.W.Frag}{Z:List Expr}{x1}{S:Pos}(a b z TI TO n m:JW)(D:ZipApart z TI TO n m a b):
  jP P w K (.Tuple Z x1 S) (xE K a b) [z,TI,TO,n,m] z (fun i h=>IsZip h z TI TO .none/\IsPair h TI (.ref n) (.ref m)/\(∃ u v,IsPair h TO u v)/\h.IsListIter n a i/\h.IsListIter m b i) where
 mem:=by simp
 obj:=fun i h r c g=>by
  obtain⟨A,t,⟨u,v,B⟩,⟨o4,e4,_,d4⟩,⟨o5,e5,_,d5⟩⟩:=r;rcases Qi.mp g with rfl | g
  ·exact⟨_,A,fun v z=>by have Q:Data.fields _=Data.cell v:=z;cases Q⟩
  rcases Qi.mp g with rfl | g
  ·exact⟨_,t,fun v z=>by have Q:Data.seq _ _=Data.cell v:=z;cases Q⟩
  rcases Qi.mp g with rfl | g
  ·exact⟨_,B,fun v z=>by have Q:Data.seq _ _=Data.cell v:=z;cases Q⟩
  rcases Qi.mp g with rfl | g
  ·exact⟨o4,e4,fun v z=>by rw [d4]at z;cases z⟩
  rcases Qi.mp g with rfl | g
  ·exact⟨o5,e5,fun v z=>by rw [d5]at z;cases z⟩
  cases g
 keep:=fun i h h' r k=>by
  obtain⟨A,t,⟨u,v,B⟩,O,N⟩:=r
  exact⟨k z (by simp) _ A,k TI (by simp) _ t,⟨u,v,k TO (by simp) _ B⟩,O.at fun o e=>k n (by simp) o e,N.at fun o e=>k m (by simp) o e⟩
 item:=by
  intro X hP hw hK g i T s σ H E I M r hg;subst hP hw hK;obtain⟨xs,ys,x,y,ha,hb,hx,hy⟩:=hg;obtain⟨A,t,⟨u,v,B⟩,O,N⟩:=r;obtain⟨a7,rv,pl,_⟩:=I.list ha;obtain⟨a0,F,G,_⟩:=I.list hb;obtain⟨xu,ex,rx⟩:=rv.get hx;obtain⟨yu,ey,ry⟩:=F.get hy;refine wpAny_pyNext_zip_item D A t B O N pl.isList G.isList (x:=xu) (y:=yu) (by simpa using ex) (by simpa using ey) fun h' a1 a2 a3 a4 a5 a6 hk=>⟨_,rfl,?_⟩;refine wpAny_letOwnedTupleGo_zip (s:={ s with heap:=h' }) a1 fun h'' z1 sb=>?_;have J:∀ c o,c≠z->h'.get? c=some o->h''.get? c=some o:=fun c o j e=>sb.extBut c o j e;have hn:H s.heap.objs.size=none:=I.hok.fresh (Qk _);have old:∀ c o,s.heap.get? c=some o->c≠s.heap.objs.size:=fun c o e=>Qw (Qo e);have zT:s.heap.objs.size≠z:=(old z _ A).symm
  have U:∀ c o,c∉[z,TI,TO,n,m]->s.heap.get? c=some o->h''.get? c=some o:=fun c o j e=>
   J c o (fun q=>j (by simp [q])) (hk c o (fun q=>j (by simp [q])) (fun q=>j (by simp [q])) (fun q=>j (by simp [q])) (fun q=>j (by simp [q])) e)
  have l:∀ c o,H c=some o->c∉[z,TI,TO,n,m]:=fun c o e f=>by
   have:=(M c f).1
   rw [this]at e;cases e
  have t2:IsPair h'' TI (.ref n) (.ref m):=J _ _ D.TIz (hk _ _ D.TIz D.TITO D.TIi1 D.TIi2 t);have t3:IsPair h'' TO xu yu:=J _ _ D.TOz a2;have t4:h''.IsListIter n a (i+1):=a3.at fun o e=>J _ o D.i1z e;have t5:h''.IsListIter m b (i+1):=a4.at fun o e=>J _ o D.i2z e
  have a8:cY X.prog X.w (aP H s.heap.objs.size (.tup [x,y])) h'':=fun c o e=>by
   by_cases Y:c=s.heap.objs.size
   ·subst Y;rw [cQ]at e;cases e
    exact⟨gG (by simp),[xu,yu],.cons rx (.cons ry .nil),⟨_,J _ _ zT a5,rfl,0,rfl⟩⟩
   ·rw [aU Y]at e
    refine(I.hok c o e).stay (fun d v hd q=>U d v ?_ q) (fun d q=>by rw [aU (eE q hn)];exact q) fun d xs q=>by rw [aU (eE q hn)];exact q
    rcases hd with rfl | hd
    ·exact l _ _ e
    ·exact l _ _ hd
  refine⟨.ref s.heap.objs.size,_,wA (s:=s) (h':=h'') (tk:=s.toks) I M U (fun c o e=>aU (old c o e)) (fun c o e=>by rw [aU (eE e hn)];exact e) a8,rfl,⟨_,hn,rfl,x,y,rfl,fun b0 h'=>by rw [I.list_inj h' ha];exact hx,fun a9 h'=>by rw [I.list_inj h' hb];exact hy⟩,⟨z1,t2,⟨_,_,t3⟩,t4,t5⟩,fun c f=>?_⟩
  ·have e:=(M c f).1
   have nT:c≠s.heap.objs.size:=by
    rcases Qi.mp f with rfl | f
    ·exact old _ _ A
    rcases Qi.mp f with rfl | f
    ·exact old _ _ t
    rcases Qi.mp f with rfl | f
    ·exact old _ _ B
    rcases Qi.mp f with rfl | f
    ·obtain⟨_,e',_⟩:=O;exact old _ _ e'
    rcases Qi.mp f with rfl | f
    ·obtain⟨_,e',_⟩:=N;exact old _ _ e'
    cases f
   rw [aU nT];exact e
 done:=by
  intro X hP hw hK g i T s σ H E I M r hg;subst hP hw hK;obtain⟨xs,ys,ha,hb,p⟩:=hg;obtain⟨A,t,⟨u,v,B⟩,O,N⟩:=r;obtain⟨a7,rv,pl,_⟩:=I.list ha;obtain⟨a0,F,G,_⟩:=I.list hb;have l1:=rv.length;have l2:=F.length
  refine wpAny_pyNext_zip_end (I.ok.hd g) D A t B O N pl.isList G.isList (by
   rcases p with p | p
   ·left;simp;lia
   ·right;simp;lia) fun h' hk=>⟨rfl,?_⟩
  have U:∀ c o,c∉[z,TI,TO,n,m]->s.heap.get? c=some o->h'.get? c=some o:=fun c o j e=>
   hk c o (fun q=>j (by simp [q])) (fun q=>j (by simp [q])) (fun q=>j (by simp [q])) (fun q=>j (by simp [q])) e
  have l:∀ c o,H c=some o->c∉[z,TI,TO,n,m]:=fun c o e f=>by
   have:=(M c f).1
   rw [this]at e;cases e
  refine wA (s:=s) (h':=h') (tk:=s.toks) I M U (fun _ _ _=>rfl) (fun _ _ e=>e) fun c o e=>?_
  refine(I.hok c o e).stay (fun d v hd q=>U d v ?_ q) (fun d q=>q) fun d xs q=>q
  rcases hd with rfl | hd
  ·exact l _ _ e
  ·exact l _ _ hd
 self:=fun _ _ _ _ _ r h=>wpAny_pyIter_zip r.1 h
theorem fY{x y:Nat}(h:x≠y):@Ne JW x y:=h
theorem Vi{n a b:Nat}(d:a<n)(c:b<n):ZipApart (n+4) (n+2) (n+3) n (n+1) a b:=
 ⟨fY (by lia),fY (by lia),fY (by lia),fY (by lia),fY (by lia),fY (by lia),fY (by lia),fY (by lia),fY (by lia),fY (by lia),fY (by lia),fY (by lia),fY (by lia),fY (by lia),fY (by lia),fY (by lia),fY (by lia),fY (by lia)⟩
def qM(K:PySem.W.Frag)(f:TA):TI:=fun d H R=>f d H fun e c=>∃ a b,e=[.ref a,.ref b]/\(∃ xs,cN K c a xs)/\(∃ ys,cN K c b ys)/\R (xE K a b) c
theorem Rr{X:Cx}{l:List Expr}{x1}{i:Pos}{a b:Expr}{o:TA}{p pos:Pos}(U:Gl X "zip")(S:X.mg "zip"=none)(W:PA X [a,b] o)(hs:JX [a,b] X.env=[(false,Zk a X.env),(false,Zk b X.env)]:=by rfl)(k:JX [b] X.env=[(false,Zk b X.env)]:=by rfl):
  PI X (.Tuple l x1 i) (.Call (.Name "zip" p) [a,b] [] pos) (qM X.K o):=by
 intro g s n H R I h;refine Call_ (kS I U S boot_zip (YR (bA (W pos g s n H _ I h) fun us d ⟨vs,z,I1,B,F⟩=>?_) (by rw [hs,k]) (by rw [k];rfl)));obtain⟨y,w,e,⟨xs,Q⟩,⟨ys,O⟩,q⟩:=F;subst e
 cases B with
 | cons r m=>
  cases m with
  | cons E m=>
   cases m;cases r;cases E;obtain⟨N,rv,t,_⟩:=I1.list Q;obtain⟨M,A,j,_⟩:=I1.list O;refine call_zip_2 t.isList j.isList fun v x a2 a3 Z Y a6 T=>?_;have I2:L2.Inv X g n z { d with heap:=v }:=I1.kept (t':=d.toks) T;refine wpAny_pyIter_zip (s:={ d with heap:=v }) x ?_
   have J:y<d.heap.objs.size:=by obtain⟨_,e,_⟩:=t.isList;exact Qo e
   have G:w<d.heap.objs.size:=by obtain⟨_,e,_⟩:=j.isList;exact Qo e
   refine⟨_,[d.heap.objs.size+4,d.heap.objs.size+2,d.heap.objs.size+3,d.heap.objs.size,d.heap.objs.size+1],_,_,z,rfl,I2,T7 y w (d.heap.objs.size+4) (d.heap.objs.size+2) (d.heap.objs.size+3) d.heap.objs.size (d.heap.objs.size+1) (Vi J G),⟨x,a2,⟨_,_,a3⟩,Z,Y⟩,fun c f=>?_,q⟩
   have u:d.heap.objs.size<=c:=by
    rcases Qi.mp f with rfl | f
    ·exact Yx _ _
    rcases Qi.mp f with rfl | f
    ·exact Yx _ _
    rcases Qi.mp f with rfl | f
    ·exact Yx _ _
    rcases Qi.mp f with rfl | f
    ·exact Qk _
    rcases Qi.mp f with rfl | f
    ·exact Yx _ _
    cases f
   exact I1.fpOk u (I1.hok.fresh u)
end ZL
namespace DL
open PySem.Spec L2 ZL
def BF:List D->Option (List D)
 | [.list xs,.list ys]=>some (List.zipWith (fun x y=>.tuple [x,y]) xs ys)
 | _=>none
theorem OW{K:PySem.W.Frag}{F:JW->Prop}{H:Hp}{a b:JW}{vs us:List V}{ds es:List D}(G:kG K F H a vs)(s:Reps K F H ds vs)(E:kG K F H b us)(r:Reps K F H es us):lC K F H (List.zipWith (fun x y=>.tuple [x,y]) ds es) (xE K a b):=fun J Q T z i=>by
 have f:=G.stay T;have e:=E.stay T;have j:=s.stay T;have h:=r.stay T
 refine⟨fun d hd=>?_,fun B=>⟨vs,us,f.sq,e.sq,?_⟩⟩
 ·rw [List.getElem?_zipWith]at hd
  cases c:ds[i]? with
  | none=>rw [c]at hd;cases hd
  | some x=>
   cases g:es[i]? with
   | none=>rw [c,g]at hd;cases hd
   | some y=>
    rw [c,g]at hd;cases hd;obtain⟨v,o,I⟩:=j.get c;obtain⟨u,n,R2⟩:=h.get g
    refine⟨⟨vs,us,v,u,f.sq,e.sq,o,n⟩,fun w O q=>?_⟩
    obtain⟨p,m,rfl,N,M,rfl,A,t⟩:=q;have l:=A vs f.sq;have k:=t us e.sq;rw [o]at l;cases l;rw [n]at k;cases k
    exact⟨J,aH.fresh m,aR.newTup m (.cons I (.cons R2 .nil))⟩
 ·rw [List.length_zipWith]at B;rw [<- j.length,<- h.length];lia
theorem Na{X:Cx}{d:List Expr}{x1}{c:Pos}{a b:Expr}{h:aA->Option (List D)}{p pos:Pos}(l:Gl X "zip")(j:X.mg "zip"=none)(m:DA X [a,b] h)(hs:JX [a,b] X.env=[(false,Zk a X.env),(false,Zk b X.env)]:=by rfl)(g:JX [b] X.env=[(false,Zk b X.env)]:=by rfl):
  DI X (.Tuple d x1 c) (.Call (.Name "zip" p) [a,b] [] pos) (fun ρ=>(h ρ).bind BF):=
 AS (Rr l j m hs g) fun v H R i=>by
  obtain⟨F,e,ρ,y,S,q,k⟩:=i;obtain⟨w,n,q⟩:=aJ q;unfold BF at q
  split at q
  ·cases q
   refine⟨F,e,ρ,_,S,n,fun t s x u o=>?_⟩
   cases o with
   | cons r f=>
    cases r with
    | @lst a' vs' _ h1 r1=>
     cases f with
     | cons r f=>
      cases r with
      | @lst b' us' _ h2 r2=>
       cases f
       exact⟨a',b',rfl,⟨_,h1.sq⟩,⟨_,h2.sq⟩,k t s _ u (OW h1 r1 h2 r2)⟩
  ·cases q
end DL
namespace DL
open PySem.Spec PySem.SeqAt L2 CL SD ZL
def cutD(xs:List D)(a b:Option Int):List D:=(xs.drop (HT.sIx xs.length 0 a)).take (HT.sIx xs.length xs.length b-HT.sIx xs.length 0 a)
def LU(K:PySem.W.Frag)(g:aA->Option (Option Int)):TO:=fun a H Q=>mQ K a H g fun F o=>∀ F' H',aH F F' H H'->Q o H'
def DO(X:Cx)(e:Option Expr)(g:aA->Option (Option Int)):Prop:=PO X e (LU X.K g)
def qP:aA->Option (Option Int):=fun _=>some none
def oE(g:aA->Option D):aA->Option (Option Int):=fun a=>(g a).bind fun d=>(Cr d).bind fun i=>some (some i)
section
variable {X:Cx}{a b e:Expr}{ga:aA->Option D}{pos p p2:Pos}{lo hi:Option Expr}{gl gh:aA->Option (Option Int)}
theorem GE{o:Option Expr}{t t':TO}(h:PO X o t)(m:∀ σ H Q,t' σ H Q->t σ H Q):PO X o t':=fun a s σ H Q I q=>h a s σ H Q I (m σ H Q q)
theorem EU:DO X none qP:=GE Rv fun c H Q b=>by
 obtain⟨F,a,d,o,S,q,k⟩:=b;cases q;exact k F H (aH.refl F H)
theorem EV(h:DE X e ga):DO X (some e) (oE ga):=GE (Rw h) fun p H Q c=>by
 obtain⟨F,a,b,o,S,q,k⟩:=c;obtain⟨d,g,q⟩:=aJ q;obtain⟨i,f,q⟩:=aJ q;cases q
 exact⟨F,a,b,d,S,g,fun m l v n j=>⟨i,Tn j f,k m l n⟩⟩
theorem Reps.cut{K:PySem.W.Frag}{F:JW->Prop}{H:Hp}{ds:List D}{vs:List V}(r:Reps K F H ds vs)(a b:Option Int):Reps K F H (cutD ds a b) (lH vs a b):=by
 unfold cutD lH;rw [r.length]
 exact(r.drop _).take _
def zC:D->String
 | .none=>"NoneType"
 | .bool _=>"bool"
 | .int _=>"int"
 | .str _=>"str"
 | .list _=>"list"
 | .tuple _=>"tuple"
 | .dict _=>"dict"
def tT(T:String)(d:D):Bool:=zC d == T || (T == "int" && zC d == "bool")
def Bl:D->Bool
 | .dict _=>true
 | _=>false
def tO(T:String)(b:aA->Option D):aA->Option D:=fun a=>(b a).bind fun d=>if Bl d=true then none else some (.bool (tT T d))
theorem Oo(K:PySem.W.Frag)(T:String)(a:T="list" ∨ T="tuple" ∨ T="int" ∨ T="bool" ∨ T="str" ∨ T="dict")(d:D):PySem.W.kitOne K (.type (zC d)) (.type T)=some (tT T d):=by
 rcases a with rfl | rfl | rfl | rfl | rfl | rfl <;> cases d <;> (first | rfl | (unfold PySem.W.kitOne;with_unfolding_all rfl) | decide +kernel)
theorem MS{T:String}(A:T="list" ∨ T="tuple" ∨ T="int" ∨ T="bool" ∨ T="str" ∨ T="dict"):fJ X (.builtin "isinstance") (fun xs H Q=>∃(F:JW->Prop) (d:D) (x:V),aR X.K F H d x/\Bl d=false/\xs=[x,.ty T]/\Q (.bl (tT T d)) H):=by
 intro f s p H xs B Q I v h;obtain⟨F,d,x,R,m,rfl,q⟩:=h;obtain⟨u,r,rfl,c,w⟩:=Mk v
 cases(show r=ZR T from w)
 have ok:=Oo X.K T A d;have fin:∀ g,EP X f p Q (.bool (tT T d)) { s with toks:=g }:=fun g=>⟨.bl _,H,I.tok g,rfl,q⟩
 cases R with
 | non=>cases(show u=J6 from c);exact PySem.W.kia_one PySem.W.kitx_none I.kIn Ux ok (fun z=>nomatch z) fin
 | dct _ _ _ _ _=>cases m
 | exn _ _ _=>cases m
 | bl b=>cases(show u=Value.bool b from c);exact PySem.W.kia_one PySem.W.kitx_bool I.kIn Ux ok (fun z=>nomatch z) fin
 | int i=>obtain⟨t,e⟩:=(show ∃ t,u=Value.int i t from c);cases e;exact PySem.W.kia_one PySem.W.kitx_int I.kIn Ux ok (fun z=>nomatch z) fin
 | str y=>obtain⟨t,e⟩:=(show ∃ t,u=Value.str y t from c);cases e;exact PySem.W.kia_one PySem.W.kitx_str I.kIn Ux ok (fun z=>nomatch z) fin
 | @tup a vs ds h1 r1=>
  cases(show u=J5 a from c)
  obtain⟨j,_,⟨o,l,k,_⟩,_⟩:=I.tuple h1;exact PySem.W.kia_one PySem.W.kitx_tuple I.kIn ⟨o,l,k⟩ ok (fun z=>nomatch z) fin
 | @lst a vs ds h1 r1=>
  cases(show u=J5 a from c)
  obtain⟨j,_,⟨o,n,l,k,_⟩,_⟩:=I.list h1.sq;exact PySem.W.kia_one PySem.W.kitx_list I.kIn ⟨o,l,k⟩ ok (fun z=>nomatch z) fin
theorem ML:Zb "isinstance"=some (.builtin "isinstance"):=by decide +kernel
theorem Aa{T:String}{a:Str}{b:Pos}(w:T="list" ∨ T="tuple" ∨ T="int" ∨ T="bool" ∨ T="str" ∨ T="dict")(t:Gl X "isinstance")(s:X.mg "isinstance"=none)(j:Gl X a)(i:X.mg a=none)(g:Zb a=some (.type T))(r:a≠"__name__")(u:DE X e ga)
  (hs:JX [e,.Name a b] X.env=(false,Zk e X.env)::JX [.Name a b] X.env:=by rfl) (h:JX [.Name a b] X.env=(false,Zk (.Name a b) X.env)::JX [] X.env:=by rfl) (l:(a == ("__debug__":Str))=false:=by decide)
  (hpl:(Zi pos (JX [.Name a b] X.env)).any (·.1)=false:=by rfl):DE X (.Call (.Name "isinstance" p) [e,.Name a b] [] pos) (tO T ga):=
 eM (AN (MS w) t s ML (j9 u (j9 (RV (v:=.ty T) j i g rfl r l) mG h) hs) (he:=hs) (hpl:=hpl)) fun E H Q o=>by
  obtain⟨F,f,n,d,S,q,k⟩:=o;obtain⟨x,y,q⟩:=aJ q;by_cases c:Bl x=true
  ·rw [if_pos c]at q;cases q
  ·rw [if_neg c]at q;cases q
   exact⟨F,f,n,x,S,y,fun m A v B z=>⟨m,x,v,z,by simpa using c,rfl,k m A _ B (.bl _)⟩⟩
end
def Ey(a:Zz)(oN N':List Str)(scope:Zz)(inner:List (Option Nat)):Bool:=
 scope.kind == .function && scope.names.all (fun x=>x.2 != .cell) && scope.names.all (fun x=>x.2 != .local || scope.names.lookup x.1 == some .local) &&
 scope.names.all (fun x=>x.2 != .free || (scope.names.lookup x.1 == some .free && (a.names.lookup x.1 == some .cell || a.names.lookup x.1 == some .free))) && inner.length == N'.length &&
 (List.range inner.length).all fun i=>match inner[i]? with
  | some (some j)=>match N'[i]? with
   | some x=>oN[j]? == some x && scope.names.lookup x == some .free
   | none=>false
  | _=>true
theorem fL{X:Cx}{N':List Str}{scope:Zz}{inner:List (Option Nat)}(a:Zz)(oN:List Str)(k:X.env.scope=a)(g:X.N=oN)(h:Ey a oN N' scope inner=true):lY X N' scope inner:=by
 unfold Ey at h;simp only [Qy]at h;obtain⟨⟨⟨⟨⟨r,q⟩,p⟩,o⟩,n⟩,m⟩:=h
 refine⟨Yv r,fun x b e=>?_,fun x b e=>?_,fun x b e=>?_,Yv n,fun i j e=>?_⟩
 ·have:=QM.mp q x b
  rw [e]at this;cases this
 ·have:=QM.mp p x b
  rw [e]at this;rcases Bool.or_eq_true_iff.mp this with z | z
  ·cases z
  ·exact Yv z
 ·have:=QM.mp o x b
  rw [e]at this;rcases Bool.or_eq_true_iff.mp this with z | z
  ·cases z
  ·obtain⟨d,c⟩:=QI.mp z
   refine⟨Yv d,?_⟩
   rw [k];rcases Bool.or_eq_true_iff.mp c with z | z
   ·exact .inl (Yv z)
   ·exact .inr (Yv z)
 ·have f:i<inner.length:=(Qe.mp e).1
  have:=QM.mp m i (QR.mpr f)
  rw [e]at this;dsimp only at this
  split at this
  ·rename_i x l;obtain⟨d,c⟩:=QI.mp this
   exact⟨x,l,by rw [g];exact Yv d,Yv c⟩
  ·cases this
theorem dY{k:Nat}{A:Around}(r:cT k A):A.units+64<Za:=by have:=r.un;lia
theorem dJ{k:Nat}{A:Around}(r:cT k A):A.units+65<Za:=by have:=r.un;lia
theorem iK{k:Nat}{A:Around}(r:cT k A):A.units+66<Za:=by have:=r.un;lia
theorem pN{K:PySem.W.Frag}{F:JW->Prop}{H:Hp}:∀ ns:List Int,Reps K F H (ns.map J4) (ns.map V.int)
 | []=>.nil
 | n::ns=>.cons (.int n) (pN ns)
theorem dF{P:JZ}{w:J1}{K:PySem.W.Frag}{mg:Str->Option YP}{base:Heap}{x a:Str}{b:Zj}{f:JW}{d:Zg}{N c:List Str}{k n m:Nat}{g:aA->Option aK}{G:List D->Option D}(j:G=cF m g)(e:c.length=n)(h:N.length=m)(F:kF K x a b f d)(S:cB N c (aW b))
  (i:∀(cdv:YP) (A:Around) (outer:List Env) (s:JV) (H:Hp) (E:XK),cT k (A.deeper (envOfC a (aW b) s.heap.objs.size f cdv))->
   fT (hX aQ P w K mg base N a (aW b) f cdv A outer s H E).nox (eY b) g):aN P w K mg base aQ (k+1) f d c (aY K n G):=by
 subst e h j;exact IP F S i
end DL
namespace SL
open PySem.Spec L2 CL DL SD ST
section
variable {X:Cx}{pins:List (JW × Obj)}{σ:L2.St}{H:Hp}{s:JV}
theorem i1(I:Inv X pins σ H s){b:JW}{k:List Int}(h:bQ X.K H b (k.map V.int)):TK X.prog X.w s.heap k b:=by
 obtain⟨a,c,j,l⟩:=I.tuple h;obtain⟨o,f,e,n,d⟩:=j
 refine⟨o,a.toArray,n,f,e,d,?_⟩
 show ItemsAre (intKind X.prog X.w) k a
 clear h d f e l;generalize hxs:k.map V.int=g at c
 induction c generalizing k with
 | nil=>
  cases k with
  | nil=>exact .nil
  | cons _ _=>simp at hxs
 | @cons x u g us r t ih=>
  cases k with
  | nil=>simp at hxs
  | cons i k=>
   rw [Qp,List.cons.injEq]at hxs;obtain⟨p,m⟩:=hxs;subst p;obtain⟨q,rfl⟩:=r;exact .cons (intKind_is _ _ _ _) (ih m)
abbrev qA:=List (List Int)->Hp->Prop
abbrev n8:=L2.St->Hp->qA->Prop
def Cl(X:Cx)(pins:List (JW × Obj))(d:L2.St)(Q:qA)(u:YP)(c:JV):Prop:=
 ∃ a o ks H',u=.ref a/\Inv X ((a,o)::pins) d H' c/\cW X.prog X.w (fun v=>∃ b,∃ xs:List Int,v=.ref b/\bQ X.K H' b (xs.map V.int)) c.heap a ks/\(∀ p∈pins,p.1≠a)/\Q ks H'
def qD(X:Cx)(e:Expr)(t:n8):Prop:=
 ∀(pins:List (JW × Obj)) (s:JV) (σ:L2.St) (H:Hp) (Q:qA),Inv X pins σ H s->t σ H Q->JY (J0 X.prog X.w) X.A (Zk e X.env) (Cl X pins σ Q) X.xe s
def Ma(K:PySem.W.Frag)(t:TA):n8:=fun d H Q=>t d H fun e c=>∃(a:JW) (xs:List V) (kl:List (List Int)),e=[.ref a]/\(cN K c a xs ∨ bQ K c a xs)/\xs.length<=75/\xs.length=kl.length/\(∀(i:Nat) (x:V),xs[i]?=some x->∃ b,x=.ref b/\bQ K c b ((kl.getD i []).map V.int))/\∀ ks:List (List Int),ks.Nodup->(∀ k,k∈ks ↔ k∈kl)->Q ks c
theorem pW{x:Str}{e:Expr}{p pos:Pos}{t:TA}(hc:X.calm=true)(hu:X.A.units+64<Za)(hg:Gl X x)(hm:X.mg x=none)(m:Zb x=some (.type "set"))(ha:PA X [e] t)(hn:x≠"__name__":=by decide)(T:(x == ("__debug__":Str))=false:=by decide)
  (he:JX [e] X.env=(false,Zk e X.env)::JX [] X.env:=by rfl) (hpl:(Zi pos (JX [] X.env)).any (·.1)=false:=by rfl):
  qD X (.Call (.Name x p) [e] [] pos) (Ma X.K t):=by
 intro d s M H Q I h;refine YB (kS I hg hm m ?_ hn T);refine YR (bA (ha pos d s M H _ I h) fun us s1 ⟨vs,J,I1,r1,q1⟩=>?_) he hpl;obtain⟨a,l,kl,rfl,B,a0,F,S,q⟩:=q1;obtain⟨u,rfl,ru⟩:=i4 r1;cases ru
 have go:∀ c:List YP,Vals l c->(∀(f:List (List Int)) (O:YP->JV->Prop),(∀ i v,c.toArray[i]?=some v->(∃ b,∃ l:List Int,v=.ref b/\bQ X.K J b (l.map V.int))/\∃ b,v=.ref b/\TK X.prog X.w s1.heap (f.getD i []) b)->
   c.toArray.size<=75->(∀(n:Heap) (N:Nat) r,cW X.prog X.w (fun v=>∃ b,∃ l:List Int,v=.ref b/\bQ X.K J b (l.map V.int)) n s1.heap.objs.size r->lE r (fun i=>f.getD i []) c.toArray.size->
   (∀ b o,s1.heap.get? b=some o->n.get? b=some o)->O (.ref s1.heap.objs.size) { s1 with heap:=n,toks:=N })->JY (J0 X.prog X.w) X.A (call (.type "set") [.ref a]) O X.xe s1)->
   JY (J0 X.prog X.w) X.A (call (.type "set") [.ref a]) (Cl X d M Q) X.xe s1:=by
  intro c g cs
  have z:c.toArray.size=kl.length:=by rw [QH,<- g.length,F]
  refine cs kl _ (fun i v m=>?_) (by rw [z];lia) fun n N r S' K' keep=>?_
  ·have y:c[i]?=some v:=by simpa using m
   have hi:i<l.length:=by
    have:=(Qe.mp y).1
    rw [g.length];exact this
   obtain⟨u,e1,e2⟩:=Vals.get g (Qh hi);rw [y]at e1;cases e1;obtain⟨b,e3,e4⟩:=S i _ (Qh hi);rw [e3]at e2;cases e2
   exact⟨⟨b,_,rfl,e4⟩,b,rfl,i1 I1 e4⟩
  ·obtain⟨o,es,ep,t,z1,z2,z3,z4,z5,z6,Z,z8⟩:=S';have I2:Inv X d M J { s1 with heap:=n,toks:=N }:=I1.kept keep
   have I3:Inv X ((s1.heap.objs.size,o)::d) M J { s1 with heap:=n,toks:=N }:=by
    refine I2.pins_of fun p E=>?_;rcases Qi.mp E with rfl | E
    ·refine⟨z1,I1.hok.fresh (Qk _),YF I1.lt,I1.nofs (Qk _),fun v m=>?_⟩
     rw [z3]at m;exact nomatch m
    ·exact I2.pin p (Qu _ E)
   refine⟨_,o,r,J,rfl,I3,⟨o,es,ep,t,z1,z2,z3,z4,z5,z6,Z,z8⟩,fun p E=>Qw (Qo (I1.pin p (Qu _ E)).1),q r Z fun k=>(K' k).trans ?_⟩
   rw [z];constructor
   ·rintro⟨j,G,rfl⟩
    show kl.getD j []∈kl
    rw [Yb,Qh G];exact Yr G
   ·intro hk;obtain⟨j,G⟩:=Q5 hk
    refine⟨j,(Qe.mp G).1,?_⟩
    show kl.getD j []=k
    rw [Yb,G];rfl
 rcases B with B | B
 ·obtain⟨c,g,pl,_⟩:=I1.list B;exact go c g fun f O Y W U=>Mp (kl:=f) (I1.ok.hd hc) (by lia) pl.isList Y W U
 ·obtain⟨c,g,it,hz⟩:=I1.tuple B;exact go c g fun f O Y W U=>Mo (kl:=f) (I1.ok.hd hc) (by lia) it Y W U
theorem Se{x:Str}{e:Expr}{p pos:Pos}{t:n8}(w:Gl X x)(v:X.mg x=none)(m:Zb x=some (.builtin "len"))(y:qD X e t)(r:x≠"__name__":=by decide)(d:(x == ("__debug__":Str))=false:=by decide)
  (he:JX [e] X.env=(false,Zk e X.env)::JX [] X.env:=by rfl) (hpl:(Zi pos (JX [] X.env)).any (·.1)=false:=by rfl):
  PE X (.Call (.Name x p) [e] [] pos) (fun σ H Q=>t σ H fun ks H1=>ks.length<=1000/\Q (.int ks.length) H1):=by
 intro b s σ H Q I h;refine YB (kS I w v m ?_ r d);refine Jq (Q:=?_) ?_ he hpl;rw [he]
 show JY _ _ (spliced ((false,Zk e X.env)::Zi pos (JX [] X.env))) _ _ s
 refine Calls.spliced_cons (bA (y b s σ H _ I h) fun u s1 f=>?_);obtain⟨a,o,ks,H1,z,I1,S,_,J,q⟩:=f;refine Calls.spliced_nil ?_;subst z;obtain⟨G,A,K,t,l,k,j,i,F,g,E,B⟩:=S
 have c:A.size=ks.length:=by rw [<- g.length,Qs]
 have I2:Inv X b σ H1 s1:=I1.pins_of fun p n=>I1.pin p (Qu _ (Qg _ n));exact call_len_set l k j (i.fits (by simp)) (by rw [c];exact Int.lt_of_le_of_lt (show(ks.length:Int)<=1000 by lia) (by decide)) ⟨.int ks.length,H1,I2.tok _,⟨_,by rw [c]⟩,q⟩
end
def nL:List D->Option (List (List Int))
 | []=>some []
 | .tuple ds::r=>(eA ds).bind fun b=>(nL r).bind fun a=>some (b::a)
 | _=>none
theorem GR{K:PySem.W.Frag}{F:JW->Prop}{H:Hp}:∀{ds:List D}{vs:List V}{kl:List (List Int)},Reps K F H ds vs->nL ds=some kl->ds.length=kl.length/\∀(i:Nat) (x:V),vs[i]?=some x->∃ b,x=.ref b/\bQ K H b ((kl.getD i []).map V.int):=by
 intro ds
 induction ds with
 | nil=>intro vs kl r h;cases r;cases h;exact⟨rfl,fun i x e=>by simp at e⟩
 | cons d ds k=>
  intro vs kl r h
  cases r with
  | cons f r=>
   cases d with
   | tuple n=>
    cases f with
    | tup a c=>
     obtain⟨p,m,h⟩:=aJ h;obtain⟨o,l,h⟩:=aJ h;cases h;obtain⟨j,g⟩:=k r l
     refine⟨by simp [j],fun i x e=>?_⟩
     cases i with
     | zero=>
      cases e
      refine⟨_,rfl,?_⟩
      rw [Ft c m]at a;exact a
     | succ i=>exact g i x (by simpa using e)
   | _=>cases h
def CU(K:PySem.W.Frag)(g:aA->Option (List (List Int))):n8:=fun a H Q=>mQ K a H g fun F b=>∀ F' H' (ks:List (List Int)),aH F F' H H'->ks.Nodup->(∀ k,k∈ks ↔ k∈b)->Q ks H'
def sZ(X:Cx)(e:Expr)(g:aA->Option (List (List Int))):Prop:=qD X e (CU X.K g)
def oS:List D->Option (List (List Int))
 | [.list xs]=>if xs.length<=75 then nL xs else none
 | [.tuple xs]=>if xs.length<=75 then nL xs else none
 | _=>none
def qJ(b:aA->Option (List D)):aA->Option (List (List Int)):=fun a=>(b a).bind oS
def dd:List (List Int)->List (List Int)
 | []=>[]
 | k::r=>if k∈r then dd r else k::dd r
theorem sD:∀{l:List (List Int)}{k:List Int},k∈dd l ↔ k∈l
 | [],k=>by simp [dd]
 | x::r,k=>by
  unfold dd;split
  ·rename_i h;rw [sD,Qi];constructor
   ·exact .inr
   ·rintro(rfl | a)
    ·exact h
    ·exact a
  ·rw [Qi,Qi,sD]
theorem uR:∀ l:List (List Int),(dd l).Nodup
 | []=>Jv
 | x::r=>by
  unfold dd;split
  ·exact uR r
  ·rename_i h;exact Yu.mpr ⟨fun q=>h (sD.mp q),uR r⟩
theorem NO{a kl:List (List Int)}(b:a.Nodup)(h:∀ k,k∈a ↔ k∈kl):a.length=(dd kl).length:=
 ((List.perm_ext_iff_of_nodup b (uR kl)).mpr fun k=>(h k).trans sD.symm).length_eq
def D9(g:aA->Option (List (List Int))):aA->Option D:=fun b=>(g b).bind fun a=>if a.length<=1000 then some (.int (dd a).length)else none
section
variable {X:Cx}{e:Expr}{p pos:Pos}{gr:aA->Option (List D)}{g:aA->Option (List (List Int))}
theorem ps_mono{e:Expr}{t t':n8}(h:qD X e t)(m:∀ σ H Q,t' σ H Q->t σ H Q):qD X e t':=fun a s σ H Q I q=>h a s σ H Q I (m σ H Q q)
theorem Ah{x:Str}(E:X.calm=true)(y:X.A.units+64<Za)(B:Gl X x)(z:X.mg x=none)(w:Zb x=some (.type "set"))(G:DA X [e] gr)(b:x≠"__name__":=by decide)(l:(x == ("__debug__":Str))=false:=by decide)
  (he:JX [e] X.env=(false,Zk e X.env)::JX [] X.env:=by rfl) (hpl:(Zi pos (JX [] X.env)).any (·.1)=false:=by rfl):
  sZ X (.Call (.Name x p) [e] [] pos) (qJ gr):=
 ps_mono (pW E y B z w G b l he hpl) fun K H Q v=>by
  obtain⟨F,d,u,n,S,q,k⟩:=v;obtain⟨J,I,q⟩:=aJ q
  refine⟨F,d,u,J,S,I,fun s r M t o=>?_⟩
  unfold oS at q
  split at q
  ·rename_i h;by_cases c:h.length<=75
   ·rw [if_pos c]at q
    cases o with
    | cons R2 m=>
     cases m
     cases R2 with
     | @lst a us _ h1 r1=>
      obtain⟨g,f⟩:=GR r1 q
      exact⟨a,us,n,rfl,.inl h1.sq,by rw [<- r1.length];exact c,by rw [<- r1.length,g],f,fun i b j=>k s r i t b j⟩
   ·rw [if_neg c]at q;cases q
  ·rename_i h;by_cases c:h.length<=75
   ·rw [if_pos c]at q
    cases o with
    | cons R2 m=>
     cases m
     cases R2 with
     | @tup a us _ h1 r1=>
      obtain⟨g,f⟩:=GR r1 q
      exact⟨a,us,n,rfl,.inr h1,by rw [<- r1.length];exact c,by rw [<- r1.length,g],f,fun i b j=>k s r i t b j⟩
   ·rw [if_neg c]at q;cases q
  ·cases q
theorem NR{x:Str}(s:Gl X x)(r:X.mg x=none)(o:Zb x=some (.builtin "len"))(t:sZ X e g)(b:x≠"__name__":=by decide)(i:(x == ("__debug__":Str))=false:=by decide)
  (he:JX [e] X.env=(false,Zk e X.env)::JX [] X.env:=by rfl) (hpl:(Zi pos (JX [] X.env)).any (·.1)=false:=by rfl):
  DE X (.Call (.Name x p) [e] [] pos) (D9 g):=
 eM (Se s r o t b i he hpl) fun z H Q m=>by
  obtain⟨F,a,l,d,S,q,k⟩:=m;obtain⟨f,u,q⟩:=aJ q;by_cases c:f.length<=1000
  ·rw [if_pos c]at q;cases q
   refine⟨F,a,l,f,S,u,fun w v n y b j=>⟨?_,?_⟩⟩
   ·have:n.length<=f.length:=Yq b fun k h=>(j k).mp h
    lia
   ·rw [NO b j];exact k w v _ y (.int _)
  ·rw [if_neg c]at q;cases q
end
end SL
namespace ST
open PySem.SetTable
section
variable {prog:JZ}{w:J1}{A:Around}{E:YP->JV->Prop}{s:JV}
theorem OI{r:JW}{Q:Bool->JV->Prop}(c:s.TypeIs (.ref r) "set")(h:Q false s):JY (J0 prog w) A (Builtin.List.listLengthHint (.ref r)) Q E s:=by
 unfold Builtin.List.listLengthHint;refine Qa (JA c PySem.F.slot_set_len.lookup ?_);generalize hid:("set.__len__":String)=a
 wp_delta
 rw [show splitId a=some ("set","__len__")from by subst hid;decide +kernel];subst hid;refine Qa (Jg (T:="set") (b:=true) c (by rw [Uf];kernel_rfl) ?_);refine wpAny_ite_split (fun z=>absurd z (by decide)) fun _=>wpAny_ite_split (fun _=>?_) fun z=>absurd (by decide +kernel) z;exact Qa (Y2 c (Qb h))
theorem SW(a:JW)(o:Obj)(es:Array (Int × YP))(b:Nat)(t:SetTable):PySem.W.KdlSrc prog w "set" a a es.size (fun i v=>∃ x,(gT w a b es)[i]?=some x/\v=x.2) (fun h=>iL w h a o es b t) where
 type:=fun s S=>⟨o,S.get,S.ex.1⟩
 there:=fun h S=>⟨Qo S.get,Qo S.get⟩
 keep:=fun h f S c=>S.at (c a (.inl rfl) o S.get)
 notList:=by decide
 notTuple:=by decide
 hint:=fun A E s Q S h=>OI ⟨o,S.get,S.ex.1⟩ h
 iter:=fun A s d S=>⟨_,_,fun E Q e=>N6 S e,Walks.set d _ a (Qw (Qo S.get)) o es b t,⟨0,fun _=>MH _ S.up,⟨_,Qt _ rfl,rfl,rfl⟩,S.at (Qc _ S.get)⟩⟩
theorem OX{w:J1}{a:JW}{d:Nat}{es:Array (Int × YP)}{b:Array YP}(h:ItemsOf (fun i v=>∃ x,(gT w a d es)[i]?=some x/\v=x.2) b es.size):b.toList=(gT w a d es).toList.map (·.2):=by
 refine List.ext_getElem? fun i=>?_;rw [QS,QN,QN];by_cases l:i<es.size
 ·have c:i<b.size:=by rw [h.1];exact l
  obtain⟨x,f,e⟩:=h.2 i _ (QK c);rw [f,QK c,e];rfl
 ·rw [Yt (by rw [h.1];lia),Yt (by rw [wD];lia)];rfl
theorem bV.perm{h:Heap}{es a:List (Int × YP)}(p:List.Perm es a):∀{ks:List (List Int)},bV prog w h es ks->∃ ks',bV prog w h a ks'/\List.Perm ks' ks:=by
 induction p with
 | nil=>intro ks X;exact⟨ks,X,.refl _⟩
 | cons x _ i=>
  intro ks X
  cases X with
  | cons d r=>
   obtain⟨ks',n,q⟩:=i r
   exact⟨_,.cons d n,q.cons _⟩
 | swap x y l=>
  intro ks X
  cases X with
  | cons d r=>cases r with
   | cons j r=>exact⟨_,.cons j (.cons d r),.swap _ _ _⟩
 | trans _ _ c b=>
  intro ks X;obtain⟨o,m,f⟩:=c X;obtain⟨g,k,e⟩:=b m
  exact⟨g,k,e.trans f⟩
theorem ItemsAre.unique:∀{k k':List Int}{vs:List YP},ItemsAre (intKind prog w) k vs->ItemsAre (intKind prog w) k' vs->k=k'
 | _,_,_,.nil,h=>by cases h;rfl
 | _,_,_,.cons h1 r1,h=>by
  cases h with
  | cons c b=>
   obtain⟨f,d⟩:=Ud h1;obtain⟨e,a⟩:=Ud c;rw [d]at a;cases a;rw [ItemsAre.unique r1 b]
theorem TK.unique{h:Heap}{k k':List Int}{a:JW}(x:TK prog w h k a)(y:TK prog w h k' a):k=k':=by
 obtain⟨o,e,n,g,_,hd,i⟩:=x;obtain⟨j,d,l,b,_,c,f⟩:=y;rw [g]at b;cases b;rw [hd]at c;cases c;exact ItemsAre.unique i f
def Io(prog:JZ)(w:J1)(V:YP->Prop)(h:Heap)(a:JW)(o:Obj)(b:List (List Int)):Prop:=
 ∃ es ep t,iL w h a o es ep t/\bV prog w h es.toList b/\b.Nodup/\∀ e∈es.toList,V e.2
end
end ST
namespace SL
open PySem.Spec L2 CL DL SD ST
def fP(k:List Int):D:=.tuple (k.map J4)
section
variable {X:Cx}{pins:List (JW × Obj)}{σ:L2.St}{H:Hp}{s:JV}
abbrev VT(K:PySem.W.Frag)(H:Hp)(v:YP):Prop:=∃ b,∃ xs:List Int,v=.ref b/\bQ K H b (xs.map V.int)
def Ip(X:Cx)(pins:List (JW × Obj))(c:L2.St)(Q:qA)(u:YP)(b:JV):Prop:=
 ∃ a o ks H',u=.ref a/\Inv X ((a,o)::pins) c H' b/\Io X.prog X.w (VT X.K H') b.heap a o ks/\Q ks H'
def Im(X:Cx)(e:Expr)(t:n8):Prop:=
 ∀(pins:List (JW × Obj)) (s:JV) (σ:L2.St) (H:Hp) (Q:qA),Inv X pins σ H s->t σ H Q->JY (J0 X.prog X.w) X.A (Zk e X.env) (Ip X pins σ Q) X.xe s
def BH(X:Cx)(e:Expr)(g:aA->Option (List (List Int))):Prop:=Im X e (CU X.K g)
theorem Ee{F:JW->Prop}(I:Inv X pins σ H s):∀{es:List (Int × YP)}{ks:List (List Int)},bV X.prog X.w s.heap es ks->(∀ e∈es,VT X.K H e.2)->∃ vs:List V,Reps X.K F H (ks.map fP) vs/\Vals vs (es.map (·.2))
 | _,_,.nil,_=>⟨[],.nil,.nil⟩
 | _,_,.cons (k:=k) (b:=b) h1 r,hv=>by
  obtain⟨vs,d,c⟩:=Ee (F:=F) I r fun e f=>hv e (Qg _ f);obtain⟨h,xs,g,a⟩:=hv _ Qd;cases g
  have:k=xs:=h1.unique (i1 I a)
  subst this
  exact⟨.ref b::vs,.cons (.tup a (pN k)) d,.cons rfl c⟩
end
theorem Tu{d0:List D}{ds a:List D}(p:List.Perm ds a):∀{l:List KD},fB d0 ds=some l->∃ l',fB d0 a=some l'/\List.Perm l' l:=by
 induction p with
 | nil=>intro l h;exact⟨l,h,.refl _⟩
 | cons x _ q=>
  intro l h;obtain⟨k,g,h⟩:=aJ h;obtain⟨r,f,h⟩:=aJ h;cases h;obtain⟨l',c,b⟩:=q f
  exact⟨(k,x)::l',by unfold fB;rw [g,c];rfl,b.cons _⟩
 | swap x y v=>
  intro l h;obtain⟨k,g,h⟩:=aJ h;obtain⟨r,f,h⟩:=aJ h;cases h;obtain⟨o,t,h⟩:=aJ f;obtain⟨i,s,h⟩:=aJ h;cases h
  exact⟨(o,x)::(k,y)::i,by unfold fB;rw [t];unfold fB;rw [g,s];rfl,.swap _ _ _⟩
 | trans _ _ e d=>
  intro l h;obtain⟨u,c,b⟩:=e h;obtain⟨n,m,j⟩:=d c
  exact⟨n,m,j.trans b⟩
theorem SU{d0:List D}{ds d:List D}{l c:List KD}(h:fB d0 ds=some l)(h':fB d0 d=some c)(p:List.Perm c l):gI c=gI l:=by
 refine Bv (((p4 c).trans p).trans (p4 l).symm) (sR c) (sR l) fun a i b g e=>?_;have r:=(wL h').2;have f:=r a ((p4 c).mem_iff.mp i);have j:=r b ((p4 c).mem_iff.mp g);rw [e]at f;exact YX e (kW f j)
def zD(g:aA->Option (List (List Int))):aA->Option D:=fun a=>(g a).bind fun b=>jD [.list ((dd b).map fP)]
section
variable {X:Cx}{e:Expr}{p pos:Pos}{g:aA->Option (List (List Int))}
theorem NT{x:Str}(hc:X.calm=true)(hu:X.A.units+66<Za)(hg:Gl X x)(hm:X.mg x=none)(hv:Zb x=some (.builtin "sorted"))(ha:BH X e g)(hn:x≠"__name__":=by decide)(U:(x == ("__debug__":Str))=false:=by decide)
  (he:JX [e] X.env=(false,Zk e X.env)::JX [] X.env:=by rfl) (hpl:(Zi pos (JX [] X.env)).any (·.1)=false:=by rfl):
  DE X (.Call (.Name x p) [e] [] pos) (zD g):=by
 intro i s Z H Q I ⟨F,y,ρ,d,S,q,k⟩;obtain⟨h,e1,q⟩:=aJ q;refine YB (kS I hg hm hv ?_ hn U);refine Jq (Q:=?_) ?_ he hpl;rw [he]
 show JY _ _ (spliced ((false,Zk e X.env)::Zi pos (JX [] X.env))) _ _ s
 refine Calls.spliced_cons (bA (ha i s Z H (fun n J=>n.Nodup/\(∀ k,k∈n ↔ k∈h)/\∃ B,aH F B H J) I ⟨F,y,ρ,h,S,e1,fun B J n E1 M N=>⟨M,N,B,E1⟩⟩) fun u s1 zz=>?_);obtain⟨a,o,n,J,eu,I1,⟨G,Y,t,S1,X1,M,v1⟩,_,N,B,E1⟩:=zz;refine Calls.spliced_nil ?_;subst eu;refine Calls.call_function_entry kind_sorted plain_sorted entry_sorted (args_sorted1 _) ?_;unfold Builtin.«sorted»;have K:List.Perm n (dd h):=(List.perm_ext_iff_of_nodup M (uR h)).mpr fun k=>(N k).trans sD.symm
 have a0:G.size=(dd h).length:=by rw [<- Qs,X1.length,K.length_eq]
 have O:(dd h).length<64:=by
  cases c:dd h with
  | nil=>decide
  | cons T j=>
   rw [c]at q;have f:(if(j.map fP).length<63 then _ else none)=some d:=q;by_cases z:(j.map fP).length<63
   ·rw [Ql]at z;simp;lia
   ·rw [if_neg z]at f;cases f
 refine Qa (m:=checkCount "sorted" 1 1 _) (Qb (Qa (PySem.W.kdu_collect (SW a o G Y t) (by simp [I1.ok.hd hc]) S1 (gG (by lia)) fun h' tk a3 hk r=>?_)));have I2:Inv X i Z J { s1 with heap:=h',toks:=tk }:=(I1.pins_of fun p E=>I1.pin p (Qu _ (Qg _ E))).kept hk;obtain⟨a2,X2,p2⟩:=(X1.mono fun k b x=>x.at fun o e=>hk b o e).perm (pV X.w a Y G).symm;obtain⟨vs,r1,r2⟩:=Ee (F:=B) I2 X2 fun e he=>v1 e ((pV X.w a Y G).mem_iff.mp he);rw [<- OX r]at r2
 have v:∃ d0 l,fB d0 ((dd h).map fP)=some l/\d=.list ((gI l).map (·.2)):=by
  cases c:dd h with
  | nil=>rw [c]at q;cases q;exact⟨[],[],rfl,rfl⟩
  | cons T j=>
   rw [c]at q;have f:(if(j.map fP).length<63 then(fB (T.map J4) ((T::j).map fP)).bind fun l=>some (Zp ((gI l).map (·.2)))else none)=some d:=q;by_cases z:(j.map fP).length<63
   ·rw [if_pos z]at f;obtain⟨l,e2,f⟩:=aJ f;cases f
    exact⟨_,l,e2,rfl⟩
   ·rw [if_neg z]at f;cases f
 obtain⟨d0,l,f1,rfl⟩:=v;obtain⟨l',f2,f3⟩:=Tu ((p2.trans K).map fP).symm f1;refine GA hu I2 r2 r1 f2 (by rw [Ql,(p2.trans K).length_eq];exact O) fun p a1 E r' _=>?_;rw [SU f1 f2 f3]at r';exact k _ _ _ (E1.trans (aH.frozen E)) (aR.newLst E r')
end
end SL
namespace ST
open PySem.SetTable
section
variable {prog:JZ}{w:J1}{A:Around}{E:YP->JV->Prop}{s:JV}{V:YP->Prop}
theorem Ib{a:JW}{o:Obj}{es:Array (Int × YP)}{e:Nat}{t:SetTable}{b:List JW}{d:Option JW}{Q:Array (Int × YP)->JV->Prop}(S:iL w s.heap a o es e t)(h:Q (gT w a e es) s):
  JY (J0 prog w) A (setWalkUnseen a b d) Q E s:=by
 unfold setWalkUnseen;refine Qa (QU S.get S.data S.fits ?_);dsimp only;refine Qa (vR ?_)
 have c:(w.params.followText "set-order" || (t.led && t.plain) || decide (es.size<=1))=true:=by
  rw [S.led,S.plain,i7]
  cases w.params.followText "set-order" <;> rfl
 rw [c,if_pos rfl];exact Ia S h
theorem v7{id:String}{a:JW}{o:Obj}{es:Array (Int × YP)}{b:Nat}{t:SetTable}{Q:Unit->JV->Prop}(c:s.heap.get? a=some o)(hd:o.data=.set es b t)(d:t.fits es.size=true)(h:Q () s):JY (J0 prog w) A (Builtin.Frozenset.unchanged id a b) Q E s:=by
 unfold Builtin.Frozenset.unchanged setEpoch;refine Qa (Qa (QU c hd d (Qb ?_)));rw [if_neg (by simp)];exact Qb h
theorem cW.setAt{h:Heap}{a:JW}{d:List (List Int)}(S:cW prog w V h a d):∃ o es ep t,iL w h a o es ep t/\gL t (es.toList.map (·.1))/\bV prog w h es.toList d/\∀ e∈es.toList,V e.2:=by
 obtain⟨o,es,ep,t,k,j,i,b,c,g,l,f⟩:=S
 exact⟨o,es,ep,t,⟨k,j,i,b.fits (by simp),b.up,c.1,c.2⟩,b,g,f⟩
structure Ie(prog:JZ)(w:J1)(V:YP->Prop)(s:JV)(ka kb:List (List Int))(rest:List (Int × YP))(s':JV)(h':Heap)(kc kd krest:List (List Int)):Prop where
 eq:s'={ s with heap:=h' }
 kp:∀ b o,s.heap.get? b=some o->h'.get? b=some o
 SC:mP prog w V h' s.heap.objs.size kc
 Xr:bV prog w s.heap rest krest
 pk:List.Perm (kd++krest) kb
 lc:kc.length<=63
 me:∀ k,k∈kc ↔ k∈ka/\k∉kd
structure Ig(prog:JZ)(w:J1)(V:YP->Prop)(s:JV)(ka kb:List (List Int))(rest:List (Int × YP))(s':JV)(h':Heap)(kr kd krest:List (List Int)):Prop where
 eq:s'={ s with heap:=h' }
 kp:∀ b o,s.heap.get? b=some o->h'.get? b=some o
 SR:cW prog w V h' s.heap.objs.size kr
 Xr:bV prog w s.heap rest krest
 pk:List.Perm (kd++krest) ka
 me:∀ k,k∈kr ↔ k∈kd/\k∉kb
 vr:∀ e∈rest,V e.2
theorem Nd{id:String}{a b:JW}{ka kb:List (List Int)}{Q:YP->JV->Prop}(b1:a≠b)(hu:A.units<Za)(SA:cW prog w V s.heap a ka)(SB:cW prog w V s.heap b kb)(a5:ka.length<=63)
  (h:∀ h' r ks,s.heap.objs.size<=r->(∀ b o,s.heap.get? b=some o->h'.get? b=some o)->mP prog w V h' r ks->(∀ k,k∈ks ↔ k∈ka/\k∉kb)->Q (.ref r) { s with heap:=h' }):
  JY (J0 prog w) A (Builtin.Frozenset.difference id a (.ref b)) Q E s:=by
 obtain⟨oa,ea,pa,ta,Sa,Ta,Xa,Va⟩:=SA.setAt;obtain⟨ob,eb,pb,tb,Sb,Tb,Xb,Vb⟩:=SB.setAt;have a8:s.TypeIs (.ref a) "set":=⟨oa,Sa.get,Sa.ex.1⟩;have a7:s.TypeIs (.ref b) "set":=⟨ob,Sb.get,Sb.ex.1⟩;have a2:=SA.nodup;unfold Builtin.Frozenset.difference;refine Qa (vE a7 ?_);simp only [Yw,Qq,if_false,Bool.false_and];unfold ZN;refine Qa (Qb ?_);simp only [if_true];refine Qa (wV Sb.get Sb.data Sb.fits ?_);refine Qa (wV Sa.get Sa.data Sa.fits ?_);by_cases c:ea.size / 4 > eb.size
 ·rw [if_pos c];refine Qa (JJ ?_);refine Qa (NE SA (by lia) fun O G W SR pr=>?_);have lb:=Qo Sb.get;have Sb1:=Sb.at (W _ _ Sb.get);have a0:({ s with heap:=O }:JV).TypeIs (.ref b) "set":=⟨ob,Sb1.get,Sb.ex.1⟩;refine Qa (Qb ?_);refine Qa (Q7 ?_);unfold Builtin.Frozenset.differenceUpdate;rw [if_neg (by simpa using Qw lb)];refine Qa (vE a0 ?_);rw [if_pos rfl];unfold ZN;refine Qa (Qb ?_);refine Qa (wV (s:={ s with heap:=O }) Sb1.get Sb1.data Sb1.fits ?_);obtain⟨oR,eR,pR,tR,SatR,TR,XR,VR⟩:=SR.setAt;refine Qa (wV (s:={ s with heap:=O }) SatR.get SatR.data SatR.fits ?_)
  have a9:eR.size=ea.size:=by rw [<- Qs,XR.length,pr.length_eq,<- Xa.length,Qs]
  rw [if_neg (by lia)];dsimp only;refine Qa (wpAny_setEpoch_of (s:={ s with heap:=O }) Sb1.get Sb1.data Sb1.fits ?_);refine Qa (Q7 (Qa (Ib (s:={ s with heap:=O }) Sb1 ?_)));obtain⟨ko,Xo,po⟩:=Xb.perm (pV w b pb eb).symm;rw [<- Ua];refine Qa (Y0 _ (fun g _ K=>∃ h' I kd d,Ie prog w V s ka kb g K h' I kd d) _ ?_ ?_ _ _ ?_)
  ·rintro x g _ K ⟨h',I,kd,d,rfl,m,S,u,B,lc,mk⟩
   cases u with
   | @cons k bx _ d Z u=>
    have H:TK prog w h' k bx:=Z.at fun o e=>m bx o e
    have y:List.Perm ((kd++[k])++d) kb:=by rw [QL];exact B
    dsimp only;refine Qa (Q7 (Nf (s:={ s with heap:=h' }) hu S H (fun hn=>?_) (fun j kc2 U S2 F=>?_) (by lia)))
    ·have Sb2:=Sb.at (m _ _ Sb.get);refine Qa (v7 (s:={ s with heap:=h' }) Sb2.get Sb2.data Sb2.fits (Qb ?_))
     refine⟨h',I,kd++[k],d,rfl,m,S,u,y,lc,fun v=>?_⟩
     rw [mk v,Qx,Qm];constructor
     ·rintro⟨f,l⟩
      exact⟨f,fun z=>z.elim l fun z=>hn (z ▸ (mk v).mpr ⟨f,l⟩)⟩
     ·rintro⟨f,l⟩
      exact⟨f,fun z=>l (.inl z)⟩
    ·have p:∀ b o,s.heap.get? b=some o->j.get? b=some o:=fun b o e=>(U.2 b (Qw (Qo e))).trans (m b o e);have Sb2:=Sb.at (p _ _ Sb.get);refine Qa (v7 (s:={ s with heap:=j }) Sb2.get Sb2.data Sb2.fits (Qb ?_))
     have nd:(k::kc2).Nodup:=by
      obtain⟨_,_,_,_,_,_,_,_,_,_,z7,_⟩:=S;exact F.nodup_iff.mp z7
     have ll:=F.length_eq;rw [QE]at ll
     refine⟨j,kc2,kd++[k],d,rfl,p,S2,u,y,by lia,fun v=>?_⟩
     rw [Qx,Qm]
     have m1:v∈I ↔ v=k ∨ v∈kc2:=by rw [F.mem_iff,Qi]
     constructor
     ·intro hx
      have:=(mk v).mp (m1.mpr (.inr hx))
      exact⟨this.1,fun z=>z.elim this.2 fun z=>(Yu.mp nd).1 (z ▸ hx)⟩
     ·rintro⟨f,l⟩
      rcases m1.mp ((mk v).mpr ⟨f,fun z=>l (.inl z)⟩)with z | z
      ·exact absurd (.inr z) l
      ·exact z
  ·rintro _ K ⟨h',I,kd,d,rfl,m,S,u,B,lc,mk⟩;cases u;rw [QO]at B;refine Qb ?_
   have fin:∀ j kc2,(∀ b o,s.heap.get? b=some o->j.get? b=some o)->mP prog w V j s.heap.objs.size kc2->List.Perm kc2 I->JY (J0 prog w) A (pure (J5 s.heap.objs.size)) Q E { s with heap:=j }:=fun j kc2 p S2 F=>
    Qb (h j _ kc2 (Qk _) p S2 fun k=>by rw [F.mem_iff,mk k,B.mem_iff])
   obtain⟨o,es,ep,t,ho,a6,hd,T,hp,X,a4,hV⟩:=_root_.id S;have J:t.fits es.size=true:=T.fits (by simp)
   have b0:es.size=I.length:=by rw [<- X.length,Qs]
   unfold setTidy;refine Qa (QU (s:={ s with heap:=h' }) ho hd J ?_);dsimp only;by_cases td:t.tooManyDummies=true
   ·rw [if_pos td];obtain⟨M,m1,m2,m3,m4⟩:=Ss (n:=es.size) (by lia);refine GL (s:={ s with heap:=h' }) (V:=V) ho a6 hd J hp X a4 hV m1 m2 m3 m4 (by rw [Yf];lia) fun j kc2 U S2 F=>?_;exact fin j kc2 (fun b o e=>(U.2 b (Qw (Qo e))).trans (m b o e)) S2.toD F
   ·rw [if_neg td];exact Qb (fin h' I m S (.refl _))
  ·exact⟨O,G,[],ko,rfl,W,SR.toD,Xo,po,by rw [pr.length_eq];exact a5,fun k=>by rw [pr.mem_iff];simp⟩
 ·rw [if_neg c];refine Qa (oX a8 (Qa (Fh ?_)));refine Qa (Qb ?_);have Y:∀ b o,s.heap.get? b=some o->(s.heap.push (rW w)).get? b=some o:=fun b o e=>Qc _ e;have Sa0:=Sa.at (Y _ _ Sa.get);refine Qa (wpAny_setEpoch_of Sa0.get Sa0.data Sa0.fits ?_);refine Qa (Q7 (Qa (Ib (s:={ s with heap:=s.heap.push (rW w) }) Sa0 ?_)));obtain⟨ko,Xo,po⟩:=Xa.perm (pV w a pa ea).symm;rw [<- Ua];refine Qa (Y0 _ (fun g _ K=>∃ h' G kd d,Ig prog w V s ka kb g K h' G kd d) _ ?_ ?_ _ _ ?_)
  ·rintro x g _ K ⟨h',G,kd,d,rfl,m,SR,u,B,mk,vr⟩
   cases u with
   | @cons k bx _ d Z u=>
    have H:TK prog w h' k bx:=Z.at fun o e=>m bx o e;have Sb':=Sb.at (m _ _ Sb.get);have Sa':=Sa.at (m _ _ Sa.get)
    have a1:k∉kd:=by
     have:=B.nodup_iff.mpr a2
     have:=List.perm_middle.nodup_iff.mp this
     exact fun hh=>(Yu.mp this).1 (QG _ hh)
    have y:List.Perm ((kd++[k])++d) ka:=by rw [QL];exact B
    refine Qa (Q7 (Qa (En (s:={ s with heap:=h' }) hu Sb'.get Sb'.data Tb.toD (Xb.mono fun k b x=>x.at fun o e=>m b o e) H (fun i hi=>?_) fun hn=>?_)))
    ·refine Qa (Qb ?_);simp only [Option.isSome_some,Yw,Qq,if_false];refine Qb ?_;refine Qa (v7 (s:={ s with heap:=h' }) Sa'.get Sa'.data Sa'.fits (Qb ?_))
     refine⟨h',G,kd++[k],d,rfl,m,SR,u,y,fun v=>?_,fun e N=>vr e (Qg _ N)⟩
     rw [mk v,Qx,Qm];constructor
     ·rintro⟨f,l⟩;exact⟨.inl f,l⟩
     ·rintro⟨f | f,l⟩
      ·exact⟨f,l⟩
      ·exact absurd (f ▸ QP hi) l
    ·refine Qa (Qb ?_);simp only [Option.isSome_none,Bool.not_false,if_true]
     have lk:G.length<=63:=by
      have O:G.length<=kd.length:=Yq SR.nodup fun k Z=>((mk k).mp Z).1;have j:=B.length_eq;rw [Qf]at j;lia
     refine Qa (Dt (s:={ s with heap:=h' }) hu SR H (vr _ Qd) (by lia) (fun hm=>absurd ((mk k).mp hm).1 a1) fun _ j a3 U S2 F=>?_);have p:∀ b o,s.heap.get? b=some o->j.get? b=some o:=fun b o e=>(U.2 b (Qw (Qo e))).trans (m b o e);have Sa2:=Sa.at (p _ _ Sa.get);refine Qb (Qa (v7 (s:={ s with heap:=j }) Sa2.get Sa2.data Sa2.fits (Qb ?_)))
     refine⟨j,a3,kd++[k],d,rfl,p,S2,u,y,fun v=>?_,fun e N=>vr e (Qg _ N)⟩
     rw [F.mem_iff,Qi,mk v,Qx,Qm];constructor
     ·rintro(f | ⟨f,l⟩)
      ·exact⟨.inr f,f ▸ hn⟩
      ·exact⟨.inl f,l⟩
     ·rintro⟨f | f,l⟩
      ·exact .inr ⟨f,l⟩
      ·exact .inl f
  ·rintro _ K ⟨h',G,kd,d,rfl,m,SR,u,B,mk,vr⟩;cases u;rw [QO]at B;refine Qb (Qb (h h' _ G (Qk _) m SR.toD fun k=>?_));rw [mk k,B.mem_iff]
  ·refine⟨_,[],[],ko,rfl,Y,⟨_,#[],0,_,Qt _ rfl,⟨rfl,rfl,rfl⟩,rfl,⟨.inl rfl,rfl,rfl,List.Pairwise.nil,fun x hx=>by simp [SetTable.fresh]at hx,(by show 0 * 5<7 * 3;decide),fun q hq=>by simp at hq⟩,⟨rfl,rfl⟩,.nil,Jv,fun e N=>by simp at N⟩,Xo,po,fun k=>by simp,fun e N=>Va e ((pV w a pa ea).mem_iff.mp N)⟩
end
end ST
namespace SL
open PySem.Spec L2 CL DL SD
section
variable {X:Cx}{e st:Expr}{p2 pos:Pos}
end
end SL
namespace TL
open PySem.Spec L2 HT
section
variable {prog:JZ}{w:J1}{A:Around}{E:YP->JV->Prop}{s:JV}
theorem Mr{t b:JW}{ws:List YP}{Q:YP->JV->Prop}(p:IsTup s.heap t #[])(q:IsTup s.heap b ws.toArray)(h:Q (.ref b) s):JY (J0 prog w) A (Zs .Add (.ref t) (.ref b)) Q E s:=by
 obtain⟨⟨r,dd,k,m⟩,i,j,n,hd⟩:=id p;obtain⟨⟨l,f,g,e⟩,a,d,o,c⟩:=id q
 simp only at j hd d c
 subst j hd d c;exact concat_meets ⟨_,i,rfl⟩ ⟨_,a,rfl⟩ noFill_tuple_add seq_tuple_add PySem.F.slot_tuple_add PySem.F.entry_tuple_add (PySem.F.args_tuple_add_2 _ _) (tuple_addW0 t b #[] ws.toArray n o dd f m e rfl) ⟨i,a,h⟩
theorem Ms{t b:JW}{vs ws:List YP}{Q:YP->JV->Prop}(p:s.heap.IsList t vs.toArray)(q:s.heap.IsList b ws.toArray)(hz:vs.length+ws.length<=sizeLine)
  (h:Q (.ref s.heap.objs.size) { s with heap:=s.heap.push { cls:=.type "list",data:=.seq (vs++ws).toArray } }):JY (J0 prog w) A (Zs .Add (.ref t) (.ref b)) Q E s:=by
 obtain⟨⟨cls,dd,data,m⟩,j,k,n,hd⟩:=id p;obtain⟨⟨l,g,i,f⟩,a,d,o,c⟩:=id q
 simp only at k hd d c
 subst k hd d c
 have e:vs.toArray++ws.toArray=(vs++ws).toArray:=by simp
 refine concat_meets ⟨_,j,rfl⟩ ⟨_,a,rfl⟩ noFill_list_add seq_list_add PySem.F.slot_list_add PySem.F.entry_list_add (PySem.F.args_list_add_2 _ _) (list_addW t b vs.toArray ws.toArray n o dd g m f (by simpa using hz)) ⟨j,a,?_⟩;rw [e];exact h
theorem Vh{t c:JW}{a:Array YP}{i g:YP}{j l:Option Int}{Q:YP->JV->Prop}(b:IsTup s.heap t a)(hs:s.heap.IsSliceOf c i g .none)(n:U0 i j)(m:U0 g l)
  (k:sIx a.size 0 j=0/\sIx a.size a.size l=a.size) (h:Q (.ref t) s):JY (J0 prog w) A (getItem (.ref t) (.ref c)) Q E s:=by
 obtain⟨o,d,e,p⟩:=id hs;have f:s.TypeIs (.ref c) "slice":=⟨o,d,e⟩;unfold getItem
 try with_reducible refine Q7 ?_
 first | refine Qa (Qb ?_) | skip
 refine Qa (wpAny_sequenceKey b.typeIs (by decide) ?_)
 refine Qa (Yp (name:=Zu "__getitem__") b.typeIs YV
  (Yc YV b.typeIs entry_tuple_getitem ?_ (args_tuple_getitem _ _)))
 show JY _ _ (Builtin.Tuple.tupleItemsOf (.ref t) >>= _) _ _ s
 refine Qa (tupleItemsOf_ b (Qa (Y2 f ?_)));rw [if_pos (by decide)];refine Qa (Gw hs n m ?_);rw [k.1,k.2]
 show JY _ _ (if(((0:Nat):Int) == 0 && (1:Int) == 1 && (a.size-0) == a.size)=true then _ else _) _ _ s
 rw [if_pos (by simp)];unfold Builtin.Tuple.tupleIsExact;refine Qa (Qa (Y2 b.typeIs (Qb ?_)));rw [if_pos (by decide)];exact Qa (JJ (Qb ⟨_,rfl,Qb h⟩))
end
end TL
namespace SL
open PySem.Spec L2 CL DL SD TL
section
variable {X:Cx}{e st:Expr}{p2 pos:Pos}
theorem RN:bN X (Zs .Add) (fun x y H Q=>∃ a b ys,x=.ref a/\y=.ref b/\bQ X.K H a []/\bQ X.K H b ys/\Q (.ref b) H):=by
 intro c s n H x y v u Q I f e h;obtain⟨a,b,ys,rfl,rfl,m,l,q⟩:=h;cases f;cases e;obtain⟨k,g,j,_⟩:=I.tuple m;obtain⟨d,o,i,_⟩:=I.tuple l;cases g;exact Mr j i ⟨.ref b,H,I,rfl,q⟩
theorem RO:bN X (Zs .Add) (fun x y H Q=>∃ a b xs ys,x=.ref a/\y=.ref b/\cN X.K H a xs/\cN X.K H b ys/\xs.length+ys.length<=1000/\∀ p,H p=none->Q (.ref p) (aP H p (.lst (xs++ys)))):=by
 intro e s t H x y v u Q I j i h;obtain⟨a,b,xs,ys,rfl,rfl,r,n,g,q⟩:=h;cases j;cases i;obtain⟨m,d,l,_⟩:=I.list r;obtain⟨f,c,k,_⟩:=I.list n;refine Ms l.isList k.isList (by rw [<- d.length,<- c.length];exact gG g) ?_
 refine⟨.ref s.heap.objs.size,_,I.laid (t':=s.toks) (o:=.lst (xs++ys)) (fun b w q=>Qc _ q) (Qk _) ?_,rfl,q _ (I.hok.fresh (Qk _))⟩
 exact⟨by rw [Qf];exact gG g,_,0,d.append c,Qt _ rfl⟩
theorem SK:lF X (fun x lo hi H Q=>∃ a xs,x=.ref a/\bQ X.K H a xs/\(HT.sIx xs.length 0 lo=0/\HT.sIx xs.length xs.length hi=xs.length)/\Q (.ref a) H):=by
 intro d s m H x v o n lo hi p Q I f l i g h;obtain⟨a,xs,rfl,j,k,q⟩:=h;cases f;obtain⟨c,r,e,t⟩:=I.tuple j
 have b:c.toArray.size=xs.length:=by rw [QH];exact r.length.symm
 exact⟨"tuple",_,YV.lookup,e.typeIs,Vh e l i g (by rw [b];exact k) ⟨.ref a,H,I,rfl,q⟩⟩
def II:D->Option Int->Option Int->Option D
 | .list xs,lo,hi=>some (.list (DL.cutD xs lo hi))
 | .tuple xs,lo,hi=>some (.tuple (DL.cutD xs lo hi))
 | _,_,_=>none
def qK(e:aA->Option D)(b c:aA->Option (Option Int)):aA->Option D:=fun a=>(e a).bind fun d=>(b a).bind fun l=>(c a).bind fun h=>II d l h
theorem NH{xs:List D}{a b:Option Int}(h:HT.sIx xs.length 0 a=0/\HT.sIx xs.length xs.length b=xs.length):DL.cutD xs a b=xs:=by
 unfold DL.cutD;rw [h.1,h.2,List.drop_zero,Nat.sub_zero,List.take_length]
theorem EN{a:Expr}{g i:Option Expr}{n:aA->Option D}{j m:aA->Option (Option Int)}(t:DE X a n)(r:DO X g j)(s:DO X i m):DE X (.Subscript a (.Slice g i none p2) pos) (qK n j m):=
 eM (Sj (T4.or (SH.or SK)) t r s) fun E H Q o=>by
  obtain⟨F,b,f,d,S,q,k⟩:=o;obtain⟨x,y,q⟩:=aJ q;obtain⟨l,w,q⟩:=aJ q;obtain⟨h,u,q⟩:=aJ q
  refine⟨F,b,f,x,S,y,fun B J v E1 R1=>⟨B,b,f,l,S.ext E1,w,fun A I E2=>⟨A,b,f,h,(S.ext E1).ext E2,u,fun K G E3=>?_⟩⟩⟩
  have z:=(R1.stay E2.stay).stay E3.stay;have E123:=E1.trans (E2.trans E3)
  cases z with
  | @lst a' vs ds h1 r1=>
   cases q;exact .inl ⟨a',vs,rfl,h1.sq,fun p e=>k _ _ _ (E123.trans (aH.frozen e)) (aR.newLst e (r1.cut l h))⟩
  | @tup a' vs ds h1 r1=>
   cases q;by_cases c:HT.sIx ds.length 0 l=0/\HT.sIx ds.length ds.length h=ds.length
   ·rw [NH c]at k;exact .inr (.inr ⟨a',vs,rfl,h1,by rw [<- r1.length];exact c,k _ _ _ E123 (.tup h1 r1)⟩)
   ·exact .inr (.inl ⟨a',vs,rfl,h1,by rw [<- r1.length];exact c,fun p e=>k _ _ _ (E123.trans (aH.fresh e)) (aR.newTup e (r1.cut l h))⟩)
  | non=>cases q
  | dct _ _ _ _ _=>cases q
  | exn _ _ _=>cases q
  | bl _=>cases q
  | int _=>cases q
  | str _=>cases q
def cL:D->D->Option D
 | .int i,.int j=>some (.int (i+j))
 | .tuple xs,.tuple ys=>if xs.length+ys.length<=1000 then some (.tuple (xs++ys))else none
 | .list xs,.list ys=>if xs.length+ys.length<=1000 then some (.list (xs++ys))else none
 | _,_=>none
theorem Fl{c b:Type}{xs:List c}{a:List b}(h:xs.length=a.length)(e:a=[]):xs=[]:=by subst e;exact Yl h
theorem dP:bN X (Zs .Add) (dB X.K cL):=pU (PB.or (OZ.or (RN.or RO))) fun x y H Q l=>by
 obtain⟨F,d,e,q,z,j,R2,f,k⟩:=l;unfold cL at f
 split at f
 ·cases f;cases j;cases R2;exact .inl ⟨_,_,rfl,rfl,k F H _ (aH.refl F H) (.int _)⟩
 ·rename_i i h;by_cases c:i.length+h.length<=1000
  ·rw [if_pos c]at f;cases f
   cases j with
   | @tup a vs _ h1 r1=>
    cases R2 with
    | @tup b us _ h2 r2=>
     by_cases n:vs=[]
     ·subst n
      have:i=[]:=Fl r1.length rfl
      subst this;exact .inr (.inr (.inl ⟨a,b,us,rfl,rfl,h1,h2,k F H _ (aH.refl F H) (.tup h2 r2)⟩))
     ·refine .inr (.inl ⟨a,b,vs,us,rfl,rfl,h1,h2,n,gG (by rw [<- r1.length,<- r2.length];exact c),fun e=>?_,fun e p g=>?_⟩)
      ·have:h=[]:=Fl r2.length e
       subst this;rw [QO]at k;exact k F H _ (aH.refl F H) (.tup h1 r1)
      ·exact k F _ _ (aH.fresh g) (aR.newTup g (r1.append r2))
  ·rw [if_neg c]at f;cases f
 ·rename_i i h;by_cases c:i.length+h.length<=1000
  ·rw [if_pos c]at f;cases f
   cases j with
   | @lst a vs _ h1 r1=>
    cases R2 with
    | @lst b us _ h2 r2=>
     exact .inr (.inr (.inr ⟨a,b,vs,us,rfl,rfl,h1.sq,h2.sq,by rw [<- r1.length,<- r2.length];exact c,fun p g=>k _ _ _ (aH.frozen g) (aR.newLst g (r1.append r2))⟩))
  ·rw [if_neg c]at f;cases f
 ·cases f
end
end SL
namespace EL
open PySem.Spec L2 DL ZL
open AutoSeq1 (wpAny_loadPart')
theorem Ph(l:JW)(items:Array YP)(n:Nat)(b:Option JW)(k:Array (Option YP)):
  Meets (Builtin.«enumerate.__new__» ⟨[.type "enumerate",.ref l],[]⟩) (fun _ R s=>s.heap.get? l=some { cls:=.type "tuple",dict:=b,data:=.seq items n,slots:=k } /\
   R (.ok (.ret (.ref (s.heap.push { cls:=.type "tuple_iterator",data:=.fields #[.ref l,.int 0 0] }).objs.size)))
    { s with heap:=(s.heap.push { cls:=.type "tuple_iterator",data:=.fields #[.ref l,.int 0 0] }).push { cls:=.type "enumerate",data:=.fields #[.none,.bool false,.ref s.heap.objs.size,Zy 0,.none,.none] } }):=
 .of_wp fun e w A R s h=>by
  obtain⟨o,g,d,j,m⟩:=s;obtain⟨a,h⟩:=h;have f:=sub_enumerate;have i:Heap.IsTuple (Shared.heap ⟨o,g,d,j,m⟩) l items:=⟨_,a,rfl,n,rfl⟩
  wp_walk using ZJ a
  refine wpAny_stack_any fun p=>Qb ?_;split
  ·rename_i c _ _ _ _ _
   cases(c == ZR "enumerate") <;> (wp_walk using ZJ a,Ub i;exact⟨_,rfl,h⟩)
  ·wp_walk using ZJ a,Ub i
   exact⟨_,rfl,h⟩
section
variable {prog:JZ}{w:J1}{A:Around}{E:YP->JV->Prop}{s:JV}
theorem MR{l:JW}{a:Array YP}{Q:YP->JV->Prop}(m:s.heap.IsTuple l a)
  (h:∀ h',IsEnum h' (s.heap.objs.size+1) s.heap.objs.size 0 .none->h'.IsTupleIter s.heap.objs.size l 0->h'.objs.size=s.heap.objs.size+2->
   (∀ b o,s.heap.get? b=some o->h'.get? b=some o)->Q (.ref (s.heap.objs.size+1)) { s with heap:=h' }):
  JY (J0 prog w) A (call (.type "enumerate") [.ref l]) Q E s:=by
 obtain⟨⟨c,g,p,j⟩,k,f,n,hd⟩:=m
 replace f:c=.type "tuple":=f
 replace hd:p=.seq a n:=hd
 subst f hd
 refine callType_new F.called_enumerate (by decide) (F.typeCall_enumerate_1 _) (F.newCall_enumerate_1 _) (fun d=>F.args_object_init_2 d _) F.entry_enumerate_new
  (Ph l a n g j) ⟨k,?_⟩
 have e:(s.heap.push { cls:=.type "tuple_iterator",data:=.fields #[.ref l,.int 0 0] }).objs.size=s.heap.objs.size+1:=YT ..
 show _/\_
 rw [e]
 have i:IsEnum ((s.heap.push { cls:=.type "tuple_iterator",data:=.fields #[.ref l,.int 0 0] }).push
   { cls:=.type "enumerate",data:=.fields #[.none,.bool false,.ref s.heap.objs.size,Zy 0,.none,.none] }) (s.heap.objs.size+1) s.heap.objs.size 0 .none:=by
  have:=Qt (s.heap.push { cls:=.type "tuple_iterator",data:=.fields #[.ref l,.int 0 0] })
   (o:={ cls:=.type "enumerate",data:=.fields #[.none,.bool false,.ref s.heap.objs.size,Zy 0,.none,.none] }) rfl
  rw [e]at this;exact this
 exact⟨⟨_,i,rfl⟩,h _ i ⟨_,Qc _ (Qt _ rfl),rfl,rfl⟩ (by rw [YT,e]) fun b o x=>Qc _ (Qc _ x)⟩
theorem Pi{c t:JW}{i:Nat}{a:Array YP}{x:YP}{Q:YP->JV->Prop}(b:s.heap.IsTupleIter c t i)(h:s.heap.IsTuple t a)(g:a[i]?=some x)
  (k:∀ h',h'.IsTupleIter c t (i+1)->Ze c s.heap h'->Q x { s with heap:=h' }):JY (J0 prog w) A (ZI (.ref c)) Q E s:=by
 obtain⟨o,d,j,hd⟩:=id b;obtain⟨l,e,_,m,f⟩:=h;unfold ZI
 refine Qa (Yp (name:=Zu "__next__") b.typeIs Jl
  (Yc Jl b.typeIs F.entry_tuple_iterator_next ?_ (F.args_tuple_iterator_next_1 _)))
 show JY _ _ (field (.ref c) 0 >>= _) _ _ s
 refine Qa (YQ d hd (x:=.ref t) rfl ?_)
 show JY _ _ (if(J5 t == J6)=true then _ else _) _ _ s
 rw [if_neg (show ¬ ((J5 t == J6)=true)from QA)]
 show JY _ _ (field (.ref c) 1 >>= _) _ _ s
 refine Qa (YQ d hd (x:=.int i 0) rfl ?_)
 show JY _ _ (seqItems? (.ref t) >>= _) _ _ s
 refine Qa (Ji e f ?_);simp only [Y5,g];refine Qa (YK d hd (by simp) (Qb ⟨x,rfl,Qb (k _ ?_ (QX ..))⟩))
 refine⟨_,QV _ d (YY (Yo hd _)),(JG ..).trans j,?_⟩
 rw [Yo hd]
 simp [Zy]
theorem Fi{d t:JW}{i:Nat}{b:Array YP}{Q:YP->JV->Prop}(j:A.handled=none)(c:s.heap.IsTupleIter d t i)(l:s.heap.IsTuple t b)(k:b[i]?=none)
  (n:∀ h' e,Heap.ExtBut d s.heap h'->(∃ o,h'.get? e=some o/\o.cls=.type "StopIteration")->E (.ref e) { s with heap:=h' }):JY (J0 prog w) A (ZI (.ref d)) Q E s:=by
 obtain⟨o,g,r,hd⟩:=id c;obtain⟨p,f,_,q,h⟩:=l;unfold ZI
 refine Qa (Yp (name:=Zu "__next__") c.typeIs Jl
  (Yc Jl c.typeIs F.entry_tuple_iterator_next ?_ (F.args_tuple_iterator_next_1 _)))
 show JY _ _ (field (.ref d) 0 >>= _) _ _ s
 refine Qa (YQ g hd (x:=.ref t) rfl ?_)
 show JY _ _ (if(J5 t == J6)=true then _ else _) _ _ s
 rw [if_neg (show ¬ ((J5 t == J6)=true)from QA)]
 show JY _ _ (field (.ref d) 1 >>= _) _ _ s
 refine Qa (YQ g hd (x:=.int i 0) rfl ?_)
 show JY _ _ (seqItems? (.ref t) >>= _) _ _ s
 refine Qa (Ji f h ?_);simp only [Y5,k];refine Qa (JJ (Qa (YK g hd (by simp) ?_)))
 show JY _ _ (newExc (.type "StopIteration") [] >>= _) _ _ _
 refine Qa ?_;simp only [newExc,newTuple];refine Qa (Yd ?_ (by size_fits));refine Qa (m:=ZW _ _) (JU (a:=J6) (by first | rfl | (simp only [ZW];rfl)) ?_);refine Yd ?_ (by size_fits);simp only [raiseNew];refine Qa (wpAny_handled ?_)
 first | rw [show A.in1.handled=none from j] | rw [j]
 refine Qa (Qb (wpAny_throw ?_));exact n _ _ (((QX ..).extBut.push _).push _) ⟨_,Qt _ rfl,rfl⟩
end
theorem Nh{prog:JZ}{w:J1}{A:Around}(l:A.handled=none)(c t:JW)(g:t≠c)(a:Array YP):
  Draws prog w A c [c,t] a.size (fun i v=>a[i]?=some v) (fun i h=>h.IsTupleIter c t i/\h.IsTuple t a) where
 live:=fun _ _ b=>let⟨o,ho,_⟩:=b.1;⟨o,ho⟩
 frame:=fun _ _ _ b j=>⟨b.1.at fun o e=>j c (by simp) o e,b.2.at fun o e=>j t (by simp) o e⟩
 item:=fun i s Q E k b m=>Pi b.1 b.2 (x:=a[i]) (by simp [k]) fun p f d=>m _ p s.toks (by simp [k]) ⟨f,b.2.extBut d.extBut g⟩ d
 done:=fun s Q E b n=>Fi l b.1 b.2 (by simp) n
def tF(a:Hp->List V->Prop):It:=
 ⟨fun i H=>∃ xs x,a H xs/\xs[i]?=some x,
  fun i H v b=>∃ p,H p=none/\v=.ref p/\∃ x,b=aP H p (.tup [.int i,x])/\∀ xs,a H xs->xs[i]?=some x,
  fun i H=>∃ xs,a H xs/\xs.length<=i⟩
structure xC(P:JZ)(w:J1)(K:PySem.W.Frag)(SQ:Hp->List V->Prop)(a it:JW)(IT:Nat->Heap->Prop)(IS:Heap->Array YP->Prop):Prop where
 sq:∀(X:Cx) (pins:List (JW × Obj)) (σ:L2.St) (H:Hp) (s:JV) (xs:List V),X.K=K->L2.Inv X pins σ H s->SQ H xs->(∃ its,Vals xs its/\IS s.heap its.toArray)/\∀ ys,SQ H ys->ys=xs
 ob:∀ i h,IT i h->∃ o,h.get? it=some o/\∀ v,o.data≠.cell v
 kp:∀ i h h',IT i h->(∀ o,h.get? it=some o->h'.get? it=some o)->IT i h'
 D:∀(A:Around) (items:Array YP),A.handled=none->Draws P w A it [it,a] items.size (fun i v=>items[i]?=some v) (fun i h=>IT i h/\IS h items)
 Z:∀(A:Around) (items:Array YP) (i:Nat),A.handled=none->items.size<=i->Draws P w A it [it,a] i (fun _ _=>False) (fun j h=>j=i/\IT i h/\IS h items)
theorem HU{P:JZ}{w:J1}{K:PySem.W.Frag}{Q:List Expr}{x1}{F:Pos}{SQ:Hp->List V->Prop}(a e m:JW)(t:e≠m)(a5:e≠a){IT:Nat->Heap->Prop}{IS:Heap->Array YP->Prop}(Z:xC P w K SQ a m IT IS):
  jP P w K (.Tuple Q x1 F) (tF SQ) [e,m] e (fun i h=>(∃ old,IsEnum h e m i old)/\IT i h) where
 mem:=by simp
 obj:=fun i h p c u=>by
  obtain⟨⟨old,n⟩,r⟩:=p;rcases Qi.mp u with rfl | u
  ·exact⟨_,n,fun v z=>by have z':Data.fields _=Data.cell v:=z;cases z'⟩
  ·rw [Qm.mp u];exact Z.ob i h r
 keep:=fun i h h' p k=>by
  obtain⟨⟨old,n⟩,r⟩:=p
  exact⟨⟨old,k e (by simp) _ n⟩,Z.kp i h h' r fun o q=>k m (by simp) o q⟩
 item:=by
  intro X N hw hK u i g s U H E I y p hg;subst N hw;obtain⟨B,x,ha,S⟩:=hg;obtain⟨⟨old,n⟩,r⟩:=p;obtain⟨⟨l,rv,pl⟩,inj⟩:=Z.sq X g U H s B hK I ha;obtain⟨xu,ex,rx⟩:=rv.get S
  have a3:i<l.toArray.size:=by
   have:=(Qe.mp ex).1
   simpa using this
  have a4:e∉[m,a]:=by simp only [Qi,Ju,or_false,not_or];exact⟨t,a5⟩
  refine wpAny_pyNext_enum_itemD (Z.D X.A.in1 l.toArray (by simp [I.ok.hd u])) n ⟨r,pl⟩ a3 t a4 fun x' h' tk N ho a0 hT a7 hk=>⟨_,rfl,?_⟩
  have O:l[i]?=some x':=by simpa using N
  rw [ex]at O;cases O;refine wpAny_letOwnedTupleGo_enum ho fun h'' z1 Y=>?_;have T:H s.heap.objs.size=none:=I.hok.fresh (Qk _);have f:∀ c o,s.heap.get? c=some o->c≠s.heap.objs.size:=fun c o q=>Qw (Qo q);have eT:s.heap.objs.size≠e:=(f e _ n).symm;obtain⟨oi,a2,_⟩:=Z.ob i _ r
  have J:∀ c o,c∉[e,m]->s.heap.get? c=some o->h''.get? c=some o:=fun c o G q=>
   Y.extBut c o (fun q=>G (by simp [q])) (hk c o (fun q=>G (by simp [q])) (fun q=>G (by simp [q])) q)
  have j:∀ c o,H c=some o->c∉[e,m]:=fun c o q b=>by
   have:=(y c b).1
   rw [this]at q;cases q
  have a1:cY X.prog X.w (aP H s.heap.objs.size (.tup [.int i,x])) h'':=fun c o q=>by
   by_cases M:c=s.heap.objs.size
   ·subst M;rw [cQ]at q;cases q
    exact⟨gG (by simp),[.int i tk,xu],.cons ⟨tk,rfl⟩ (.cons rx .nil),⟨_,Y.extBut _ _ eT hT,rfl,0,rfl⟩⟩
   ·rw [aU M]at q
    refine(I.hok c o q).stay (fun d v hd q=>J d v ?_ q) (fun d q=>by rw [aU (eE q T)];exact q) fun d B q=>by rw [aU (eE q T)];exact q
    rcases hd with rfl | hd
    ·exact j _ _ q
    ·exact j _ _ hd
  refine⟨.ref s.heap.objs.size,_,wA (s:=s) (h':=h'') (tk:=tk+1) I y J (fun c o q=>aU (f c o q)) (fun c o q=>by rw [aU (eE q T)];exact q) a1,rfl,⟨_,T,rfl,x,rfl,fun ys hy=>by rw [inj ys hy];exact S⟩,⟨⟨_,by simpa using z1⟩,Z.kp _ _ _ a0.1 fun o q=>Y.extBut m o (Zx t) q⟩,fun c b=>?_⟩
  have q:=(y c b).1
  have nT:c≠s.heap.objs.size:=by
   rcases Qi.mp b with rfl | b
   ·exact f _ _ n
   ·rw [Qm.mp b];exact f _ _ a2
  rw [aU nT];exact q
 done:=by
  intro X N hw hK u i g s U H E I y p hg;subst N hw;obtain⟨B,ha,a6⟩:=hg;obtain⟨⟨old,n⟩,r⟩:=p;obtain⟨⟨l,rv,pl⟩,inj⟩:=Z.sq X g U H s B hK I ha;have l1:=rv.length;refine wpAny_pyNext_enum_endD (Z.Z X.A.in1 l.toArray i (by simp [I.ok.hd u]) (by rw [QH];lia)) n ⟨rfl,r,pl⟩ fun h' S=>⟨rfl,?_⟩;have J:∀ c o,c∉[e,m]->s.heap.get? c=some o->h'.get? c=some o:=fun c o G q=>S c o (fun q=>G (by simp [q])) q
  have j:∀ c o,H c=some o->c∉[e,m]:=fun c o q b=>by
   have:=(y c b).1
   rw [this]at q;cases q
  refine wA (s:=s) (h':=h') (tk:=s.toks) I y J (fun _ _ _=>rfl) (fun _ _ q=>q) fun c o q=>?_
  refine(I.hok c o q).stay (fun d v hd q=>J d v ?_ q) (fun d q=>q) fun d B q=>q
  rcases hd with rfl | hd
  ·exact j _ _ q
  ·exact j _ _ hd
 self:=fun _ _ _ _ _ p h=>by
  obtain⟨⟨old,n⟩,_⟩:=p;exact wpAny_pyIter_enum n h
theorem IN{P:JZ}{w:J1}{K:PySem.W.Frag}(a c:JW)(l:a≠c):xC P w K (fun H xs=>bQ K H a xs) a c (fun i h=>h.IsTupleIter c a i) (fun h items=>h.IsTuple a items) where
 sq:=fun X p M H s xs G I t=>by
  subst G;obtain⟨f,u,x,_⟩:=I.tuple t
  exact⟨⟨f,u,x⟩,fun N y=>I.tuple_inj y t⟩
 ob:=fun i h ⟨o,g,_,hd⟩=>⟨o,g,fun v z=>by rw [hd]at z;cases z⟩
 kp:=fun i h O F k=>F.at k
 D:=fun A items n=>Nh n c a l items
 Z:=fun A items i n m=>
  {live:=fun _ _ ⟨_,⟨o,g,_⟩,_⟩=>⟨o,g⟩
   frame:=fun _ _ _ ⟨e,d,b⟩ r=>⟨e,d.at fun o q=>r c (by simp) o q,b.at fun o q=>r a (by simp) o q⟩
   item:=fun j s Q E B ⟨e,_⟩ _=>absurd e (Qw B)
   done:=fun s Q E ⟨_,d,b⟩ J=>Fi n d b (Yt m) J }
theorem IM{P:JZ}{w:J1}{K:PySem.W.Frag}(a c:JW)(l:a≠c):xC P w K (fun H xs=>cN K H a xs) a c (fun i h=>h.IsListIter c a i) (fun h items=>h.IsList a items) where
 sq:=fun X p M H s xs G I t=>by
  subst G;obtain⟨f,u,x,_⟩:=I.list t
  exact⟨⟨f,u,x.isList⟩,fun N y=>I.list_inj y t⟩
 ob:=fun i h ⟨o,g,_,hd⟩=>⟨o,g,fun v z=>by rw [hd]at z;cases z⟩
 kp:=fun i h O F k=>F.at k
 D:=fun A items n=>Draws.list n c a l items
 Z:=fun A items i n m=>
  {live:=fun _ _ ⟨_,⟨o,g,_⟩,_⟩=>⟨o,g⟩
   frame:=fun _ _ _ ⟨e,d,b⟩ r=>⟨e,d.at fun o q=>r c (by simp) o q,b.at fun o q=>r a (by simp) o q⟩
   item:=fun j s Q E B ⟨e,_⟩ _=>absurd e (Qw B)
   done:=fun s Q E ⟨_,d,b⟩ J=>wpAny_nextOf_list_end n d b (Yt m) J }
def pM(K:PySem.W.Frag)(f:TA):TI:=fun d H R=>f d H fun e c=>∃ a,e=[.ref a]/\(((∃ b,cN K c a b)/\R (tF fun H b=>cN K H a b) c) ∨ ((∃ b,bQ K c a b)/\R (tF fun H b=>bQ K H a b) c))
theorem Rp{X:Cx}{l:List Expr}{x1}{g:Pos}{a:Expr}{z:TA}{p pos:Pos}(N:Gl X "enumerate")(M:X.mg "enumerate"=none)(O:PA X [a] z)(hs:JX [a] X.env=[(false,Zk a X.env)]:=by rfl):
  PI X (.Tuple l x1 g) (.Call (.Name "enumerate" p) [a] [] pos) (pM X.K z):=by
 intro d s o H R I h;refine Call_ (kS I N M boot_enumerate (YR (bA (O pos d s o H _ I h) fun T b ⟨S,n,I1,G,J⟩=>?_) (by rw [hs];rfl) (by rfl)));obtain⟨f,e,q⟩:=J;subst e;obtain⟨u,rfl,F⟩:=i4 G;cases F
 have fin:∀ c∈[b.heap.objs.size+1,b.heap.objs.size],gR X d n c:=fun c w=>by
  have A:b.heap.objs.size<=c:=by
   rcases Qi.mp w with rfl | w
   ·exact Yx _ _
   ·rw [Qm.mp w];exact Qk _
  exact I1.fpOk A (I1.hok.fresh A)
 rcases q with⟨⟨B,t⟩,q⟩ | ⟨⟨B,t⟩,q⟩
 ·obtain⟨r,E,i,_⟩:=I1.list t;refine call_enumerate_list i.isList fun k m x Q v=>?_
  have j:f<b.heap.objs.size:=by obtain⟨_,e,_⟩:=i.isList;exact Qo e
  have y:L2.Inv X d o n { b with heap:=k }:=I1.kept (t':=b.toks) v;refine wpAny_pyIter_enum (s:={ b with heap:=k }) m ?_
  exact⟨_,[b.heap.objs.size+1,b.heap.objs.size],_,_,n,rfl,y,HU f (b.heap.objs.size+1) b.heap.objs.size (Nat.succ_ne_self _) (YF (Y6 j)) (IM f b.heap.objs.size (Qw j)),⟨⟨_,m⟩,x⟩,fin,q⟩
 ·obtain⟨r,E,i,_⟩:=I1.tuple t;refine MR i fun k m x Q v=>?_
  have j:f<b.heap.objs.size:=by obtain⟨_,e,_⟩:=i;exact Qo e
  have y:L2.Inv X d o n { b with heap:=k }:=I1.kept (t':=b.toks) v;refine wpAny_pyIter_enum (s:={ b with heap:=k }) m ?_
  exact⟨_,[b.heap.objs.size+1,b.heap.objs.size],_,_,n,rfl,y,HU f (b.heap.objs.size+1) b.heap.objs.size (Nat.succ_ne_self _) (YF (Y6 j)) (IN f b.heap.objs.size (Qw j)),⟨⟨_,m⟩,x⟩,fin,q⟩
end EL
namespace SL
open PySem.Spec L2 CL DL SD EL
def jG(n:Nat):List D->List D
 | []=>[]
 | x::xs=>.tuple [.int n,x]::jG (n+1) xs
theorem AJ:∀(xs:List D) (n i:Nat),(jG n xs)[i]?=(xs[i]?).map fun x=>.tuple [.int ((n+i:Nat):Int),x]
 | [],n,i=>by simp [jG]
 | x::xs,n,0=>by simp [jG]
 | x::xs,n,i+1=>by
  show(jG (n+1) xs)[i]?=_
  rw [AJ xs (n+1) i,show n+1+i=n+(i+1) by lia];rfl
theorem Ha:∀(xs:List D) (n:Nat),(jG n xs).length=xs.length
 | [],_=>rfl
 | x::xs,n=>by show(jG (n+1) xs).length+1=_;rw [Ha xs];rfl
def zE:List D->Option (List D)
 | [.list xs]=>some (jG 0 xs)
 | [.tuple xs]=>some (jG 0 xs)
 | _=>none
theorem Fv{K:PySem.W.Frag}{F:JW->Prop}{H:Hp}{j:Hp->List V->Prop}{vs:List V}{ds:List D}(n:∀ F2 H2,bU K F F2 H H2->j H2 vs)(l:Reps K F H ds vs):lC K F H (jG 0 ds) (tF j):=fun F2 H2 T z i=>by
 have a:=n F2 H2 T;have c:=l.stay T
 refine⟨fun d hd=>?_,fun g=>⟨vs,a,?_⟩⟩
 ·rw [AJ]at hd
  cases b:ds[i]? with
  | none=>rw [b]at hd;cases hd
  | some x=>
   rw [b]at hd;cases hd;obtain⟨v,h,o⟩:=c.get b
   refine⟨⟨vs,v,a,h⟩,fun w r k=>?_⟩
   obtain⟨p,f,rfl,q,rfl,m⟩:=k;have e:=m vs a;rw [h]at e;cases e
   refine⟨F2,aH.fresh f,aR.newTup f (.cons ?_ (.cons o .nil))⟩
   rw [JK];exact .int _
 ·rw [Ha]at g;rw [<- c.length];exact g
theorem M5{X:Cx}{d:List Expr}{x1}{c:Pos}{a:Expr}{j:aA->Option (List D)}{p pos:Pos}(s:Gl X "enumerate")(o:X.mg "enumerate"=none)(t:DA X [a] j)(hs:JX [a] X.env=[(false,Zk a X.env)]:=by rfl):
  DI X (.Tuple d x1 c) (.Call (.Name "enumerate" p) [a] [] pos) (fun ρ=>(j ρ).bind zE):=
 AS (Rp s o t hs) fun w H R m=>by
  obtain⟨F,b,ρ,y,S,q,k⟩:=m;obtain⟨x,l,q⟩:=aJ q;unfold zE at q
  split at q
  ·cases q
   refine⟨F,b,ρ,_,S,l,fun h g n i f=>?_⟩
   cases f with
   | cons r e=>
    cases e
    cases r with
    | @lst a' vs' _ h1 r1=>exact⟨a',rfl,.inl ⟨⟨_,h1.sq⟩,k h g _ i (Fv (fun v u T=>(h1.stay T).sq) r1)⟩⟩
  ·cases q
   refine⟨F,b,ρ,_,S,l,fun h g n i f=>?_⟩
   cases f with
   | cons r e=>
    cases e
    cases r with
    | @tup a' vs' _ h1 r1=>exact⟨a',rfl,.inr ⟨⟨_,h1⟩,k h g _ i (Fv (fun v u T=>T.tp _ _ h1) r1)⟩⟩
  ·cases q
end SL
namespace SL
open PySem.Spec L2 CL DL SD
section
variable {X:Cx}
end
open AutoSeq1 (wpAny_loadPart')
theorem Nt(l:JW)(c:Array YP)(n:Nat)(b:JW)(a:Array YP)(o:Nat)(dd:Option JW)(m:Array (Option YP))(p:(!c.isEmpty && Z4 (c.size+a.size))=false)(i:c.size<=sizeLine)(f:c.size+a.size<=sizeLine+1):
  Meets (Builtin.«list.extend» ⟨[.ref l,.ref b],[]⟩) (fun _ R s=>s.heap.get? l=some { cls:=.type "list",dict:=none,data:=.seq c n,slots:=#[] }/\s.heap.get? b=some { cls:=.type "list",dict:=dd,data:=.seq a o,slots:=m }/\R (.ok (.ret J6)) { s with heap:=s.heap.update l (ZS fun x=>x++a),toks:=s.toks }):=
 .of_wp fun j w A R s h=>by
  obtain⟨u,g,d,r,t⟩:=s;obtain⟨k,q,h⟩:=h;have E:=AutoSeq1.idx_int;have B:=AutoSeq1.sub_tuple_tuple;have z:=AutoSeq1.sub_list_list;have y:=AutoSeq1.sub_tuple_list;have v:=AutoSeq1.sub_list_tuple
  have e:(c++a).size<=sizeLine+1:=by rw [Array.size_append];exact f
  wp_walk using(UN k rfl (hz:=i) (_hz':=e)),ZJ k,ZJ q
  exact⟨_,rfl,h⟩
section
variable {X:Cx}
theorem PU:BO X "list.extend" (fun x vs H Q=>∃ l b xs zs,x=.ref l/\vs=[.ref b]/\H l=some (.lst xs)/\cN X.K H b zs/\xs.length+zs.length<=1000/\Q .non (aP H l (.lst (xs++zs)))):=by
 intro k s B H x vs v E Q I o p h;obtain⟨l,b,xs,zs,rfl,rfl,m,y,N,q⟩:=h;cases o;obtain⟨u,rfl,t⟩:=p.one;cases t;obtain⟨z,c,n,r,O,e⟩:=I.lstM m;obtain⟨a,j,⟨⟨T,dd,S,G⟩,w,A,g,f,d⟩,_⟩:=I.list y
 simp only at g f d
 subst g f d;have M:=r.length;have J:=j.length
 have i:c.toArray.size+a.toArray.size<=sizeLine:=by rw [QH,QH];exact gG (by lia)
 refine call_meets F.slot_list_extend ⟨_,e,rfl⟩ F.entry_list_extend (F.args_list_extend_2 _ _)
  (Nt l c.toArray n b a.toArray w _ _ (by rw [Po i,Bool.and_false]) (by lia) (by lia)) ⟨e,A,?_⟩
 refine⟨.non,_,I.lset (its':=c++a) m e (by simp) (r.append j) ?_,rfl,q⟩
 rw [Qf];exact gG (by lia)
def lU(i:Nat)(g:aA->Option D):aA->Option aK:=fun a=>match a[i]? with
 | some (.own ds)=>(g a).bind fun d=>match d with
  | .list b=>if ds.length+b.length<=1000 then some (.nx (a.set i (.own (ds++b))))else none
  | _=>none
 | _=>none
variable {e:Expr}{p pos:Pos}{ga:aA->Option D}
theorem Af{i:Nat}{x:Str}{c a:Pos}(U:DE X e ga)(Y:X.N[i]?=some x:=by rfl)(Q:jQ X.env.scope x:=by first | exact ZG rfl | exact Zr (ZG rfl) | exact Zr (Zr rfl))(hd:(x == ("__debug__":Str))=false:=by decide)
  (w:(x == ("__classdict__":Str))=false:=by decide) (j:JX [e] X.env=(false,Zk e X.env)::JX [] X.env:=by rfl)
  (h:UC (.Name x p) "extend" X.env (Zk (.Name x p) X.env)=Zk (.Name x p) X.env:=by rfl)
  (m:((Zi a (JX [e] X.env)).all (fun x => !x.1) && (backToKw a (UW [] X.env)).all (fun x=>x.1.isSome)
   && decide ([e].length+([]:List UA).length+(if([]:List UA).isEmpty then 0 else 1)<30))=true:=by rfl)
  (g:(c.endLine == a.line)=true:=by rfl) (f:(Zi a (JX [] X.env)).any (·.1)=false:=by rfl) (t:ZE (.Call (.Attribute (.Name x p) "extend" c) [e] [] a) none pos.line X.env=pure false:=by rfl):
  DS X (.Expr (.Call (.Attribute (.Name x p) "extend" c) [e] [] a) pos) (lU i ga):=
 DL.ps_mono (wH (Hm PySem.F.plainAttrs_list PySem.F.slot_list_extend PySem.F.type_list_extend PU (nJ Y Q hd w) (j9 U mG j) h m g j f) t) fun W I H K=>by
 obtain⟨G,n,F,J,o,E,S,q,k⟩:=K;unfold lU at q
 split at q
 ·rename_i ds y;obtain⟨d,e1,q⟩:=aJ q
  split at q
  ·rename_i es;by_cases u:ds.length+es.length<=1000
   ·rw [if_pos u]at q;cases q;obtain⟨l,vs,s,O,q3,M,q5⟩:=S.own y
    refine⟨_,s,.inl ⟨rfl,_,cN.of O⟩,F,n,J,_,S,e1,fun F' H' v E' R'=>?_⟩
    have S':=S.ext E';obtain⟨l',r,B,A,Z,g4,z⟩:=S'.own y;rw [s]at B;cases B
    cases R' with
    | @lst b us _ h1 r1=>
     refine⟨l,b,r,us,rfl,rfl,A,h1.sq,by rw [<- z.length,<- r1.length];exact u,?_⟩
     obtain⟨S2,T⟩:=S'.turn y s A Z (z.append r1);exact k F' _ I ((E.trans E').turn M) (E'.stay.trans T) S2
   ·rw [if_neg u]at q;cases q
  ·cases q
 ·cases q
end
def AT:Expr->Bool
 | .Starred ..=>false
 | _=>true
theorem SY(e:Expr)(es:List Expr)(env:Env)(h:AT e=true):JX (e::es) env=(false,Zk e env)::JX es env:=by
 cases e <;> first | rfl | cases h
theorem NN{X:Cx}{e:Expr}{es:List Expr}{b:aA->Option D}{a:aA->Option (List D)}(d:DE X e b)(c:DA X es a)(h:AT e=true:=by rfl):DA X (e::es) (aD b a):=ED d c (SY e es X.env h)
end SL
namespace ST
open PySem.SetTable
section
variable {prog:JZ}{w:J1}{A:Around}{E:YP->JV->Prop}{s:JV}{V:YP->Prop}
theorem Te{a b:JW}{e i:List (List Int)}{Q:YP->JV->Prop}(g:a≠b)(v:A.units+8<Za)(SA:cW prog w V s.heap a e)(SB:cW prog w V s.heap b i)(f:e.length<=63)
  (h:∀ h' r ks,s.heap.objs.size<=r->(∀ b o,s.heap.get? b=some o->h'.get? b=some o)->mP prog w V h' r ks->(∀ k,k∈ks ↔ k∈e/\k∉i)->Q (.ref r) { s with heap:=h' }):
  JY (J0 prog w) A (Zs .Sub (.ref a) (.ref b)) Q E s:=by
 obtain⟨l,y,u,q,Sa,K,G,I⟩:=SA.setAt;obtain⟨j,x,t,p,Sb,J,B,H⟩:=SB.setAt;have c:s.TypeIs (.ref a) "set":=⟨l,Sa.get,Sa.ex.1⟩;have d:s.TypeIs (.ref b) "set":=⟨j,Sb.get,Sb.ex.1⟩;refine wpAny_binaryOp_same c d PySem.F.fills_set_sub PySem.F.slot_set_sub (Yc PySem.F.slot_set_sub c PySem.F.set_sub_entry ?_ (PySem.F.args_set_sub_2 _ _));unfold Builtin.«frozenset.__sub__»
 wp_delta
 refine Qa (JU (a:=(J5 a,J5 b)) (by rfl) ?_);simp only [Qq,if_false];refine Qa ?_;unfold andM;refine Qa (vE c ?_)
 show JY _ _ (ZX (.ref b)) _ _ _
 refine vE d ?_;simp only [Yw,Qq,if_false];unfold ZN;refine Qa (Qb (Qa (Nd g (by show A.units+1<Za;lia) SA SB f fun h' r ks n m S mk=>?_)));exact Qb ⟨_,rfl,(fun z=>nomatch z),h h' r ks n m S mk⟩
end
end ST
namespace SL
open PySem.Spec L2 CL DL SD ST
def Ai(c b:aA->Option (List (List Int))):aA->Option (List (List Int)):=fun a=>(c a).bind fun x=>(b a).bind fun y=>if x.length<=63 then some (x.filter fun k => !y.contains k)else none
section
variable {X:Cx}{a b:Expr}{pos:Pos}{g1 g2:aA->Option (List (List Int))}
theorem bV.carry{pins a:List (JW × Obj)}{n c:L2.St}{d m:Hp}{h g:JV}(l:Inv X pins n d h)(j:Inv X a c m g)(f:dA d m):∀{es:List (Int × YP)}{ks:List (List Int)},bV X.prog X.w h.heap es ks->(∀ e∈es,VT X.K d e.2)->bV X.prog X.w g.heap es ks
 | _,_,.nil,_=>.nil
 | _,_,.cons (k:=k) (b:=bx) h1 r,hv=>by
  obtain⟨q,xs,p,i⟩:=hv _ Qd;cases p
  have:k=xs:=h1.unique (i1 l i)
  subst this;exact .cons (i1 j (dA.sqT f i)) (bV.carry l j f r fun e o=>hv e (Qg _ o))
theorem Nm(hc:X.calm=true)(hu:X.A.units+66<Za)(ha:sZ X a g1)(hb:sZ X b g2):BH X (.BinOp a .Sub b pos) (Ai g1 g2):=by
 intro d s m H Q I ⟨F,j,ρ,kl,S,q,k⟩;obtain⟨x,e1,q⟩:=aJ q;obtain⟨y,e2,q⟩:=aJ q;by_cases c:x.length<=63
 ·rw [if_pos c]at q;cases q;refine wpAny_BinOp (bA (ha d s m H (fun f z=>f.Nodup/\(∀ k,k∈f ↔ k∈x)/\∃ l,aH F l H z) I ⟨F,j,ρ,x,S,e1,fun l z f E1 n1 T=>⟨n1,T,l,E1⟩⟩) fun u s1 U=>?_);obtain⟨i,o1,ka,z,eu,I1,S1,_,_,T,l,E1⟩:=U;refine bA (hb ((i,o1)::d) s1 m z (fun f g=>f.Nodup/\(∀ k,k∈f ↔ k∈y)/\∃ B,aH l B z g) I1 ⟨l,j,ρ,y,S.ext E1,e2,fun B g f E2 n2 Z=>⟨n2,Z,B,E2⟩⟩) fun v s2 U=>?_;obtain⟨a2,o2,kb,g,ev,I2,S2,ap,_,Z,B,E2⟩:=U;subst eu;subst ev;have g1:s2.heap.get? i=some o1:=(I2.pin (i,o1) (Qu _ (Qg _ Qd))).1;have a0:i≠a2:=ap (i,o1) Qd
  have SA:cW X.prog X.w (VT X.K g) s2.heap i ka:=by
   obtain⟨o,es,ep,t,O,Y,N,M,J,W,G,E⟩:=S1
   have:s1.heap.get? i=some o1:=(I1.pin (i,o1) (Qu _ Qd)).1
   rw [O]at this;cases this
   exact⟨_,es,ep,t,g1,Y,N,M,J,bV.carry I1 I2 E2.same W E,G,fun e he=>by
    obtain⟨b',xs,e1,e2⟩:=E e he
    exact⟨b',xs,e1,dA.sqT E2.same e2⟩⟩
  refine Te a0 (by lia) SA S2 ?_ fun h' r f hr kp SD mk=>?_
  ·have:ka.length<=x.length:=Yq SA.nodup fun k h=>(T k).mp h
   lia
  ·obtain⟨o,es,ep,t,O,Y,N,M,J,W,G,E⟩:=SD;have I3:Inv X d m g s2:=I2.pins_of fun p n=>I2.pin p (Qu _ (Qg _ (Qg _ n)));have I4:Inv X d m g { s2 with heap:=h' }:=I3.kept (t':=s2.toks) kp
   have I5:Inv X ((r,o)::d) m g { s2 with heap:=h' }:=by
    refine I4.pins_of fun p n=>?_;rcases Qi.mp n with rfl | n
    ·refine⟨O,I2.hok.fresh hr,YF (QD I2.lt hr),I2.nofs hr,fun v hv=>?_⟩
     rw [N]at hv;exact nomatch hv
    ·exact I4.pin p (Qu _ n)
   refine⟨r,o,f,g,rfl,I5,⟨es,ep,t,⟨O,Y,N,M.fits (by simp),M.up,J.1,J.2⟩,W,G,E⟩,k B g f (E1.trans E2) G fun k=>?_⟩
   rw [mk k,T k,Z k,QB];simp
 ·rw [if_neg c]at q;cases q
end
theorem EZ{X:Cx}{d:Zj}:DS X d (fun _=>none):=fun a s e H W I q=>by
 obtain⟨c,b,F,f,o,E,S,q,k⟩:=q;cases q
end SL
namespace DC
theorem PP:typeLookup (.type "list") "keys"=pure none:=by rw [typeLookup_type,Uo];kernel_rfl
section
variable {prog:JZ}{w:J1}{A:Around}{E:YP->JV->Prop}{s:JV}
theorem Ol{a:JW}{o:Obj}{xs:Array YP}{k:Nat}{Q:Option YP->JV->Prop}(l:s.heap.get? a=some o)(m:o.cls=.type "list")(f:o.data=.seq xs k)(hd:o.dict=none)(t:A.handled=none)
  (h:∀ h' tk,(∀ b ob,s.heap.get? b=some ob->h'.get? b=some ob)->Q none { s with heap:=h',toks:=tk }):JY (J0 prog w) A (getAttr? (.ref a) "keys") Q E s:=by
 obtain⟨c,u,dat,p⟩:=o
 simp only at m f hd
 subst m f hd;obtain⟨r,g,d,tk,q⟩:=s;have n:∀ i,(⟨r,g,d,i,q⟩:JV).TypeIs (.ref a) "list":=fun _=>⟨_,l,rfl⟩;have H:=sub_AttributeError;have G:=F.slot_list_getattribute.lookup;have B:=F.slot_list_getattribute.bind (.ref a);have z:=am_list_getattr_none;unfold getAttr? getAttrBy? getAttrBy
 repeat (any_goals (first | assumption | exact n _ | ((with_reducible show JY _ _ (call (Value.builtin "list.__getattribute__") _ _) _ _ _);refine call_meets F.slot_list_getattribute (n _) am_entry_list_getattribute (F.args_list_getattribute_2 _ _) (meets_getattribute_miss_list a xs k p "keys" _ PP (by decide +kernel)) ⟨l,t,fun h' i e j=>?_⟩) | wp_step))
 obtain⟨x,v,y⟩:=j.there
 show JY _ _ (getattributeRaised _ _ _ _ _ _ _) _ _ _
 unfold getattributeRaised
 repeat (any_goals (first | assumption | wp_step))
 exact h _ _ j.keeps
end
theorem Ed:entryFor table "dict.update.loop"=some Builtin.«dict.update.loop»:=entryFor_of_tree (by kernel_rfl)
theorem wG:plainId "dict.update.loop"=true:=by decide +kernel
section
variable {κ:Type}[DecidableEq κ]
def iU(key:Nat->κ)(b:Nat->JW)(a:Nat->YP):Nat->List (κ × JW × YP)
 | 0=>[]
 | i+1=>storedH (iU key b a i) (key i) (b i) (a i)
variable {key:Nat->κ}{kad:Nat->JW}{val:Nat->YP}
theorem zP:∀ i,(iU key kad val i).length<=i
 | 0=>Qk _
 | i+1=>by
  have:=zP i
  unfold iU storedH;split
  ·rw [Ql];lia
  ·rw [Qf,QF];lia
theorem zQ:∀ i,∀ x∈iU key kad val i,∃ j,j<i/\x.1=key j/\x.2.1=kad j
 | 0,x,h=>nomatch h
 | i+1,x,h=>by
  unfold iU storedH at h
  split at h
  ·obtain⟨y,c,rfl⟩:=QT.mp h;obtain⟨j,d,b,a⟩:=zQ i y c
   refine⟨j,by lia,?_⟩
   unfold putAt;split
   ·exact⟨b,a⟩
   ·exact⟨b,a⟩
  ·rcases Qx.mp h with h | h
   ·obtain⟨j,d,e⟩:=zQ i x h
    exact⟨j,by lia,e⟩
   ·rw [Qm]at h;subst h
    exact⟨i,by lia,rfl,rfl⟩
end
section
variable {prog:JZ}{w:J1}{κ:Type}[DecidableEq κ]{knd:HeapKind prog w κ}{A:Around}{R:Result->JV->Prop}{I:JW}{fp wr:List JW}{G:Array UY->Array UY->Prop}{n:Nat}{Pv:Nat->YP->Prop}{St:Nat->JV->Prop}
theorem Nc(W:WalksS prog w A.in1 I fp wr G n Pv St)(S:JW)(N:S∉fp)(hu:knd.room A.in1)(key:Nat->κ)(a:Nat->JW)(f:Nat->YP)(r:Heap)(res:YP)
  (l:∀(h h':Heap) k b,knd.is h k b->(∀ b o,h.get? b=some o->h'.get? b=some o)->knd.is h' k b)
  (g:∀ b o,r.get? b=some o->b≠S/\b∉wr) (F:∀ i v,i<n->Pv i v->∃ b,v=.ref b/\r.IsTuple b #[.ref (a i),f i]) (y:∀ i,i<n->knd.is r (key i) (a i)) (E:n<=1000):
  ∀(k i:Nat) (s:JV) (c:Int) (t:Tok),n-i=k->i<=n->St i s->(∀ b o,r.get? b=some o->s.heap.get? b=some o)->
   s.heap.DictOfH knd S (iU key a f i)->
   (∀ s',Moved (S::wr) G s s'->(∀ b o,r.get? b=some o->s'.heap.get? b=some o)->s'.heap.DictOfH knd S (iU key a f n)->R (.ok (.ret res)) s')->
   ZY (J0 prog w) A (.builtin "dict.update.loop" ⟨[.ref S,.ref I,.int c t,res],[]⟩) R s:=by
 have a6:S∉wr:=fun h=>N (W.sub _ h);have u:∀ b∈wr,b∈S::wr:=fun b E=>Qg _ E
 have K:∀(s s':JV) i,i<=n->Moved wr G s s'->(∀ b o,r.get? b=some o->s'.heap.get? b=some o)->s.heap.DictOfH knd S (iU key a f i)->s'.heap.DictOfH knd S (iU key a f i):=fun s s' i hi p X Q=>by
  obtain⟨o,es,ep,ho,a2,hd,he,a8,Z⟩:=Q
  refine⟨o,es,ep,p.heap S _ a6 ho,a2,hd,he,fun x hx=>?_,Z⟩
  obtain⟨j,hj,e1,e2⟩:=zQ i x hx;rw [e1,e2];exact l _ _ _ _ (y j (by lia)) X
 intro k
 induction k with
 | zero=>
  intro i s c t hk hi z X Q hR
  have a1:i=n:=by lia
  subst a1;refine YN Ed ?_;rw [YC wG _]
  show JY _ A.in1 (Z1 (.ref I) >>= _) _ _ s
  refine Qa (W.done s _ _ z fun s' p=>?_)
  show JY _ A.in1 (Builtin.Dict.addKeywords S [] >>= fun _=>ret res) _ _ s'
  have d:∀ b o,r.get? b=some o->s'.heap.get? b=some o:=fun b o e=>p.heap b o (g b o e).2 (X b o e);exact Qa (Qb (Qb (hR s' (p.mono u) d (K s s' i (Qk _) p d Q))))
 | succ k ih=>
  intro i s c t hk hi z X Q hR
  have q:i<n:=by lia
  refine YN Ed ?_;rw [YC wG _]
  show JY _ A.in1 (Z1 (.ref I) >>= _) _ _ s
  refine Qa (W.item i s _ _ q z fun v s' hP H p=>?_);obtain⟨b,rfl,ot,J,a5,nt,a3⟩:=F i v q hP;have d:∀ b o,r.get? b=some o->s'.heap.get? b=some o:=fun b o e=>p.heap b o (g b o e).2 (X b o e);have a7:=K s s' i (by lia) p d Q;have a0:knd.is s'.heap (key i) (a i):=l _ _ _ _ (y i q) d;refine Qa (Q7 (Qa (Uk ?_)));unfold Builtin.Dict.pairItems;refine Qa (Y2 (T:="tuple") ⟨ot,d _ _ J,a5⟩ ?_);rw [if_pos (by decide)];refine Qa (Ji (d _ _ J) a3 (Qb ?_))
  show JY _ A.in1 (holding [J5 (a i),f i] (dictSet S (.ref (a i)) (f i))) _ _ s'
  refine Q7 (wpAny_dictSet_heap hu a0 a7 (fun h' a4 B=>?_) (Qv (zP i) (by rw [sizeLine];lia)))
  have m:Moved (S::wr) G s { s' with heap:=h',toks:=s'.toks+knd.draws (key i) }:=
   (p.mono u).then_heap (Yx _ _) fun b o E e=>by rw [B.2 b (fun h:b=S=>E (by rw [h];exact Qd))];exact e
  refine Qb ⟨Jf wG _,ih (i+1) _ (c+1) 0 (by lia) q (W.frame _ s' _ _ H (Yx _ _) fun b E o e=>?_) (fun b o e=>?_) a4 fun Y M U O=>?_⟩
  ·rw [B.2 b (fun h:b=S=>N (by rw [<- h];exact E))];exact e
  ·show h'.get? b=some o
   rw [B.2 b (g b o e).1];exact d b o e
  ·exact hR Y (Moved.trans W.gtrans m M) U O
end
section
variable {prog:JZ}{w:J1}{κ:Type}[DecidableEq κ]{knd:HeapKind prog w κ}{A:Around}{E:YP->JV->Prop}{s:JV}
theorem MQ{l:JW}{items:Array YP}{K:Nat}{W:Array (Option YP)}{Q:YP->JV->Prop}(key:Nat->κ)(f:Nat->JW)(m:Nat->YP)
  (p:∀(h h':Heap) k b,knd.is h k b->(∀ b o,h.get? b=some o->h'.get? b=some o)->knd.is h' k b)
  (O:A.handled=none) (hu:∀ B:Around,B.units<=A.units+8->knd.room B) (X:s.heap.get? l=some { cls:=.type "list",dict:=none,data:=.seq items K,slots:=W })
  (hi:∀ i v,items[i]?=some v->∃ b,v=.ref b/\s.heap.IsTuple b #[.ref (f i),m i]) (hk:∀ i,i<items.size->knd.is s.heap (key i) (f i)) (hb:items.size<=1000)
  (h:∀(h':Heap) (tk:Nat),h'.DictOfH knd s.heap.objs.size (iU key f m items.size)->(∀ b o,s.heap.get? b=some o->h'.get? b=some o)->Q (.ref s.heap.objs.size) { s with heap:=h',toks:=tk }):
  JY (J0 prog w) A (call (.type "dict") [.ref l]) Q E s:=by
 refine callType_codes (Q₁:=fun u g=>u=.ref s.heap.objs.size/\g={ s with heap:=s.heap.push { cls:=.type "dict",data:=.dict #[] } }) F.kt_called_dict (F.kt_typeCall_dict_1 _) F.entry_dict_init (kt_code_dict_new _ ⟨rfl,rfl⟩) ?_;rintro u g ⟨rfl,rfl⟩;have j:(s.heap.push { cls:=.type "dict",data:=.dict #[] }).DictOfH knd s.heap.objs.size []:=Heap.DictOfH.new s.heap;have r:(s.heap.push { cls:=.type "dict",data:=.dict #[] }).get? l=some { cls:=.type "list",dict:=none,data:=.seq items K,slots:=W }:=Qc _ X
 refine⟨j.typeIs,F.args_dict_init_2 _ _,?_⟩
 unfold Builtin.«dict.__init__»;refine Qa ?_;unfold Builtin.Dict.selfAndRest;refine Qa (Uq j.typeIs ?_)
 show JY _ _ (pure (s.heap.objs.size,[J5 l])) _ _ _
 refine Qb ?_
 show JY _ _ (ZQ "dict.__init__" s.heap.objs.size (.ref l) [] .none) _ _ _
 unfold ZQ;refine Qa (Y2 (T:="list") ⟨_,r,rfl⟩ ?_);rw [if_pos (by decide)];refine Qa (Ol r rfl rfl rfl (by first | exact O | simp [O]) fun a n c=>?_);rw [if_pos (by decide)];have G:a.IsList l items:=⟨_,c _ _ r,rfl,K,rfl⟩;refine Qa (JJ (Qa (Ug (s:={ s with heap:=a,toks:=n }) G ?_)));refine Qb ⟨Jf wG _,?_⟩;have H:a.get? s.heap.objs.size=some { cls:=.type "dict",data:=.dict #[] }:=c _ _ (Qt _ rfl);have d:s.heap.objs.size<a.objs.size:=Qo H;have z:l<s.heap.objs.size:=Qo X;have x:l≠a.objs.size:=Qw (Nat.lt_trans z d)
 have N:A.in1.in1.handled=none:=by simp [O]
 have t:∀ b o,s.heap.get? b=some o->(a.push { cls:=ZR "list_iterator",data:=Data.fields #[J5 l,Value.int 0 0] }).get? b=some o:=fun b o e=>
  Qc _ (c b o (Qc _ e))
 refine Nc (knd:=knd) ((Walks.list N a.objs.size l x items).toS) s.heap.objs.size ?hSf (hu _ (by show A.units+1+1<=_;lia)) key f m s.heap .none p ?hold (fun i v _ hv=>hi i v hv) (fun i M=>hk i M) hb (items.size-0) 0 _ 0 0 (by lia) (QY _)
  ⟨⟨_,Qt _ rfl,rfl,rfl⟩,G.push _⟩ t ?hS0 ?hR
 case hSf=>
  simp only [Qi,Qm,Ju,or_false,not_or]
  exact⟨Qw d,YF z⟩
 case hold=>
  intro b o e;have q:b<s.heap.objs.size:=Qo e
  refine⟨Qw q,fun y=>?_⟩
  have S:b=a.objs.size:=Qm.mp y;rw [S]at q;exact absurd (Nat.lt_trans q d) (Y1 _)
 case hS0=>exact⟨_,#[],0,Qc _ H,⟨rfl,rfl,rfl⟩,rfl,rfl,fun _ Z=>by simp [iU]at Z,Jv⟩
 case hR=>
  intro Y y h0 U;obtain⟨h',g',d',I,J⟩:=Y;have eg:g'=s.gens:=y.gens;have ed:d'=s.drawn:=y.drawn;have eo:J=s.os:=y.os;subst eg;subst ed;subst eo
  exact⟨rfl,h h' I U h0⟩
end
end DC
namespace DC
open PySem.Spec L2 DL ST SL
def cH:D->Option (List Int)
 | .tuple a=>eA a
 | _=>none
theorem Fr:∀ ks:List Int,eA (ks.map J4)=some ks
 | []=>rfl
 | k::ks=>by show(eA (ks.map J4)).bind _=_;rw [Fr ks];rfl
theorem M3(ks:List Int):cH (oG ks)=some ks:=Fr ks
theorem Ab{K:PySem.W.Frag}{H:Hp}{k:eN}{b:JW}{ks:List Int}(h:nU K H k b):cH (qL k)=some ks ↔ k=.inl ks:=by
 cases k with
 | inl c=>
  show cH (oG c)=some ks ↔ _
  rw [M3];constructor
  ·intro e;cases e;rfl
  ·intro e;cases e;rfl
 | inr a=>
  obtain⟨n,_⟩:=h
  cases a with
  | nil=>exact absurd rfl n
  | cons x d=>
   constructor
   ·intro e;cases e
   ·intro e;cases e
theorem nK{K:PySem.W.Frag}{F:JW->Prop}{H:Hp}{d:D}{v:V}{c:List Int}(r:aR K F H d v)(h:cH d=some c):∃ b,v=.ref b/\bQ K H b (c.map V.int):=by
 cases r with
 | @tup a vs ds h1 r1=>
  rw [Ft r1 (show eA ds=some c from h)]at h1
  exact⟨a,rfl,h1⟩
 | _=>cases h
def fH(kvs:List (D × D))(k:List Int):Bool:=kvs.any fun p=>cH p.1 == some k
def getD(kvs:List (D × D))(k:List Int):Option D:=(kvs.find? fun p=>cH p.1 == some k).map (·.2)
def gU(kvs:List (D × D))(k:List Int)(v:D):List (D × D):=if fH kvs k=true then kvs.map fun p=>if(cH p.1 == some k)=true then(p.1,v)else p else kvs++[(oG k,v)]
abbrev cS:=eN × JW × V
def mV(es:List cS)(k:List Int):Bool:=es.any fun e=>decide (e.1=.inl k)
def i8(es:List cS)(k:List Int)(b:JW)(v:V):List cS:=if mV es k=true then es.map fun e=>if e.1=.inl k then(e.1,e.2.1,v)else e else es++[(.inl k,b,v)]
theorem wQ{K:PySem.W.Frag}{H:Hp}{k:eN}{b:JW}{a:List Int}(h:nU K H k b):(cH (qL k) == some a)=decide (k=.inl a):=by
 by_cases c:k=.inl a
 ·rw [decide_eq_true c,(Ab h).mpr c,beq_self_eq_true]
 ·rw [decide_eq_false c];exact beq_eq_false_iff_ne.mpr fun e=>c ((Ab h).mp e)
section
variable {K:PySem.W.Frag}{F:JW->Prop}{H:Hp}
theorem DReps.has:∀{kvs:List (D × D)}{es:List cS} (k:List Int),DReps K F H kvs es->fH kvs k=mV es k
 | _,_,_,.nil=>rfl
 | _,_,k,.cons h r t=>by
  have:=DReps.has k t
  unfold fH mV at this ⊢;rw [JE,JE,this,wQ h]
theorem DReps.append:∀{kvs kvs':List (D × D)}{es es':List cS},DReps K F H kvs es->DReps K F H kvs' es'->DReps K F H (kvs++kvs') (es++es')
 | _,_,_,_,.nil,s=>s
 | _,_,_,_,.cons h r t,s=>.cons h r (DReps.append t s)
theorem DReps.repl{k:List Int}{d:D}{v:V}(a:aR K F H d v):∀{kvs:List (D × D)}{es:List cS},DReps K F H kvs es->
  DReps K F H (kvs.map fun p=>if(cH p.1 == some k)=true then(p.1,d)else p) (es.map fun e=>if e.1=.inl k then(e.1,e.2.1,v)else e)
 | _,_,.nil=>.nil
 | _,_,@DReps.cons _ _ _ k' b d' v' _ _ h r t=>by
  rw [Qp,Qp];by_cases c:k'=.inl k
  ·rw [if_pos (by rw [wQ h,decide_eq_true c]),if_pos c];exact .cons h a (DReps.repl a t)
  ·rw [if_neg (by rw [wQ h,decide_eq_false c];decide),if_neg c];exact .cons h r (DReps.repl a t)
theorem DReps.put{k:List Int}{b:JW}{d:D}{v:V}{kvs:List (D × D)}{es:List cS}(t:DReps K F H kvs es)(e:bQ K H b (k.map V.int))(a:aR K F H d v):DReps K F H (gU kvs k d) (i8 es k b v):=by
 unfold gU i8;rw [DReps.has k t];by_cases c:mV es k=true
 ·rw [if_pos c,if_pos c];exact DReps.repl a t
 ·rw [if_neg c,if_neg c];exact DReps.append t (.cons (k:=.inl k) e a .nil)
theorem DReps.get:∀{kvs:List (D × D)}{es:List cS} (k:List Int) {d:D},DReps K F H kvs es->getD kvs k=some d->∃ b v,(es.find? fun e=>decide (e.1=.inl k))=some (.inl k,b,v)/\aR K F H d v
 | _,_,_,_,.nil,h=>by cases h
 | _,_,k,d,@DReps.cons _ _ _ k' b d' v' _ _ h r t,e=>by
  unfold getD at e;rw [Ja]at e;rw [Ja,wQ h]at *;by_cases c:k'=.inl k
  ·rw [decide_eq_true c]at e ⊢;cases e;subst c
   exact⟨b,v',rfl,r⟩
  ·rw [decide_eq_false c]at e ⊢;exact DReps.get k t e
theorem DReps.length:∀{kvs:List (D × D)}{es:List cS},DReps K F H kvs es->kvs.length=es.length
 | _,_,.nil=>rfl
 | _,_,.cons h r t=>by simp [DReps.length t]
def dE(kvs:List (D × D)):Bool:=kvs.all fun p=>(cH p.1).isSome
theorem DReps.flat:∀{kvs:List (D × D)}{es:List cS},DReps K F H kvs es->dE kvs=true->∀ e∈es,∃ ks,e.1=.inl ks/\bQ K H e.2.1 (ks.map V.int)
 | _,_,.nil,_,e,a=>nomatch a
 | _,_,.cons h r t,f,e,a=>by
  unfold dE at f;rw [List.all_cons,Qy]at f;rcases Qi.mp a with rfl | a
  ·obtain⟨ks,q⟩:=Option.isSome_iff_exists.mp f.1
   have:=(Ab h).mp q
   refine⟨ks,this,?_⟩
   dsimp only at this ⊢;subst this;exact h
  ·exact DReps.flat t f.2 e a
end
abbrev jN:=List Int × JW × YP
abbrev ER:cS->jN->Prop:=fun e x=>e.1=.inl x.1/\e.2.1=x.2.1/\RelV e.2.2 x.2.2
theorem uX(k:List Int):∀{es:List cS}{xs:List jN},Paired ER es xs->mV es k=(U2 xs k).isSome
 | _,_,.nil=>rfl
 | _,_,@Paired.cons _ _ _ e x es xs h t=>by
  have b:=uX k t;unfold mV at b ⊢;rw [JE,b];by_cases c:x.1=k
  ·have a:U2 (x::xs) k=some x.2:=by simp [U2,Ja,c]
   rw [a,decide_eq_true (by rw [h.1,c])];rfl
  ·have a:U2 (x::xs) k=U2 xs k:=by simp [U2,Ja,c]
   rw [a,decide_eq_false (by rw [h.1];intro z;cases z;exact c rfl)];rfl
theorem Eh{k:List Int}{v:V}{u:YP}(a:RelV v u):∀{es:List cS}{xs:List jN},Paired ER es xs->Paired ER (es.map fun e=>if e.1=.inl k then(e.1,e.2.1,v)else e) (xs.map (putAt k u))
 | _,_,.nil=>.nil
 | _,_,@Paired.cons _ _ _ e x es xs h t=>by
  rw [Qp,Qp];refine .cons ?_ (Eh a t);unfold putAt;by_cases c:x.1=k
  ·rw [if_pos c,if_pos (by rw [h.1,c])];exact⟨h.1,h.2.1,a⟩
  ·rw [if_neg c,if_neg (by rw [h.1];intro z;cases z;exact c rfl)];exact h
theorem zH{k:List Int}{b:JW}{v:V}{u:YP}(a:RelV v u){es:List cS}{xs:List jN}(t:Paired ER es xs):Paired ER (i8 es k b v) (storedH xs k b u):=by
 unfold i8 storedH;rw [uX k t];by_cases c:(U2 xs k).isSome=true
 ·rw [if_pos c,if_pos c];exact Eh a t
 ·rw [if_neg c,if_neg c];exact Paired.snoc t ⟨rfl,rfl,a⟩
theorem uY:∀{es:List cS}{xs:List jN},Paired ER es xs->es.map (·.1)=(xs.map (·.1)).map Sum.inl
 | _,_,.nil=>rfl
 | _,_,.cons h t=>by rw [Qp,Qp,Qp,uY t,h.1]
theorem zG{k:List Int}{b:JW}{v:V}:∀{es:List cS}{xs:List jN},Paired ER es xs->(es.find? fun e=>decide (e.1=.inl k))=some (.inl k,b,v)->∃ p,U2 xs k=some p/\RelV v p.2
 | _,_,.nil,q=>by cases q
 | _,_,@Paired.cons _ _ _ e x es xs h t,q=>by
  rw [Ja]at q;by_cases c:x.1=k
  ·have a:U2 (x::xs) k=some x.2:=by simp [U2,Ja,c]
   rw [decide_eq_true (by rw [h.1,c])]at q;cases q
   exact⟨_,a,h.2.2⟩
  ·have a:U2 (x::xs) k=U2 xs k:=by simp [U2,Ja,c]
   rw [decide_eq_false (by rw [h.1];intro z;cases z;exact c rfl)]at q;rw [a];exact zG t q
theorem Pl{l:List (List Int)}(h:l.Nodup):(l.map (Sum.inl:List Int->eN)).Nodup:=by
 rw [List.Nodup,Q2];exact List.Pairwise.imp (fun n e=>n (Sum.inl.inj e)) h
theorem Pm{l:List (List Int)}(h:(l.map (Sum.inl:List Int->eN)).Nodup):l.Nodup:=by
 rw [List.Nodup,Q2]at h;exact List.Pairwise.imp (fun n e=>n (by rw [e])) h
abbrev fO(P:JZ)(w:J1):HeapKind P w (List Int):=tupleKind (intKind P w)
theorem l5{X:Cx}{pins:List (JW × Obj)}{u:L2.St}{H:Hp}{s:JV}{a:JW}{es:List cS}{j:Nat}(I:Inv X pins u H s)(h:H a=some (cA a es j))(d:∀ e∈es,∃ ks,e.1=.inl ks/\bQ X.K H e.2.1 (ks.map V.int))(n:(es.map (·.1)).Nodup):
  (a == Zl)=false/\∃ xs:List jN,s.heap.DictOfH (fO X.prog X.w) a xs/\Paired ER es xs:=by
 obtain⟨⟨v,o,f,E,B,A,z⟩,_⟩:=(show gF X.prog X.w H s.heap a (cA a es j)from I.hok a _ h)
 have mk:∀{l:List cS}{r:List ZF},Paired (fun(e:eN × JW × V) (r:ZF)=>r.hash=Go e.1/\r.key=.ref e.2.1/\RelV e.2.2 r.val) l r->(∀ e∈l,∃ ks,e.1=.inl ks/\bQ X.K H e.2.1 (ks.map V.int))->
   ∃ xs:List jN,r=xs.map (entryOfKey (fO X.prog X.w))/\Paired ER l xs/\∀ x∈xs,(fO X.prog X.w).is s.heap x.1 x.2.1:=by
  intro l r q
  induction q with
  | nil=>exact fun _=>⟨[],rfl,.nil,fun x b=>nomatch b⟩
  | @cons e r l rs h t ih=>
   intro d;obtain⟨xs,i,c,g⟩:=ih fun e y=>d e (Qg _ y);obtain⟨ks,p,F⟩:=d e Qd
   refine⟨(ks,e.2.1,r.val)::xs,?_,.cons ⟨p,rfl,h.2.2⟩ c,fun x b=>?_⟩
   ·rw [Qp,<- i];congr 1;obtain⟨N,M,J⟩:=r;obtain⟨m,k,G⟩:=h;dsimp only at m k ⊢;subst m k;rw [p];rfl
   ·rcases Qi.mp b with rfl | b
    ·exact i1 I F
    ·exact g x b
 obtain⟨xs,i,c,g⟩:=mk z d
 refine⟨v,xs,⟨o,f,j,E,B,A,i,g,?_⟩,c⟩
 rw [uY c]at n;exact Pm n
theorem rQ{P:JZ}{w:J1}{H:Hp}{h:Heap}{a:JW}{es:List cS}{xs:List jN}(c:(a == Zl)=false)(d:h.DictOfH (fO P w) a xs)(r:Paired ER es xs):∃ ep,gF P w H h a (cA a es ep):=by
 obtain⟨o,b,ep,f,j,i,g,m,l⟩:=d;clear m l
 refine⟨ep,⟨c,o,b,f,j,i,?_⟩,⟨o,f⟩,fun p n ⟨c,o,b,s,q⟩ k=>⟨c,o,b,k _ s,q⟩⟩
 rw [g];clear f j i g
 induction r with
 | nil=>exact .nil
 | @cons e x es xs h t ih=>
  rw [Qp];refine .cons ⟨?_,?_,h.2.2⟩ ih
  ·rw [h.1];rfl
  ·rw [h.2.1];rfl
end DC
namespace DC
open PySem.Spec L2 DL ST SL
section
variable {X:Cx}
def cX(neg:Bool)(d e:D):Option D:=match e with
 | .dict a=>(cH d).bind fun k=>if dE a=true then some (.bool (if neg then !fH a k else fH a k))else none
 | e=>fW neg d e
theorem vU{neg:Bool}{d r:D}{kvs:List (D × D)}(h:cX neg d (.dict kvs)=some r):∃ k,cH d=some k/\dE kvs=true/\r=.bool (if neg then !fH kvs k else fH kvs k):=by
 obtain⟨k,a,q⟩:=aJ (show((cH d).bind fun k=>if dE kvs=true then some (Zf (if neg then !fH kvs k else fH kvs k))else none)=some r from h);by_cases c:dE kvs=true
 ·rw [if_pos c]at q;cases q;exact⟨k,a,c,rfl⟩
 ·rw [if_neg c]at q;cases q
theorem qY(E:X.A.units+65<Za):bN X (Zc .In) (dB X.K (cX false)):=fun c s B H x y v u Q I m j J=>by
 obtain⟨F,d,e,q,z,p,R2,g,k⟩:=J
 cases R2 with
 | @dct a es kvs ep f h n l t=>
  obtain⟨i,G,o,rfl⟩:=vU g;obtain⟨b,rfl,N⟩:=nK p G;cases m;cases j;obtain⟨M,S,dd,O⟩:=l5 I h (DReps.flat t o) n;refine wpAny_in_heap (knd:=fO X.prog X.w) (k:=i) (show X.A.in1.units<Za from by show X.A.units+1<Za;lia) (i1 I N) M dd ?_;rw [<- uX i O,<- DReps.has i t]
  exact⟨.bl _,H,I.tok _,rfl,k F H _ (aH.refl F H) (.bl _)⟩
 | exn f h n=>
  obtain⟨i,G,o,_⟩:=vU g;cases o
 | tup h r=>exact qX E c s B H _ _ v u Q I m j ⟨F,d,_,q,z,p,.tup h r,g,k⟩
 | lst h r=>exact qX E c s B H _ _ v u Q I m j ⟨F,d,_,q,z,p,.lst h r,g,k⟩
 | non=>cases g
 | bl _=>cases g
 | int _=>cases g
 | str _=>cases g
theorem mF(E:X.A.units+65<Za):bN X (Zc .NotIn) (dB X.K (cX true)):=fun c s B H x y v u Q I m j J=>by
 obtain⟨F,d,e,q,z,p,R2,g,k⟩:=J
 cases R2 with
 | @dct a es kvs ep f h n l t=>
  obtain⟨i,G,o,rfl⟩:=vU g;obtain⟨b,rfl,N⟩:=nK p G;cases m;cases j;obtain⟨M,S,dd,O⟩:=l5 I h (DReps.flat t o) n;refine wpAny_notIn_heap (knd:=fO X.prog X.w) (k:=i) (show X.A.in1.units<Za from by show X.A.units+1<Za;lia) (i1 I N) M dd ?_;rw [<- uX i O,<- DReps.has i t]
  exact⟨.bl _,H,I.tok _,rfl,k F H _ (aH.refl F H) (.bl _)⟩
 | exn f h n=>
  obtain⟨i,G,o,_⟩:=vU g;cases o
 | tup h r=>exact AK E c s B H _ _ v u Q I m j ⟨F,d,_,q,z,p,.tup h r,g,k⟩
 | lst h r=>exact AK E c s B H _ _ v u Q I m j ⟨F,d,_,q,z,p,.lst h r,g,k⟩
 | non=>cases g
 | bl _=>cases g
 | int _=>cases g
 | str _=>cases g
def kJ(d e:D):Option D:=match d with
 | .dict a=>(cH e).bind fun k=>if dE a=true then getD a k else none
 | d=>bH d e
theorem tV(hu:X.A.units+65<Za):hE X (dB X.K kJ):=fun c g j s o H x y v u Q I E B S J=>by
 obtain⟨F,d,e,q,z,R1,R2,i,k⟩:=S
 cases R1 with
 | @dct a es kvs ep f h n l t=>
  obtain⟨G,O,i⟩:=aJ (show((cH e).bind fun k=>if dE kvs=true then getD kvs k else none)=some q from i);by_cases M:dE kvs=true
  ·rw [if_pos M]at i;obtain⟨b,rfl,U⟩:=nK R2 O;cases E;cases B;obtain⟨lo,xs,dd,er⟩:=l5 I h (DReps.flat t M) n;obtain⟨b',T,g1,Z⟩:=DReps.get G t i;obtain⟨p,Y,W⟩:=zG er g1;have N:=dd.typeIs;unfold UB;refine Qa ?_;rw [Ur N.not_modules];refine Qa (JA N PySem.F.slot_dict_getitem.lookup ?_)
   have fin:JY (J0 X.prog X.w) X.A (UV g false (.ref a) (.ref b)) (fun r m=>JY (J0 X.prog X.w) X.A (letTemporaryGo c (.ref a) r >>= fun _=>pure r) (EP X j o Q) X.xe m) X.xe s:=by
    rw [J];refine wpAny_operating ?_;refine wpAny_getItem_heap (knd:=fO X.prog X.w) (k:=G) (show X.A.in1.units<Za from by show X.A.units+1<Za;lia) (i1 I U) dd Y ?_;exact Qa (UK (Qb ⟨T,H,I.tok _,W,k F H _ (aH.refl F H) Z⟩))
   first
    | exact Qb (Qa fin)
    | exact Qa (Qb (Qa fin))
    | exact Qa fin
  ·rw [if_neg M]at i;cases i
 | exn f h n=>
  obtain⟨G,O,i⟩:=aJ i;cases i
 | tup h r=>exact bS c g j s o H _ _ v u Q I E B ⟨F,_,e,q,z,.tup h r,R2,i,k⟩ J
 | lst h r=>exact bS c g j s o H _ _ v u Q I E B ⟨F,_,e,q,z,.lst h r,R2,i,k⟩ J
 | non=>cases i
 | bl _=>cases i
 | int _=>cases i
 | str _=>cases i
end
end DC
namespace DC
open PySem.Spec L2 DL ST SL
def q8:D->Option (List Int × D)
 | .tuple [k,v]=>(cH k).bind fun a=>some (a,v)
 | _=>none
def jH:List D->Option (List (List Int × D))
 | []=>some []
 | d::r=>(q8 d).bind fun p=>(jH r).bind fun a=>some (p::a)
def iB(b:List (List Int × D)):List (D × D):=b.foldl (fun a p=>gU a p.1 p.2) []
def zY:List D->Option D
 | [.list ds]=>if ds.length<=1000 then(jH ds).bind fun a=>some (.dict (iB a))else none
 | _=>none
structure Tr where
 k:List Int
 b:JW
 v:V
 d:D
def Cq(K:PySem.W.Frag)(F:JW->Prop)(H:Hp)(x:V)(t:Tr):Prop:=∃ b,x=.ref b/\bQ K H b [.ref t.b,t.v]/\bQ K H t.b (t.k.map V.int)/\aR K F H t.d t.v
theorem RS{K:PySem.W.Frag}{F:JW->Prop}{H:Hp}{d:D}{x:V}{p:List Int × D}(r:aR K F H d x)(h:q8 d=some p):∃ t,p=(t.k,t.d)/\Cq K F H x t:=by
 cases r with
 | @tup a vs ds h1 r1=>
  unfold q8 at h
  split at h
  ·rename_i k v e;cases e;obtain⟨j,m,h⟩:=aJ h;cases h
   cases r1 with
   | cons f i=>
    cases i with
    | cons c g=>
     cases g;obtain⟨b,rfl,l⟩:=nK f m
     exact⟨⟨j,b,_,v⟩,rfl,a,rfl,h1,l,c⟩
  ·cases h
 | _=>cases h
theorem Hi{K:PySem.W.Frag}{F:JW->Prop}{H:Hp}:∀{ds:List D}{vs:List V}{ps:List (List Int × D)},Reps K F H ds vs->jH ds=some ps->∃ ts:List Tr,ps=ts.map (fun t=>(t.k,t.d))/\Paired (Cq K F H) vs ts
 | _,_,_,.nil,h=>by cases h;exact⟨[],rfl,.nil⟩
 | _,_,_,.cons r rs,h=>by
  obtain⟨p,c,h⟩:=aJ h;obtain⟨ps,b,h⟩:=aJ h;cases h;obtain⟨t,rfl,q⟩:=RS r c;obtain⟨ts,rfl,a⟩:=Hi rs b
  exact⟨t::ts,rfl,.cons q a⟩
theorem Paired.at{c d:Type}{R:c->d->Prop}:∀{l:List c}{m:List d}{i:Nat}{a:c},Paired R l m->l[i]?=some a->∃ b,m[i]?=some b/\R a b
 | _,_,_,_,.nil,e=>by simp at e
 | _,_,0,_,.cons h _,e=>by simp at e;subst e;exact⟨_,rfl,h⟩
 | _,_,i+1,_,.cons _ t,e=>by
  obtain⟨b,g,f⟩:=Paired.at t (by simpa using e)
  exact⟨b,by simpa using g,f⟩
theorem Paired.atR{d c:Type}{R:d->c->Prop}:∀{l:List d}{m:List c}{i:Nat}{b:c},Paired R l m->m[i]?=some b->∃ a,l[i]?=some a/\R a b
 | _,_,_,_,.nil,e=>by simp at e
 | _,_,0,_,.cons h _,e=>by simp at e;subst e;exact⟨_,rfl,h⟩
 | _,_,i+1,_,.cons _ t,e=>by
  obtain⟨b,g,f⟩:=Paired.atR t (by simpa using e)
  exact⟨b,by simpa using g,f⟩
theorem pick{P:Nat->YP->Prop}(n:Nat)(h:∀ i,i<n->∃ u,P i u):∃ f:Nat->YP,∀ i,i<n->P i (f i):=by
 classical
 refine⟨fun i=>if c:i<n then Classical.choose (h i c)else .none,fun i a=>?_⟩
 show P i (if c:i<n then Classical.choose (h i c)else .none)
 rw [dif_pos a];exact Classical.choose_spec (h i a)
def i5:Tr:=⟨[],0,.non,.none⟩
theorem Eu{K:PySem.W.Frag}{F:JW->Prop}{H:Hp}(ts:List Tr)(a:Nat->YP)(h:∀ t∈ts,bQ K H t.b (t.k.map V.int)/\aR K F H t.d t.v)(f:∀(i:Nat) t,ts[i]?=some t->RelV t.v (a i)):
  ∀ i,i<=ts.length->∃ es,DReps K F H (iB ((ts.map fun t=>(t.k,t.d)).take i)) es/\Paired ER es (iU (fun i=>(ts.getD i i5).k) (fun i=>(ts.getD i i5).b) a i)
 | 0,_=>⟨[],.nil,.nil⟩
 | i+1,hi=>by
  obtain⟨es,n,m⟩:=Eu ts a h f i (by lia);have c:i<ts.length:=hi
  have j:ts[i]?=some ts[i]:=by simp [c]
  have l:ts.getD i i5=ts[i]:=by simp [List.getD,c]
  have g:=h ts[i] (Yr c)
  refine⟨i8 es ts[i].k ts[i].b ts[i].v,?_,?_⟩
  ·have e:(ts.map fun t=>(t.k,t.d)).take (i+1)=(ts.map fun t=>(t.k,t.d)).take i++[(ts[i].k,ts[i].d)]:=by
    rw [List.take_succ,QS,j];rfl
   rw [e];unfold iB;rw [List.foldl_append];exact DReps.put n g.1 g.2
  ·show Paired ER _ (storedH _ (ts.getD i i5).k (ts.getD i i5).b (a i))
   rw [l];exact zH (f i _ j) m
section
variable {X:Cx}
theorem boot_dict:Zb "dict"=some (.type "dict"):=by decide +kernel
theorem Sv{P:JZ}{w:J1}(h h':Heap)(k:List Int)(b:JW)(x:(fO P w).is h k b)(e:∀ b o,h.get? b=some o->h'.get? b=some o):(fO P w).is h' k b:=TK.at x fun o a=>e b o a
theorem CZ{pins:List (JW × Obj)}{a:L2.St}{H:Hp}{s:JV}(I:Inv X pins a H s):Zl<s.heap.objs.size:=by
 have h:J2<s.heap.objs.size:=(I.mod.glob.keeps I.bk).lt;exact Nat.lt_trans (by decide) h
def Lf(K:PySem.W.Frag):List V->Hp->VK->Prop:=fun b H Q=>∃(F:JW->Prop) (ds:List D) (ps:List (List Int × D)),(∀ a,F a->H a≠none)/\Reps K F H [.list ds] b/\ds.length<=1000/\jH ds=some ps /\
 ∀ p es ep,H p=none->DReps K F H (iB ps) es->(es.map (·.1)).Nodup->es.length<=1000->Q (.ref p) (aP H p (cA p es ep))
theorem zX(hc:X.calm=true)(hu:X.A.units+66<Za):fJ X (.type "dict") (Lf X.K):=fun a0 s σ H xs us Q I rv zz=>by
 obtain⟨F,ds,ps,z,R,hl,e1,k⟩:=zz
 cases R with
 | cons R1 R2=>
  cases R2
  cases R1 with
  | @lst a vs _ h1 r1=>
   obtain⟨u,rfl,ru⟩:=i4 rv;cases ru;obtain⟨f,n,⟨o,nl,g1,g2,g3,g4⟩,_⟩:=I.list h1.sq;obtain⟨c,rfl,p⟩:=Hi r1 e1
   have d:f.length=c.length:=by rw [<- n.length];exact Paired.length p
   have r:c.length<=1000:=by rw [<- Paired.length p,<- r1.length];exact hl
   obtain⟨m,h⟩:=pick (P:=fun i u=>∀ t,c[i]?=some t->RelV t.v u/\∀ v,f[i]?=some v->∃ b,v=.ref b/\s.heap.IsTuple b #[.ref t.b,u]) c.length fun i g=>by
    have l:c[i]?=some c[i]:=by simp [g]
    obtain⟨x,S,b,rfl,J,E,G⟩:=Paired.atR p l;obtain⟨a2,rj,O,_⟩:=I.tuple J
    cases rj with
    | @cons _ u1 _ us1 ra rb=>
     cases rb with
     | @cons _ u2 _ us2 rc rd=>
      cases rd;cases ra
      refine⟨u2,fun t j=>?_⟩
      rw [l]at j;cases j
      refine⟨rc,fun v T=>?_⟩
      obtain⟨w',ew,M⟩:=n.get S;rw [T]at ew;cases ew;cases M
      exact⟨b,rfl,O⟩
   obtain⟨oc,od,a1,N⟩:=o
   have W:s.heap.get? a=some { cls:=.type "list",dict:=none,data:=.seq f.toArray nl,slots:=N }:=by
    rw [g1];simp only at g2 g3 g4;rw [g2,g3,g4]
   refine MQ (knd:=fO X.prog X.w) (fun i=>(c.getD i i5).k) (fun i=>(c.getD i i5).b) m Sv (I.ok.hd hc) (fun B hB=>show B.units<Za by lia) W (fun i v T=>?_) (fun i g=>?_) (by rw [QH,d];exact r) fun h' tk dd keep=>?_
   ·have q:f[i]?=some v:=by simpa using T
    have g:i<c.length:=by rw [<- d];exact(Qe.mp q).1
    have l:c[i]?=some c[i]:=by simp [g]
    have Y:c.getD i i5=c[i]:=by simp [List.getD,g]
    obtain⟨b,e,it⟩:=(h i g _ l).2 v q
    exact⟨b,e,by rw [Y];exact it⟩
   ·have y:i<c.length:=by rw [<- d];simpa using g
    have l:c[i]?=some c[i]:=by simp [y]
    have Y:c.getD i i5=c[i]:=by simp [List.getD,y]
    obtain⟨x,S,b,_,J,E,G⟩:=Paired.atR p l
    show TK X.prog X.w s.heap (c.getD i i5).k (c.getD i i5).b
    rw [Y];exact i1 I E
   ·obtain⟨es,f1,Z⟩:=Eu (K:=X.K) (F:=F) (H:=H) c m (fun t j=>by
     obtain⟨i,g⟩:=List.mem_iff_getElem?.mp j;obtain⟨x,S,b,_,J,E,G⟩:=Paired.atR p g
     exact⟨E,G⟩) (fun i t j=>(h i (Qe.mp j).1 t j).1) c.length (Qk _)
    rw [List.take_of_length_le (by simp)]at f1
    have U:f.toArray.size=c.length:=by rw [QH,d]
    rw [U]at dd;have lo:(s.heap.objs.size == Zl)=false:=beq_eq_false_iff_ne.mpr (Zx (Qw (CZ I)));have hp:H s.heap.objs.size=none:=I.hok.fresh (Qk _);obtain⟨ep,oo⟩:=rQ (H:=H) lo dd Z
    refine⟨.ref s.heap.objs.size,aP H s.heap.objs.size (cA s.heap.objs.size es ep),I.laid keep (Qk _) oo,rfl,k _ es ep hp f1 ?_ ?_⟩
    ·obtain⟨_,_,_,_,_,_,_,_,hn⟩:=dd;rw [uY Z];exact Pl hn
    ·rw [Paired.length Z];exact Qv (zP _) r
theorem Mu(h:X.calm=true)(g:X.A.units+66<Za):fJ X (.type "dict") (jA X.K zY):=rM (zX h g) fun j H Q e=>by
 obtain⟨F,s,q,z,R,a,k⟩:=e;unfold zY at a
 split at a
 ·rename_i b;by_cases c:b.length<=1000
  ·rw [if_pos c]at a;obtain⟨f,i,a⟩:=aJ a;cases a
   exact⟨F,b,f,z,R,c,i,fun p m o d r n l=>k _ _ _ (aH.frozen d) (.dct (.inr rfl) cQ n l (r.stay (aH.frozen d).stay))⟩
  ·rw [if_neg c]at a;cases a
 ·cases a
end
end DC
namespace DC
open PySem.Spec L2 DL ST SL EL
def bO(b:aA->Option D):aA->Option (List D):=fun a=>(b a).bind m8
def iM(b:aA->Option (List D)):aA->Option (List D):=fun a=>(b a).bind oM
def qM(b:aA->Option (List D)):aA->Option (List D):=fun a=>(b a).bind BF
def pM(b:aA->Option (List D)):aA->Option (List D):=fun a=>(b a).bind zE
section
variable {X:Cx}{tg e a b:Expr}{es:List Expr}{ga:aA->Option D}{gr:aA->Option (List D)}{p pos:Pos}
theorem dZ(a:DE X e ga):DI X tg e (bO ga):=ES a
theorem o6(c:Gl X "range")(b:X.mg "range"=none)(d:DA X [a] gr)(hs:JX [a] X.env=[(false,Zk a X.env)]:=by rfl):DI X tg (.Call (.Name "range" p) [a] [] pos) (iM gr):=M9 c b d hs
theorem M8{d:List Expr}{x1}{c:Pos}(g:Gl X "zip")(f:X.mg "zip"=none)(h:DA X [a,b] gr)(hs:JX [a,b] X.env=[(false,Zk a X.env),(false,Zk b X.env)]:=by rfl)(e:JX [b] X.env=[(false,Zk b X.env)]:=by rfl):
  DI X (.Tuple d x1 c) (.Call (.Name "zip" p) [a,b] [] pos) (qM gr):=Na g f h hs e
theorem EQ{c:List Expr}{x1}{b:Pos}(e:Gl X "enumerate")(d:X.mg "enumerate"=none)(f:DA X [a] gr)(hs:JX [a] X.env=[(false,Zk a X.env)]:=by rfl):
  DI X (.Tuple c x1 b) (.Call (.Name "enumerate" p) [a] [] pos) (pM gr):=M5 e d f hs
end
end DC
namespace DL
open PySem.Spec L2
def CD:Sl->Bool
 | .ownD _ | .ownM _=>true
 | _=>false
def oK(i:Nat)(ρ:aA):Bool:=(ρ.set i .no).all fun s => !CD s
theorem Pw{i j:Nat}{ρ:aA}{s:Sl}(h:oK i ρ=true)(a:ρ[j]?=some s)(hs:CD s=true:=by rfl):i=j:=by
 by_cases c:i=j
 ·exact c
 ·have:(ρ.set i .no)[j]?=some s:=by rw [Qz c];exact a
  have:=QM.mp h _ (QP this)
  rw [hs]at this;cases this
theorem bE.putOwnD{K:PySem.W.Frag}{F:JW->Prop}{H H₀:Hp}{d:L2.St}{ρ:List Sl}(S:bE K F H H₀ d ρ){i:Nat}{kvs:List (D × D)}{es:List (eN × JW × V)}{c:Nat}{p:JW}(b:H p=none)(m:H₀ p=none)(n:(es.map (·.1)).Nodup)(l:es.length<=1000)(r:DReps K F H kvs es):
  bE K F (aP H p (cA p es c)) H₀ (d.set i (some (.ref p))) (ρ.set i (.ownD kvs)):=by
 have e:aH F F H (aP H p (cA p es c)):=aH.fresh b;have S':=S.ext e;have k:¬ F p:=fun f=>S.fz p f b
 refine⟨by simp [S.len],fun j s h=>?_,S.sepNew b,S'.fz⟩
 ·by_cases a:i=j
  ·subst a
   have g:i<ρ.length:=by
    have:=Qe.mp h
    simpa using this.1
   rw [QC g]at h;cases h
   exact⟨some (.ref p),by rw [QC (by rw [S.len];exact g)],p,es,c,rfl,cQ,k,m,n,l,r.stay e.stay⟩
  ·rw [Qz a]at h;obtain⟨o,q,w⟩:=S'.sl j s h
   exact⟨o,by rw [Qz a];exact q,w⟩
theorem bE.turnD{K:PySem.W.Frag}{F:JW->Prop}{H H₀:Hp}{B:L2.St}{ρ:List Sl}(S:bE K F H H₀ B ρ){i:Nat}{kvs c:List (D × D)}{es b:List (eN × JW × V)}{ep ep':Nat}{p:JW}(J:ρ[i]?=some (.ownD kvs))(hs:B[i]?=some (some (.ref p)))
  (I:H p=some (cA p es ep)) (A:¬ F p) (h0:H₀ p=none) (E:∀(j:Nat) (k2:List (List Int × List D)),ρ[j]?≠some (.ownM k2)) (n:(b.map (·.1)).Nodup) (l:b.length<=1000) (r:DReps K F H c b):
  bE K F (aP H p (cA p b ep')) H₀ B (ρ.set i (.ownD c))/\bU K F F H (aP H p (cA p b ep')):=by
 have T:bU K F F H (aP H p (cA p b ep')):=⟨fun _ h=>h,fun a O h=>by
   rcases h with(h | ⟨o,h⟩) | h
   ·exact .inl (.inl (by rw [aU (by intro z;subst z;rw [I]at h;cases h)];exact h))
   ·exact .inl (.inr ⟨o,by rw [aU (by intro z;subst z;rw [I]at h;cases h)];exact h⟩)
   ·exact .inr h,fun a O f h=>by
   have m:a≠p:=fun z=>A (by rw [<- z];exact f);rcases h with h | ⟨o,h⟩
   ·exact .inl (by rw [aU m];exact h)
   ·exact .inr ⟨o,by rw [aU m];exact h⟩,fun a φ f h=>by rw [aU (fun z=>A (by rw [<- z];exact f))];exact h⟩
 have X:i<ρ.length:=(Qe.mp J).1
 refine⟨⟨by simp [S.len],fun j s h=>?_,S.sepTurn (x:=.inr kvs) J,fun a f z=>S.fz a f (by
  have m:a≠p:=fun y=>A (by rw [<- y];exact f)
  rwa [aU m]at z)⟩,T⟩
 ·by_cases e:i=j
  ·subst e;rw [QC X]at h;cases h
   exact⟨_,hs,p,b,ep',rfl,cQ,A,h0,n,l,r.stay T⟩
  ·rw [Qz e]at h;obtain⟨o,q,w⟩:=S.sl j s h
   refine⟨o,q,?_⟩
   cases s with
   | no=>trivial
   | ownD k2=>
    obtain⟨a,M,N,k,u,G,g,Q,U,t⟩:=w
    have m:a≠p:=by
     intro z;subst z;exact S.sep i j a (.inr kvs) (.inr k2) e J h hs (by rw [q,k])
    exact⟨a,M,N,k,by rw [aU m];exact u,G,g,Q,U,t.stay T⟩
   | ownM k2=>exact absurd h (E j k2)
   | val R=>obtain⟨v,Z,Y⟩:=w;exact⟨v,Z,fun F2 H2 T2=>Y F2 H2 (T.trans T2)⟩
   | dat d=>obtain⟨v,k,t⟩:=w;exact⟨v,k,t.stay T⟩
   | own a0=>
    obtain⟨a,ws,k,u,G,g,t⟩:=w
    exact⟨a,ws,k,by rw [aU (by intro z;subst z;rw [I]at u;cases u)];exact u,G,g,t.stay T⟩
theorem Px{i:Nat}{ρ:aA}{kvs:List (D × D)}(h:oK i ρ=true)(a:ρ[i]?=some (.ownD kvs))(j:Nat)(k2:List (List Int × List D)):ρ[j]?≠some (.ownM k2):=fun z=>by
 have e:=Pw h z;subst e;rw [a]at z;cases z
end DL
namespace DC
open PySem.Spec L2 DL ST SL EL
def wP(i:Nat)(d:aA->Option (List D)):aA->Option aK:=fun a=>(d a).bind fun b=>match b with
 | [.list ds]=>if ds.length<=1000 then(jH ds).bind fun c=>some (.nx (a.set i (.ownD (iB c))))else none
 | _=>none
def j5(i:Nat)(gk:aA->Option D):aA->Option D:=fun a=>match a[i]? with
 | some (.ownD kvs)=>(gk a).bind fun c=>(cH c).bind fun b=>if dE kvs=true then getD kvs b else none
 | _=>none
def lV(i:Nat)(gk e:aA->Option D):aA->Option aK:=fun a=>match a[i]? with
 | some (.ownD kvs)=>(e a).bind fun d=>(gk a).bind fun c=>(cH c).bind fun b=>if(dE kvs && decide (kvs.length<1000) && oK i a)=true then some (.nx (a.set i (.ownD (gU kvs b d))))else none
 | _=>none
section
variable {X:Cx}{e k v:Expr}{es:List Expr}{gr:aA->Option (List D)}{gk gv:aA->Option D}{p pos:Pos}
theorem Nk{i:Nat}{x y:Str}{b a:Pos}(Q:X.N.Nodup)(M:X.calm=true)(z:X.A.units+66<Za)(J:Gl X y)(G:X.mg y=none)(w:Zb y=some (.type "dict"))(O:DA X (e::es) gr)(I:X.N[i]?=some x:=by rfl)(v:Loc X.env.scope x:=by first | exact ZG rfl | exact Zr rfl)
  (B:y≠"__name__":=by decide) (g:(y == ("__debug__":Str))=false:=by decide) (he:JX (e::es) X.env=(false,Zk e X.env)::JX es X.env:=by rfl) (hpl:(Zi a (JX es X.env)).any (·.1)=false:=by rfl)
  (hs:ZE (.Call (.Name y p) (e::es) [] a) (some (.Name x b)) pos.line X.env=pure false:=by rfl) (K:X.fn x=true ∨ X.env.scope.names.lookup x=some .local:=by first | exact .inl rfl | exact .inr rfl | assumption):
  DS X (.Assign [.Name x b] (.Call (.Name y p) (e::es) [] a) pos) (wP i gr):=ps_mono (pW Q I v (AO (zX M z) J G w O B g he hpl) hs K) fun W Z H t=>by
 obtain⟨j,c,F,s,o,E,S,q,k⟩:=t;obtain⟨xs,U,q⟩:=aJ q
 split at q
 ·rename_i h;by_cases f:h.length<=1000
  ·rw [if_pos f]at q;obtain⟨u,T,q⟩:=aJ q;cases q
   refine⟨F,c,s,[.list h],S,U,fun m H' vs E' Y=>⟨m,h,u,(S.ext E').fz,Y,f,T,fun pp es ep d r n l=>?_⟩⟩
   exact k m _ _ ((E.trans E').trans (aH.fresh d)) (E'.stay.trans (aH.fresh d).stay) ((S.ext E').putOwnD d ((E.trans E').same.free d) n l r)
  ·rw [if_neg f]at q;cases q
 ·cases q
def Li(K:PySem.W.Frag):R2:=fun x y H Q=>∃(F:JW->Prop) (a b:JW) (es:List cS) (ep:Nat) (kvs:List (D × D)) (ks:List Int) (r:D),x=.ref a/\y=.ref b/\bQ K H b (ks.map V.int)/\H a=some (cA a es ep)/\(es.map (·.1)).Nodup/\dE kvs=true/\DReps K F H kvs es/\getD kvs ks=some r/\∀ w,aR K F H r w->Q w H
theorem N9(hu:X.A.units+65<Za):hE X (Li X.K):=fun c d f s j H x y v u Q I z o l E=>by
 obtain⟨F,a,b,es,ep,B,g,q,W,U,J,h,n,T,t,G,k⟩:=l;subst W U;cases z;cases o;obtain⟨lo,Z,dd,Y⟩:=l5 I h (DReps.flat t T) n;obtain⟨b',m,S,O⟩:=DReps.get g t G;obtain⟨p,N,M⟩:=zG Y S;have i:=dd.typeIs;unfold UB;refine Qa ?_;rw [Ur i.not_modules];refine Qa (JA i PySem.F.slot_dict_getitem.lookup ?_)
 have fin:JY (J0 X.prog X.w) X.A (UV d false (.ref a) (.ref b)) (fun r e=>JY (J0 X.prog X.w) X.A (letTemporaryGo c (.ref a) r >>= fun _=>pure r) (EP X f j Q) X.xe e) X.xe s:=by
  rw [E];refine wpAny_operating ?_;refine wpAny_getItem_heap (knd:=fO X.prog X.w) (k:=g) (show X.A.in1.units<Za from by show X.A.units+1<Za;lia) (i1 I J) dd N ?_;exact Qa (UK (Qb ⟨m,H,I.tok _,M,k _ O⟩))
 first
  | exact Qb (Qa fin)
  | exact Qa (Qb (Qa fin))
  | exact Qa fin
theorem EM{i:Nat}{x:Str}(y:X.A.units+65<Za)(z:DE X k gk)(E:X.N[i]?=some x:=by rfl)(v:jQ X.env.scope x:=by first | exact ZG rfl | exact Zr (ZG rfl) | exact Zr (Zr rfl))(hd:(x == ("__debug__":Str))=false:=by decide)
  (f:(x == ("__classdict__":Str))=false:=by decide) (hs:vQ k:=by exact fun _ _=>rfl):DE X (.Subscript (.Name x p) k pos) (j5 i gk):=
 eM (AQ (N9 y) (nJ E v hd f) z hs) fun U H Q l=>by
  obtain⟨F,e,j,d,S,q,t⟩:=l;unfold j5 at q
  split at q
  ·rename_i c M;obtain⟨u,K,q⟩:=aJ q;obtain⟨s,J,q⟩:=aJ q;by_cases g:dE c=true
   ·rw [if_pos g]at q;obtain⟨a,G,I,r,o,Z,Y,n,W,m⟩:=S.ownD M
    refine⟨.ref a,r,F,e,j,u,S,K,fun h T kv E1 O=>?_⟩
    obtain⟨b,rfl,B⟩:=nK O J
    exact⟨h,a,b,G,I,c,s,d,rfl,rfl,B,E1.same _ _ o,n,g,m.stay E1.stay,q,fun w R=>t h T w E1 R⟩
   ·rw [if_neg g]at q;cases q
  ·cases q
theorem RH{es:List cS}{k:List Int}{b:JW}{v:V}(h:(es.map (·.1)).Nodup):((i8 es k b v).map (·.1)).Nodup:=by
 unfold i8;by_cases c:mV es k=true
 ·rw [if_pos c,Yk]
  have:(es.map ((fun x=>x.1) ∘ fun(e:cS)=>if e.1=.inl k then(e.1,e.2.1,v)else e))=es.map (·.1):=by
   refine YU fun e _=>?_
   show(if e.1=.inl k then(e.1,e.2.1,v)else e).1=e.1
   split <;> rfl
  rw [this];exact h
 ·rw [if_neg c,QZ,Yn]
  refine⟨h,by simp,fun x d y a z=>?_⟩
  subst z;simp only [Qp,List.map_nil,Qm]at a;subst a;obtain⟨e,f,g⟩:=QT.mp d;exact c (List.any_eq_true.mpr ⟨e,f,decide_eq_true g⟩)
theorem RI{es:List cS}{k:List Int}{b:JW}{v:V}:(i8 es k b v).length<=es.length+1:=by
 unfold i8;split
 ·rw [Ql];lia
 ·rw [Qf,QF];lia
theorem EY{i:Nat}{x:Str}{p' h:Pos}(hu:X.A.units+65<Za)(hk:DE X k gk)(hv:DE X v gv)(hN:X.N[i]?=some x:=by rfl)(Z:jQ X.env.scope x:=by first | exact ZG rfl | exact Zr (ZG rfl) | exact Zr (Zr rfl))(hd:(x == ("__debug__":Str))=false:=by decide)
  (a2:(x == ("__classdict__":Str))=false:=by decide) (hs:ZE v (some (.Subscript (.Name x p') k h)) pos.line X.env=pure false:=by rfl):DS X (.Assign [.Subscript (.Name x p') k h] v pos) (lV i gk gv):=by
 intro g s n H W I ⟨a3,j,F,M,o,E,S,q,kk⟩;unfold lV at q
 split at q
 ·rename_i t e0;obtain⟨d,e1,q⟩:=aJ q;obtain⟨kd,e2,q⟩:=aJ q;obtain⟨B,e3,q⟩:=aJ q;by_cases c:(dE t && decide (t.length<1000) && oK i M)=true
  ·rw [if_pos c]at q;cases q;simp only [Qy,decide_eq_true_eq]at c;obtain⟨⟨fl,ln⟩,one⟩:=c;refine wpAny_Assign_Subscript (bA (hv g s n H (fun w r=>∃ m,aH F m H r/\aR X.K m r d w) I ⟨F,j,M,d,S,e1,fun m r w E1 R1=>⟨m,E1,R1⟩⟩) fun u s1 ⟨w,r,I1,T,m,E1,R1⟩=>?_) hs;have S1:=S.ext E1;obtain⟨a,es,ep,q1,q2,q3,q4,q5,q6,q7⟩:=S1.ownD e0;refine bA ((nJ hN Z hd a2) g s1 n r (fun z J=>z=.ref a/\J=r) I1 ⟨.ref a,q1,rfl,rfl⟩) fun u2 s2 O=>?_;obtain⟨z,J,I2,rz,ez,eh⟩:=O;subst ez eh;cases rz;refine bA (hk g s2 n J (fun y p=>∃ l,aH m l J p/\aR X.K l p kd y) I2 ⟨m,j,M,kd,S1,e2,fun l p y E3 R3=>⟨l,E3,R3⟩⟩) fun u3 Q O=>?_;obtain⟨y,p,I3,ry,l,E3,R3⟩:=O;obtain⟨b,rfl,hb⟩:=nK R3 e3;cases ry;have S3:=S1.ext E3;have hH:=E3.same _ _ q2;have t3:=q7.stay (K:=X.K) E3.stay;obtain⟨lo,xs,dd,er⟩:=l5 I3 hH (DReps.flat t3 fl) q5
   have Y:xs.length<=sizeLine:=by rw [<- Paired.length er];exact Qv q6 (by rw [Yf];lia)
   refine wpAny_setItem_heap (knd:=fO X.prog X.w) (k:=B) (show X.A.in1.units<Za from by show X.A.units+1<Za;lia) (i1 I3 hb) dd (fun h' G a0=>?_) Y
   have a1:¬ l a:=fun f=>by
    rcases E3.new a f with f | ⟨f,_⟩
    ·exact q3 f
    ·rw [q2]at f;cases f
   have U:es.length<1000:=by rw [<- DReps.length q7];exact ln
   obtain⟨ep',oo⟩:=rQ (H:=p) lo G (zH T er);obtain⟨T1,T2⟩:=S3.turnD (ep':=ep') e0 q1 hH a1 q4 (Px one e0) (RH (k:=B) (b:=b) (v:=w) q5) (Qv RI U) (DReps.put t3 hb (R1.stay E3.stay));have I4:Inv X g n (aP p a (cA a (i8 es B b w) ep')) { Q with heap:=h',toks:=Q.toks+(fO X.prog X.w).draws B }:=I3.write (x:=a) (e:=a) (t':=Q.toks+(fO X.prog X.w).draws B) (by rw [hH];exact Ux) (.inl rfl) (fun c ob hc z=>(a0.2 c hc).trans z) (let⟨o2,_,_,hq,_⟩:=G;⟨o2,hq⟩) oo
   exact⟨n,_,I4,kk l _ n (((E.trans E1).trans E3).turn q4) ((E1.stay.trans E3.stay).trans T2) T1⟩
  ·rw [if_neg c]at q;cases q
 ·cases q
end
end DC
namespace DC
open PySem.Spec L2 DL ST SL EL
def mO(h:Heap)(a:JW)(b:Array ZF)(c:Nat):Prop:=(a == Zl)=false/\∃ o,h.get? a=some o/\o.ExactDict/\o.data=.dict b c
section
variable {P:JZ}{w:J1}{A:Around}{E:YP->JV->Prop}{s:JV}{d it:JW}{raw:Array ZF}{ep i:Nat}
theorem mO.ty(h:mO s.heap d raw ep):s.TypeIs (.ref d) "dict":=let⟨_,o,h1,h2,_⟩:=h;⟨o,h1,h2.1⟩
theorem Fw{Q:YP->JV->Prop}(h:mO s.heap d raw ep)(f:Q (.ref s.heap.objs.size) { s with heap:=s.heap.push { cls:=.type "dict_keyiterator",data:=.fields #[.ref d,.int 0 0,.int raw.size 0,.int ep 0] } }):JY (J0 P w) A (pyIter (.ref d)) Q E s:=by
 have a:=h.ty;obtain⟨e,o,c,g,b⟩:=h;refine wpAny_pyIter_slot a PySem.F.slot_dict_iter (Yc PySem.F.slot_dict_iter a PySem.F.entry_dict_iter ?_ (PySem.F.args_dict_iter_1 _));unfold Builtin.«dict.__iter__»;refine Qa ?_;unfold Builtin.Dict.dictSlotNone
 refine Qa (Uq a ?_);show JY _ _ (pure (J5 d)) _ _ s;refine Qb ?_
 show JY _ _ (Us d >>= _) _ _ s;unfold Us
 rw [if_neg (by rw [e];exact QA)];refine Qa (Qb (Qa (Y8 c b ?_)));refine Qa (JT c b (Qa (Yd (Qb ⟨_,rfl,"dict_keyiterator",_,⟨_,Qt _ rfl,rfl⟩,PySem.F.slot_dict_keyiterator_next.lookup,?_⟩))))
 simpa [Zy]using f
theorem Fk{Q:Option YP->JV->Prop}(a:s.heap.IsKeyIter it d i raw.size ep)(h:mO s.heap d raw ep)(g:i<raw.size)
  (k:∀ h',h'.IsKeyIter it d (i+1) raw.size ep->Ze it s.heap h'->Q (some raw[i].key) { s with heap:=h' }):JY (J0 P w) A (Z1 (.ref it)) Q E s:=by
 obtain⟨o,c,j,hd⟩:=id a;obtain⟨m,l,f,n,e⟩:=h;unfold Z1;refine Qa (UD (Yp (name:=Zu "__next__") a.typeIs PySem.F.slot_dict_keyiterator_next (Yc PySem.F.slot_dict_keyiterator_next a.typeIs PySem.F.entry_dict_keyiterator_next ?_ (PySem.F.args_dict_keyiterator_next_1 _))));refine Qa (Qb (Qa (Qa ?_)));refine Qa (Y3 a.typeIs (Qb (Qa (UT c hd ?_))));simp only [show Builtin.Dict_items.ownsTuple "dict_keyiterator"=false from by decide,Qq,if_false]
 show JY _ _ (if(J5 d == J6)=true then _ else _) _ _ s;rw [if_neg (show ¬ ((J5 d == J6)=true)from QA)]
 refine Qa (Qb (Qa (Y8 f e ?_)));rw [if_neg (by simp)];refine Qa (Qb (Qa (JT f e ?_)));rw [if_neg (by simp)];refine Qb ?_;simp only [show ¬ ((i:Int)<0)from by lia,if_false,Y5,QK g];refine Qa ?_;refine Qa (Y3 a.typeIs (Qb (Qa (wpAny_isOneOf_keyiter a.typeIs ?_))))
 show JY _ _ (setField (.ref it) 1 (Zy ((i:Int)+1)) >>= _) _ _ s;refine Qa (YK c hd (by simp) ?_)
 have b:(s.heap.update it (Zn (·.setIfInBounds 1 (Zy ((i:Int)+1))))).IsKeyIter it d (i+1) raw.size ep:=⟨_,QV _ c (YY (Yo hd _)),(JG ..).trans j,by rw [Yo hd];simp [Zy]⟩;refine Qa (Q7 (Qa (wpAny_isOneOf_keyiter (s:={ s with heap:=s.heap.update it (Zn (·.setIfInBounds 1 (Zy ((i:Int)+1)))) }) b.typeIs ?_)))
 show JY _ _ (pure raw[i].key) _ _ _;exact Qb (Qb ⟨_,rfl,Qb (k _ b (QX ..))⟩)
theorem Ec{Q:Option YP->JV->Prop}(k:A.handled=none)(c:s.heap.IsKeyIter it d i raw.size ep)(h:mO s.heap d raw ep)(j:raw.size<=i)
  (l:∀ h',Heap.ExtBut it s.heap h'->Q none { s with heap:=h' }):JY (J0 P w) A (Z1 (.ref it)) Q E s:=by
 obtain⟨o,e,q,hd⟩:=id c;obtain⟨p,n,g,r,f⟩:=h;unfold Z1;refine Qa (UD (Yp (name:=Zu "__next__") c.typeIs PySem.F.slot_dict_keyiterator_next (Yc PySem.F.slot_dict_keyiterator_next c.typeIs PySem.F.entry_dict_keyiterator_next ?_ (PySem.F.args_dict_keyiterator_next_1 _))));refine Qa (Qb (Qa (Qa ?_)));refine Qa (Y3 c.typeIs (Qb (Qa (UT e hd ?_))));simp only [show Builtin.Dict_items.ownsTuple "dict_keyiterator"=false from by decide,Qq,if_false]
 show JY _ _ (if(J5 d == J6)=true then _ else _) _ _ s;rw [if_neg (show ¬ ((J5 d == J6)=true)from QA)]
 refine Qa (Qb (Qa (Y8 g f ?_)));rw [if_neg (by simp)];refine Qa (Qb (Qa (JT g f ?_)));rw [if_neg (by simp)];refine Qb ?_;simp only [show ¬ ((i:Int)<0)from by lia,if_false,Y5,Yt j];refine Qa ?_
 refine Qa (Y3 c.typeIs (Qb ?_));show JY _ _ (setField (.ref it) 0 .none >>= _) _ _ s
 refine Qa (YK e hd (by simp) ?_);show JY _ _ (newExc (.type "StopIteration") [] >>= _) _ _ _;refine Qa ?_
 simp only [newExc,newTuple];refine Qa (Yd ?_ (by size_fits));refine Qa (m:=ZW _ _) (JU (a:=J6) (by first | rfl | (simp only [ZW];rfl)) (Yd ?_ (by size_fits)));simp only [raiseNew];refine Qa (wpAny_handled ?_);rw [show A.in1.handled=none from k];refine Qa (Qb (wpAny_throw ?_));refine Qa (Jg (T:="StopIteration") (b:=true) ⟨_,Qt _ rfl,rfl⟩ isSubtype_stop ?_);exact Qb (l _ (((QX ..).extBut.push _).push _))
end
def BJ(a:JW)(es:List cS)(b:Nat):It:=⟨fun i H=>H a=some (cA a es b)/\i<es.length,fun i H x c=>c=H/\∃ e,es[i]?=some e/\x=.ref e.2.1,fun i H=>H a=some (cA a es b)/\es.length<=i⟩
theorem An{X:Cx}{pins:List (JW × Obj)}{f:L2.St}{H:Hp}{s:JV}{a:JW}{es:List cS}{b:Nat}(I:Inv X pins f H s)(h:H a=some (cA a es b)):
  ∃ raw:Array ZF,mO s.heap a raw b/\raw.size=es.length/\∀(i:Nat) (hi:i<raw.size) (e:cS),es[i]?=some e->raw[i].key=.ref e.2.1:=by
 obtain⟨⟨g,o,raw,m,l,k,d⟩,_⟩:=(show gF X.prog X.w H s.heap a (cA a es b)from I.hok a _ h)
 refine⟨raw,⟨g,o,m,l,k⟩,?_,fun i hi e j=>?_⟩
 ·have:=Paired.length d
  simpa using this.symm
 ·obtain⟨r,c,_,q,_⟩:=Paired.at d j
  have:raw.toList[i]?=some raw[i]:=by simp [hi]
  rw [this]at c;cases c;exact q
theorem Sy{P:JZ}{w:J1}{K:PySem.W.Frag}{T:Expr}(a it:JW)(es:List cS)(S:Nat):jP P w K T (BJ a es S) [it] it (fun i h=>h.IsKeyIter it a i es.length S) where
 mem:=by simp
 obj:=fun i h f b j=>by
  have e:b=it:=by simpa using j
  subst e;obtain⟨o,e,c,d⟩:=f
  exact⟨o,e,fun v z=>by rw [d]at z;cases z⟩
 keep:=fun i h n f k=>let⟨o,e,c⟩:=f;⟨o,k it (by simp) o e,c⟩
 item:=by
  intro X u q x Q i g s J H E I m f t;subst u q x;obtain⟨r,N⟩:=t;obtain⟨p,rd,sz,M⟩:=An I r;obtain⟨G,F,Y,B,A,y⟩:=m it (by simp);rw [<- sz]at f;refine Fk f rd (by lia) fun n l U=>?_;have I1:Inv X g J H { s with heap:=n }:=I.turned (t':=s.toks) (fun b o j e=>(U.2 b j).trans e) G F B A y;obtain⟨o,e,c,d⟩:=id l
  have O:es[i]?=some es[i]:=by simp [N]
  refine⟨_,rfl,rX (s:={ s with heap:=n }) e c d (by decide) ⟨.ref (es[i]).2.1,H,I1,?_,⟨rfl,_,O,rfl⟩,by rw [<- sz];exact l,fun b j=>(m b j).1⟩⟩
  rw [M i (by lia) _ O];rfl
 done:=by
  intro X u q x Q i g s J H E I m f t;subst u q x;obtain⟨r,N⟩:=t;obtain⟨p,rd,sz,M⟩:=An I r;obtain⟨G,F,Y,B,A,y⟩:=m it (by simp);rw [<- sz]at f;exact Ec (I.ok.hd Q) f rd (by lia) fun n Z=>⟨rfl,I.turned (t':=s.toks) (fun b o j e=>Z b o j e) G F B A y⟩
 self:=fun _ _ _ _ _ f h=>wpAny_pyIter_keyiter f h
def xY:D->Bool
 | .tuple _=>true
 | _=>false
def qR:D->Option (List D)
 | .dict a=>if(a.all fun e=>xY e.1)=true then some (a.map (·.1))else none
 | d=>m8 d
theorem GN{K:PySem.W.Frag}{F:JW->Prop}{H:Hp}:∀{kss:List (List Int)}{bs:List JW},Paired (fun(ks:List Int) (b:JW)=>bQ K H b (ks.map V.int)) kss bs->Reps K F H (kss.map fun ks=>.tuple (ks.map J4)) (bs.map V.ref)
 | _,_,.nil=>.nil
 | _,_,.cons h t=>.cons (.tup h (pN _)) (GN t)
theorem Tm{K:PySem.W.Frag}{F:JW->Prop}{H:Hp}{k:eN}{b:JW}(h:nU K H k b):aR K F H (qL k) (.ref b):=by
 cases k with
 | inl c=>exact .tup h (pN c)
 | inr a=>obtain⟨_,bs,e,d⟩:=h;exact .tup e (GN d)
theorem DReps.key{K:PySem.W.Frag}{F:JW->Prop}{H:Hp}{kvs:List (D × D)}{es:List cS}(t:DReps K F H kvs es):∀{i:Nat}{d:D},(kvs.map (·.1))[i]?=some d->∃ e,es[i]?=some e/\aR K F H d (.ref e.2.1):=by
 induction es generalizing kvs with
 | nil=>cases t;intro i d h;simp at h
 | cons e es a=>
  cases t with
  | cons b c t=>
   intro i d h
   cases i with
   | zero=>simp at h;subst h;exact⟨_,rfl,Tm b⟩
   | succ i=>exact a t (by simpa using h)
theorem OQ{K:PySem.W.Frag}{F:JW->Prop}{H:Hp}{a:JW}{es:List cS}{j:Nat}{kvs:List (D × D)}(f:F a)(h:H a=some (cA a es j))(t:DReps K F H kvs es):lC K F H (kvs.map (·.1)) (BJ a es j):=fun o s T z i=>by
 have g:=T.xt _ _ f h;have c:=t.stay T
 refine⟨fun d hd=>?_,fun n=>⟨g,by rw [<- DReps.length c];simpa using n⟩⟩
 obtain⟨e,k,r⟩:=DReps.key c hd
 refine⟨⟨g,(Qe.mp k).1⟩,fun x q y=>?_⟩
 obtain⟨m,p,b,l⟩:=y;subst m l;rw [k]at b;cases b
 exact⟨o,aH.refl _ _,r⟩
def tQ(b:aA->Option D):aA->Option (List D):=fun a=>(b a).bind qR
theorem M6{X:Cx}{J e:Expr}{y:aA->Option D}(B:DE X e y):DI X J e (tQ y):=by
 intro g s A H R I h;obtain⟨F,i,w,Q,S,q,k⟩:=h;obtain⟨d,E,q⟩:=aJ q
 cases d with
 | dict j=>
  by_cases c:(j.all fun e=>xY e.1)=true
  ·rw [qR,if_pos c]at q;cases q;refine bA (B g s A H (fun x m=>∃ p,aH F p H m/\aR X.K p m (.dict j) x) I ⟨F,i,w,_,S,E,fun p m v z u=>⟨p,z,u⟩⟩) fun v r G=>?_;obtain⟨x,m,I1,N,p,z,u⟩:=G;generalize hd:PyData.dict j=dd at u
   cases u with
   | @dct a es kvs' ep f h n l t=>
    cases hd;cases N;obtain⟨M,rd,sz,T⟩:=An I1 h;refine Fw rd ⟨r.heap.objs.size,[r.heap.objs.size],_,_,m,rfl,I1.kept (t':=r.toks) fun b o e=>Qc _ e,Sy a _ es ep,⟨_,Qt _ rfl,rfl,by rw [sz];rfl⟩,fun b O=>?_,k p m _ z (OQ f h t)⟩
    have e:b=r.heap.objs.size:=by simpa using O
    subst e;exact I1.fpOk (Qk _) (I1.hok.fresh (Qk _))
   | exn f h n=>
    exfalso
    cases hd;cases c
   | _=>cases hd
  ·rw [qR,if_neg c]at q;cases q
 | _=>exact ES B g s A H R I ⟨F,i,w,Q,S,by show(y w).bind m8=_;rw [E];exact q,k⟩
end DC
namespace DC
open PySem.Spec L2 DL ST SL EL
end DC
namespace DL
open PySem.Spec L2
section
variable {X:Cx}{a b:Expr}{ga:aA->Option (List D)}{pos:Pos}
end
end DL
namespace TX
open PySem.Spec L2 DL
open Builtin Builtin.Str
section
variable {X:Cx}
end
end TX
namespace TX
open PySem.Spec L2 DL
open Builtin Builtin.Str
section
variable {X:Cx}{o e:Expr}{go ge:aA->Option D}{apos cpos:Pos}
def rP:List D->Option D
 | [.str z]=>if decide (z.length<=1000000)then some (.int z.length)else none
 | _=>none
theorem Mv:fJ X (.builtin "len") (jA X.K rP):=rM Mn fun e H Q b=>by
 obtain⟨F,f,q,z,R,a,k⟩:=b;unfold rP at a
 split at a
 ·split at a
  next c=>
   cases a
   cases R with
   | cons r d=>
    cases d;cases r
    exact⟨_,rfl,by rw [Yf];have:=of_decide_eq_true c;lia,k F H _ (aH.refl F H) (.int _)⟩
  next=>cases a
 ·cases a
def nY:D->D->Option D
 | .str x,.str y=>if decide (x.length+y.length<=1000000)then some (.str (x++y))else none
 | _,_=>none
theorem O6:bN X (Zs .Add) (dB X.K nY):=pU OY fun x y H Q b=>by
 obtain⟨F,d,e,q,z,f,R2,a,k⟩:=b;unfold nY at a
 split at a
 ·split at a
  next c=>
   cases a;cases f;cases R2
   exact⟨_,_,rfl,rfl,by rw [Yf];have:=of_decide_eq_true c;lia,k F H _ (aH.refl F H) (.str _)⟩
  next=>cases a
 ·cases a
end
end TX
namespace TX
open PySem.Spec L2 DL ZL EL
open Builtin Builtin.Str
end TX
namespace TB
open PySem.Spec L2 DL TX
inductive hU(K:PySem.W.Frag)(w:J1):List (Str × D)->List ZF->Prop
 | nil:hU K w [] []
 | cons {x:Str}{d:D}{h:Int}{t:Tok}{v:V}{u:YP}{tb:List (Str × D)}{es:List ZF}:h=PySem.hashStr w x->RelV v u->(∀ F H,aR K F H d v)->hU K w tb es->hU K w ((x,d)::tb) (⟨h,.str x t,u⟩::es)
def n9(K:PySem.W.Frag)(w:J1)(a:JW)(tb:List (Str × D)):Prop:=∃ es ep,K.lookup a=some ⟨.type "dict",none,.dict es ep,#[]⟩/\hU K w tb es.toList
def oF(tb:List (Str × D))(b:aA->Option D):aA->Option D:=fun a=>(b a).bind fun k=>match k with
 | .str x=>tb.lookup x
 | _=>none
theorem Tl{prog:JZ}{K:PySem.W.Frag}{w:J1}:∀{tb:List (Str × D)}{es:List ZF},hU K w tb es->∀ e∈es,∃ k,(PySem.strKind prog w).is k e.key=true/\e.hash=(PySem.strKind prog w).hash k:=by
 intro tb es h
 induction h with
 | nil=>intro e a;cases a
 | cons c r d _ b=>
  intro e a;rcases Qi.mp a with rfl | a
  ·exact⟨_,by simp [PySem.strKind,Uy],c⟩
  ·exact b e a
theorem Tk{prog:JZ}{K:PySem.W.Frag}{w:J1}{x:Str}{d:D}:∀{tb:List (Str × D)}{es:List ZF},hU K w tb es->tb.lookup x=some d->∃ e v,es.find? (fun e=>(PySem.strKind prog w).is x e.key)=some e/\RelV v e.val/\∀ F H,aR K F H d v:=by
 intro tb es h
 induction h with
 | nil=>intro e;cases e
 | @cons y d' hh t v u tb es h1 h2 h3 _ ih=>
  intro e;rw [Q3]at e;by_cases z:x=y
  ·subst z;rw [beq_self_eq_true]at e;cases e
   exact⟨_,v,by rw [List.find?_cons_of_pos (by simp [PySem.strKind,Uy])],h2,h3⟩
  ·rw [show(x == y)=false from by simpa using z]at e;obtain⟨g,a,f,c,b⟩:=ih e
   refine⟨g,a,?_,c,b⟩
   rw [List.find?_cons_of_neg (by simp [PySem.strKind,Uy];first | exact z | exact fun q=>z q.symm)];exact f
section
variable {X:Cx}{e:Expr}{ga gb:aA->Option D}{p pos:Pos}
def Ll(K:PySem.W.Frag)(w:J1):R2:=fun x y H Q=>∃ a k tb d,x=.ref a/\y=.str k/\n9 K w a tb/\tb.lookup k=some d/\∀ v,(∀ F,aR K F H d v)->Q v H
theorem Oa:hE X (Ll X.K X.w):=fun b c g s m H x y v u Q I o n ⟨a,k,Y,d,S,O,⟨h,U,p,T⟩,hd,q⟩ z=>by
 subst S O;cases o;obtain⟨t,rfl⟩:=n;obtain⟨W,i,N,M,J⟩:=Tk (prog:=X.prog) T hd;have B:=I.kIn a _ p;have j:s.heap.MapOf (PySem.strKind X.prog X.w) a (findBy (PySem.strKind X.prog X.w).is h):=⟨_,h,U,B,⟨rfl,rfl,rfl⟩,rfl,fun e G=>Tl T e (by simpa using G),fun _=>rfl⟩
 have E:findBy (PySem.strKind X.prog X.w).is h k=some W.val:=by
  unfold findBy;rw [<- Array.find?_toList,N];rfl
 have l:=j.typeIs;unfold UB;refine Qa ?_;rw [Ur l.not_modules];refine Qa (JA l PySem.F.slot_dict_getitem.lookup ?_)
 have fin:JY (J0 X.prog X.w) X.A (UV c false (.ref a) (.str k t)) (fun r f=>JY (J0 X.prog X.w) X.A (letTemporaryGo b (.ref a) r >>= fun _=>pure r) (EP X g m Q) X.xe f) X.xe s:=by
  rw [z];refine wpAny_operating ?_;refine wpAny_getItem_of (knd:=PySem.strKind X.prog X.w) (k:=k) (by simp [PySem.strKind,Uy]) j E ?_;exact Qa (UK (Qb ⟨i,H,I.tok _,M,q i fun F=>J F H⟩))
 first
  | exact Qb (Qa fin)
  | exact Qa (Qb (Qa fin))
  | exact Qa fin
theorem EO{x:Str}{a:JW}{tb:List (Str × D)}(j:Gl X x)(i:X.mg x=some (.ref a))(T:n9 X.K X.w a tb)(l:DE X e ga)(hd:(x == ("__debug__":Str))=false:=by decide)(hs:vQ e:=by exact fun _ _=>rfl):DE X (.Subscript (.Name x p) e pos) (oF tb ga):=
 eM (AQ Oa (Ho (v:=.ref a) j i rfl hd) l hs) fun s H Q g=>by
  obtain⟨F,b,f,d,S,q,k⟩:=g;obtain⟨h,m,q⟩:=aJ q
  refine⟨F,b,f,h,S,m,fun c o v r n=>?_⟩
  split at q
  ·cases n
   exact⟨a,_,tb,d,rfl,rfl,T,q,fun v R=>k c o v r (R c)⟩
  ·cases q
end
mutual
def x9:D->Bool
 | .none=>true
 | .bool _=>true
 | .int _=>true
 | .str _=>true
 | .tuple a=>noLs a
 | _=>false
def noLs:List D->Bool
 | []=>true
 | d::ds=>x9 d && noLs ds
end
mutual
theorem G5{K:PySem.W.Frag}{F a:JW->Prop}{H:Hp}{d:D}{v:V}(h:aR K F H d v)(q:x9 d=true):aR K a H d v:=by
 cases h with
 | non=>exact .non
 | bl b=>exact .bl b
 | int i=>exact .int i
 | str x=>exact .str x
 | tup h r=>exact .tup h (noLs_rep r q)
 | lst h r=>cases q
 | dct f h n l r=>cases q
 | exn f h n=>cases q
theorem noLs_rep{K:PySem.W.Frag}{F a:JW->Prop}{H:Hp}{ds:List D}{vs:List V}(h:Reps K F H ds vs)(q:noLs ds=true):Reps K a H ds vs:=by
 cases h with
 | nil=>exact .nil
 | cons h r=>
  have q:=QI.mp q;exact .cons (G5 h q.1) (noLs_rep r q.2)
end
section
variable {X:Cx}{e:Expr}{ga:aA->Option D}{p pos:Pos}
end
end TB
namespace TX
open PySem.Spec L2 DL
open Builtin Builtin.Str
section
variable {X:Cx}
def tU:D->Bool
 | .none=>true
 | _=>false
def tN:D->D->Option D
 | d,.none=>some (.bool (tU d))
 | _,_=>none
theorem O7:bN X (Zc .Is) (dB X.K tN):=pU O1 fun x y H Q b=>by
 obtain⟨F,d,e,q,z,c,R2,a,k⟩:=b;unfold tN at a
 split at a
 ·cases a;cases R2
  refine⟨rfl,?_⟩
  have e:decide (x=.non)=tU d:=by cases c <;> rfl
  rw [e];exact k F H _ (aH.refl F H) (.bl _)
 ·cases a
end
end TX
namespace CL
open PySem.Spec L2
section
variable {X:Cx}{N':List Str}{scope:Zz}{inner:List (Option Nat)}{x0:Str}{cl:List (Str × JW)}{C:JW}{fp:List JW}{s s4:JV}{H:Hp}{σ:L2.St}{pins:List (JW × Obj)}
end
section
variable {X:Cx}{elt tg iter:Expr}{ifs:List Expr}{scope:Zz}{pos:Pos}{N':List Str}{inner:List (Option Nat)}{x0:Str}{wi:TI}{g:TG}{ti:TT}{te:TE}
end
end CL
namespace DL
open PySem.Spec PySem.SeqAt L2 CL
section
variable {X:Cx}{elt tg iter:Expr}{ifs:List Expr}{scope:Zz}{pos:Pos}{N':List Str}{inner:List (Option Nat)}{x0:Str}{gi:aA->Option (List D)}{s:D->aA->Option aA}{t:aA->Option Bool}{ge:aA->Option D}
end
end DL
namespace CL
open PySem.Spec L2
section
variable {X:Cx}{elt tg iter:Expr}{ifs:List Expr}{scope:Zz}{pos:Pos}{N':List Str}{inner:List (Option Nat)}{x0:Str}{wi:TI}{g:TG}{ti:TT}{te:TE}
end
end CL
namespace DL
open PySem.Spec PySem.SeqAt L2 CL
section
variable {X:Cx}{elt tg iter:Expr}{ifs:List Expr}{scope:Zz}{pos:Pos}{N':List Str}{inner:List (Option Nat)}{x0:Str}{gi:aA->Option (List D)}{s:D->aA->Option aA}{t:aA->Option Bool}{ge:aA->Option D}
end
end DL
namespace LM
open PySem.Spec L2 CL DL DC
section
variable {X:Cx}{f l I S:JW}{vs:List V}{pins:List (JW × Obj)}{σ:L2.St}{F:JW->Prop}{H:Hp}{kd:Nat->List Int}
end
end LM
namespace MN
open PySem.Spec PySem.SeqAt L2 DL SD
section
variable {prog:JZ}{w:J1}{A:Around}{E:YP->JV->Prop}{s:JV}
theorem IK{x y:D}{p q:YP}{a b:List Int}{as bs:List JW}{Q:YP->JV->Prop}(J:A.units+64<Za)(d:UJ s.heap p x as)(c:UJ s.heap q y bs)(l:iN x y=true)(g:kO x=some a)(f:kO y=some b)
  (k:Q (.bool (HT.lexLt a b)) s) (n:a≠b):JY (J0 prog w) A (UH .Lt p q) Q E s:=by
 cases x with
 | int i=>cases y with
  | int j=>
   cases g;cases f;cases d;cases c
   have e:HT.lexLt [i] [j]=decide (i<j):=by
    rw [HT.lexLt_cons,if_neg (by intro z;exact n (by rw [z]))]
   rw [e]at k;exact HT.rcLt_int A s i _ j _ prog w E _ k
  | _=>cases l
 | tuple m=>cases y with
  | tuple h=>
   have I:eA m=some a:=g;have H:eA h=some b:=f
   cases d with
   | tuple u t r o=>cases c with
    | tuple G F B v=>exact HT.lt_tupInts ⟨_,u,t,_,r⟩ ⟨_,G,F,_,B⟩ (rY I o) (rY H v) (by lia) k
  | _=>cases l
 | _=>cases y <;> cases l
theorem Tv{l b:JW}{xs e:List D}{a c:List Int}{as bs:List JW}{R:Fin->JV->Prop}(hu:A.units+64<Za)(rl:UJ s.heap (.ref l) (.tuple xs) as)(rb:UJ s.heap (.ref b) (.tuple e) bs)(Z:gA xs e=true)(f1:gC xs=some a)(f2:gC e=some c)
  (h:R (.done (.ret (.bool (HT.lexLt a c)))) s):JY (J0 prog w) A (Builtin.«tuple.__lt__» ⟨[.ref l,.ref b],[]⟩) R E s:=by
 cases rl with
 | @tuple _ o1 vs1 n1 _ _ h1 h2 h3 h4=>
 cases rb with
 | @tuple _ o2 vs2 n2 _ _ g1 g2 g3 g4=>
 show JY _ _ (isInstance (.ref b) (.type "tuple") >>= _) _ _ s
 refine Qa (Jg (T:="tuple") ⟨o2,g1,g2⟩ isSubtype_tuple_tuple ?_);simp only [Yw,Qq,if_false];refine Qa (wpAny_tupleItemsOf h1 h3 ?_);refine Qa (wpAny_tupleItemsOf g1 g3 ?_);refine Qa ?_
 refine Y0 _
  (fun i r H=>r.1=none/\H=s/\∃(G F:List YP) (g f:List D) (N M:List Int) (q p:List JW),i=List.zip G F/\UZ s.heap G g q/\UZ s.heap F f p/\gA g f=true/\gC g=some N/\gC f=some M/\HT.lexLt N M=HT.lexLt a c/\vs1.size=vs2.size)
  _ ?_ ?_ _ _ ⟨rfl,rfl,_,_,xs,e,a,c,_,_,rfl,h4,g4,Z,f1,f2,rfl,?_⟩
 ·rintro⟨u,v⟩ i r H ⟨Q,rfl,G,F,g,f,N,M,q,p,t,Y,X,K,o,n,d,j⟩
  cases Y with
  | nil=>simp at t
  | @cons u0 us0 x xs0 as0 bs0 p1 p2=>
   cases X with
   | nil=>simp at t
   | @cons v0 vs0 y ys0 as1 bs1 J I=>
    simp only [Jx,List.cons.injEq,Prod.mk.injEq]at t;obtain⟨⟨rfl,rfl⟩,rfl⟩:=t;obtain⟨W,m,o⟩:=aJ o;obtain⟨a2,U,o⟩:=aJ o;cases o;obtain⟨c1,k,n⟩:=aJ n;obtain⟨c2,S,n⟩:=aJ n;cases n;obtain⟨O,l2⟩:=QI.mp K;have z:=zK O m k;rw [vL _ _ _ _ z]at d;refine Qa (Eb hu p1 J O m k prog w _ _ ?_);by_cases B:W=c1
    ·rw [decide_eq_true B];rw [if_pos B]at d;simp only [Yw,Qq,if_false];exact Qb ⟨rfl,rfl,_,_,_,_,_,_,_,_,rfl,p2,I,l2,U,S,d,j⟩
    ·rw [decide_eq_false B];rw [if_neg B]at d;simp only [Bool.not_false,if_true];rw [<- d]at h;exact Qa (JJ (Qa (IK hu p1 J O m k (Qa (Qb (Qb (Qb h)))) B)))
 ·rintro⟨Y,X⟩ H ⟨Q,rfl,G,F,g,f,N,M,q,p,t,J,I,K,o,n,d,j⟩
  simp only at Q
  subst Q;refine Qb ?_
  cases J with
  | nil=>
   cases I with
   | nil=>
    cases o;cases n
    show R (.done (.ret (.bool (decide (vs1.size<vs2.size))))) H
    rw [j,decide_eq_false (Y1 _),<- HT.lexLt_nil_nil,d];exact h
   | cons _ _=>cases K
  | cons _ _=>
   cases I with
   | nil=>cases K
   | cons _ _=>simp at t
 ·have W:=UM _ _ _ h4;have a2:=UM _ _ _ g4
  have ll:∀{xs e:List D},gA xs e=true->xs.length=e.length:=by
   intro xs
   induction xs with
   | nil=>intro e h;cases e with
    | nil=>rfl
    | cons _ _=>cases h
   | cons x xs ih=>intro e h;cases e with
    | nil=>cases h
    | cons y e=>rw [QE,QE,ih (QI.mp h).2]
  rw [<- Qs,<- Qs,W,a2,ll Z]
theorem PH{l b:JW}{xs d:List D}{a c:List Int}{as bs:List JW}{Q:YP->JV->Prop}(q:A.units+65<Za)(j:UJ s.heap (.ref l) (.tuple xs) as)(k:UJ s.heap (.ref b) (.tuple d) bs)(n:gA xs d=true)(p:gC xs=some a)(o:gC d=some c)
  (h:Q (.bool (HT.lexLt a c)) s):JY (J0 prog w) A (UH .Lt (.ref l) (.ref b)) Q E s:=by
 have i:s.TypeIs (.ref l) "tuple":=by cases j with | tuple g f _ _=>exact⟨_,g,f⟩
 have m:s.TypeIs (.ref b) "tuple":=by cases k with | tuple g f _ _=>exact⟨_,g,f⟩
 exact wpAny_richCompare_same_room (op:=.Lt) i m PySem.F.slot_tuple_lt (Yc PySem.F.slot_tuple_lt i PySem.F.entry_tuple_lt (Tv (by first | (show A.units+64<Za;lia) | (show A.units+1+64<Za;lia)) j k n p o ⟨_,rfl,(fun e=>nomatch e),h⟩) (PySem.F.args_tuple_lt_2 _ _)) (by lia)
end
end MN
namespace MN
open PySem.Spec PySem.SeqAt L2 DL SD
section
variable {prog:JZ}{w:J1}{A:Around}{R:Result->JV->Prop}{I S:JW}{fp wr:List JW}{n:Nat}{P:Nat->YP->Prop}{St:Nat->Heap->Prop}
abbrev mL(b:Heap)(h:Heap):Prop:=∀ a o,b.get? a=some o->h.get? a=some o
def jB(v:YP)(c:Nat):Obj:={ cls:=.type "list",dict:=none,data:=.seq #[v,v] c,slots:=#[] }
theorem uO:(toString "min"++toString ".loop":String)="min.loop":=by decide
theorem PQ(W:Walks prog w A.in1 I fp wr n P St)(base:Heap)(X:∀ a o,base.get? a=some o->a≠S/\a∉wr)(bt:Nat->Nat->Bool)
  (Z:∀ i j x y (s:JV) (Q:YP->JV->Prop) (E:YP->JV->Prop),mL base s.heap->P i x->P j y->Q (.bool (bt i j)) s->JY (J0 prog w) A.in1 (UH .Lt x y) Q E s) (N:S∉fp):
  ∀(m j:Nat) (s:JV) (x:YP) (c:Nat),n-(j+1)=m->j+1<=n->St (j+1) s.heap->P (Ul bt j) x->mL base s.heap->s.heap.get? S=some (jB x c)->
  (∀ v h tk,P (Ul bt (n-1)) v->(∀ a o,a∉wr->a≠S->s.heap.get? a=some o->h.get? a=some o)->R (.ok (.ret v)) { s with heap:=h,toks:=tk })->ZY (J0 prog w) A (.builtin "min.loop" ⟨[.ref I,.none,.ref S],[]⟩) R s:=by
 have M:S∉wr:=fun h=>N (W.sub _ h);intro m
 induction m with
 | zero=>
  intro j s x c e1 e2 G t T r fin
  have Y:j+1=n:=by lia
  refine YN PySem.F.entry_min_loop ?_;rw [YC PySem.F.plain_min_loop _];refine Qa (m:=seqItems? (.ref S)) (Ji r rfl ?_)
  show JY _ A.in1 (tryCatch (Z1 (.ref I)) _ >>= _) _ _ s
  refine Qa (Uk (W.done s _ _ (Y ▸ G) fun h tk l=>?_));have d:=l S _ M r;refine Qa (m:=updateSeq S (fun _=>#[])) (UN d rfl (Qa (wpAny_letGo (Qb ?_))));exact fin x _ tk (by rw [<- Y];exact t) fun a o k e q=>(Ya _ _ (Zx e)).trans (l a o k q)
 | succ m U=>
  intro j s x c e1 e2 G t T r fin
  have lt:j+1<n:=by lia
  refine YN PySem.F.entry_min_loop ?_;rw [YC PySem.F.plain_min_loop _];refine Qa (m:=seqItems? (.ref S)) (Ji r rfl ?_)
  show JY _ A.in1 (tryCatch (Z1 (.ref I)) _ >>= _) _ _ s
  refine Qa (Uk (W.item (j+1) s _ _ lt G fun v h tk O p l=>?_));have d:=l S _ M r;have g:mL base h:=fun a o q=>l a o (X a o q).2 (T a o q)
  show JY _ A.in1 (tryCatch (holding [v,v] (UH .Lt v x >>= _)) _ >>= _) _ _ _
  refine Qa (Uk (Q7 (Qa (Z (j+1) (Ul bt j) v x _ _ _ g O t ?_))));refine Qa (Q7 (Y4 (Qa (wpAny_letGo (Qb ?_)))))
  cases b:bt (j+1) (Ul bt j)with
  | true=>
   simp only [if_true];refine Qa (UN d rfl (Qa (wpAny_letGo ?_)));rw [uO];have B:∀ a o,a≠S->h.get? a=some o->(h.update S (ZS fun _=>#[v,v])).get? a=some o:=fun a o e q=>(Ya _ _ (Zx e)).trans q;refine Qb ⟨Jf PySem.F.plain_min_loop _,U (j+1) _ v _ (by lia) lt (W.frame _ _ _ p fun a af o q=>?_) (by simp only [Ul,b,if_true];exact O) (fun a o q=>B a o (X a o q).1 (g a o q)) (QV _ d rfl) fun u K f H J=>?_⟩
   ·exact B a o (fun z=>N (by rw [<- z];exact af)) q
   ·exact fin u K f H fun a o k e q=>J a o k e (B a o e (l a o k q))
  | false=>
   simp only [Qq,if_false];refine Qa (wpAny_letGo ?_);rw [uO];refine Qb ⟨Jf PySem.F.plain_min_loop _,U (j+1) _ x c (by lia) lt p (by simp only [Ul,b,Qq,if_false];exact t) g d fun u K f H J=>?_⟩;exact fin u K f H fun a o k e q=>J a o k e (l a o k q)
end
section
variable {prog:JZ}{w:J1}{A:Around}{E:YP->JV->Prop}{s:JV}
theorem PM{l:JW}{c:Array YP}{bt:Nat->Nat->Bool}{Q:YP->JV->Prop}(U:A.handled=none)(t:s.heap.IsList l c)(H:0<c.size)
  (Z:∀ i j x y (s':JV) (Q:YP->JV->Prop) (E:YP->JV->Prop),mL s.heap s'.heap->c[i]?=some x->c[j]?=some y->Q (.bool (bt i j)) s'->JY (J0 prog w) A.in1 (UH .Lt x y) Q E s')
  (h:∀ v h' tk,c[Ul bt (c.size-1)]?=some v->mL s.heap h'->Q v { s with heap:=h',toks:=tk }):JY (J0 prog w) A (call (.builtin "min") [.ref l]) Q E s:=by
 obtain⟨ol,r,Y,nl,X⟩:=id t;have p:l<s.heap.objs.size:=Qo r;refine PySem.call_function_tree PySem.F.kind_min PySem.F.plain_min PySem.F.entry_min (PySem.F.args_min1 _) ?_;refine Qa (m:=Builtin.Builtins.bindParams "min" ["key","default"] 0 ⟨[],[]⟩) (JU (show Builtin.Builtins.bindParams "min" ["key","default"] 0 ⟨[],[]⟩=pure [none,none]from rfl) (Qa (Qb ?_)));refine Qa (Ug t ?_);refine Qa (Yd ?_);rw [uO];have u:s.heap.objs.size≠s.heap.objs.size+1:=Qw (Nat.lt_succ_self _);have O:mL s.heap ((s.heap.push { cls:=.type "list_iterator",data:=.fields #[.ref l,.int 0 0] }).push { cls:=.type "list",data:=.seq #[] }):=fun a o q=>Qc _ (Qc _ q)
 have b:∀ a o,s.heap.get? a=some o->a≠s.heap.objs.size+1/\a∉[s.heap.objs.size]:=fun a o q=>by
  have:=Qo q
  exact⟨Qw (Y6 this),fun z=>by rw [Qm.mp z]at this;exact Y1 _ this⟩
 have W:=Walks.list (prog:=prog) (w:=w) (A:=A.in1) (by simp [U]) s.heap.objs.size l (Qw p) c
 have B:s.heap.objs.size+1∉[s.heap.objs.size,l]:=fun z=>by
  rcases Qi.mp z with z | z
  ·exact u z.symm
  ·rw [Qm]at z;rw [<- z]at p;exact absurd p (Nat.not_lt.mpr (Nat.le_succ _))
 have I:(s.heap.push { cls:=.type "list_iterator",data:=.fields #[.ref l,.int 0 0] }).objs.size=s.heap.objs.size+1:=YT ..;refine Qb ⟨Jf PySem.F.plain_min_loop _,?_⟩;rw [I];refine YN PySem.F.entry_min_loop ?_;rw [YC PySem.F.plain_min_loop _]
 have f:((s.heap.push { cls:=.type "list_iterator",data:=.fields #[.ref l,.int 0 0] }).push { cls:=.type "list",data:=.seq #[] }).get? (s.heap.objs.size+1)=some { cls:=.type "list",data:=.seq #[] }:=by rw [<- I];exact Qt _ rfl
 refine Qa (m:=seqItems? (.ref (s.heap.objs.size+1))) (Ji f rfl ?_)
 show JY _ A.in1 (tryCatch (Z1 (.ref s.heap.objs.size)) _ >>= _) _ _ _
 refine Qa (Uk (W.item 0 _ _ _ H ⟨⟨_,Qc _ (Qt _ rfl),rfl,rfl⟩,(t.push _).push _⟩ fun v h1 tk M n G=>?_));have K:s.heap.objs.size+1∉[s.heap.objs.size]:=fun z=>u (Qm.mp z).symm;have e:=G _ _ K f;have d:mL s.heap h1:=fun a o q=>G a o (b a o q).2 (O a o q);refine Qa (m:=updateSeq (s.heap.objs.size+1) (fun _=>#[v,v])) (UN e rfl ?_);rw [uO];have g:∀ a o,a≠s.heap.objs.size+1->h1.get? a=some o->(h1.update (s.heap.objs.size+1) (ZS fun _=>#[v,v])).get? a=some o:=fun a o S q=>(Ya _ _ (Zx S)).trans q;refine Qb ⟨Jf PySem.F.plain_min_loop _,PQ W s.heap b bt Z B _ 0 _ v _ rfl H (W.frame _ _ _ n fun a af o q=>g a o (fun z=>B (by rw [<- z];exact af)) q) M (fun a o q=>g a o (b a o q).1 (d a o q)) (QV _ e rfl) fun J h2 k N T=>?_⟩;exact h J h2 k N fun a o q=>T a o (b a o q).2 (b a o q).1 (g a o (b a o q).1 (d a o q))
end
end MN
namespace MN
open PySem.Spec PySem.SeqAt L2 DL SD
def jC:KD->List KD->KD
 | b,[]=>b
 | b,p::r=>jC (if HT.lexLt p.1 b.1=true then p else b) r
theorem Dy:∀(l:List KD) (b p:KD),jC b (l++[p])=if HT.lexLt p.1 (jC b l).1=true then p else jC b l
 | [],_,_=>rfl
 | _::l,_,p=>Dy l _ p
def o0:List D->Option D
 | [.list (.tuple d0::ds)]=>(fB d0 (.tuple d0::ds)).bind fun l=>match l with
  | b::r=>some (jC b r).2
  | []=>none
 | _=>none
theorem Dw{b:KD}{r:List KD}{bt:Nat->Nat->Bool}(f:∀ i j,bt i j=HT.lexLt ((b::r).getD i b).1 ((b::r).getD j b).1):∀ m,m<=r.length->(b::r)[Ul bt m]?=some (jC b (r.take m))/\Ul bt m<=m
 | 0,_=>⟨rfl,Qk _⟩
 | m+1,h=>by
  obtain⟨d,le⟩:=Dw f m (by lia);have a:r[m]?=some r[m]:=Qh (by lia)
  have g:r.take (m+1)=r.take m++[r[m]]:=by rw [List.take_succ,a];rfl
  have e:bt (m+1) (Ul bt m)=HT.lexLt r[m].1 (jC b (r.take m)).1:=by
   rw [f,Yb,Yb,d,List.getElem?_cons_succ,a];rfl
  unfold Ul;rw [g,Dy,e];by_cases c:HT.lexLt r[m].1 (jC b (r.take m)).1=true
  ·rw [if_pos c,if_pos c]
   exact⟨by rw [List.getElem?_cons_succ,a],Qk _⟩
  ·rw [if_neg c,if_neg c]
   exact⟨d,Nat.le_succ_of_le le⟩
theorem Ao{h:Heap}:∀{us:List YP}{ds:List D}{as:List JW}{i:Nat}{u:YP}{d:D},UZ h us ds as->us[i]?=some u->ds[i]?=some d->∃ bs,UJ h u d bs
 | _,_,_,0,_,_,.cons r _,e1,e2=>by cases e1;cases e2;exact⟨_,r⟩
 | _,_,_,i+1,_,_,.cons _ t,e1,e2=>Ao (i:=i) t (by simpa using e1) (by simpa using e2)
theorem GM{K:PySem.W.Frag}{F:JW->Prop}{H:Hp}:∀{ds:List D}{vs:List V}{us:List YP}{i:Nat}{d:D}{u:YP},Reps K F H ds vs->Vals vs us->ds[i]?=some d->us[i]?=some u->∃ v,aR K F H d v/\RelV v u
 | _,_,_,0,_,_,.cons r _,.cons q _,e1,e2=>by cases e1;cases e2;exact⟨_,r,q⟩
 | _,_,_,i+1,_,_,.cons _ r,.cons _ q,e1,e2=>GM (i:=i) r q (by simpa using e1) (by simpa using e2)
theorem GT{d0:List D}:∀{ds:List D}{l:List KD},fB d0 ds=some l->J8 ds=true/\ds.length=l.length
 | [],_,h=>by cases h;exact⟨rfl,rfl⟩
 | d::ds,_,h=>by
  obtain⟨k,g,h⟩:=aJ h;obtain⟨r,e,h⟩:=aJ h;cases h;obtain⟨c,b⟩:=GT e;obtain⟨x,a,rfl,_,f⟩:=kA g
  exact⟨by rw [J8,show Zw (.tuple (x::a))=J8 (x::a)from rfl,u4 f,c];rfl,by rw [QE,QE,b]⟩
theorem Nv{X:Cx}(hc:X.calm=true)(hu:X.A.units+66<Za):fJ X (.builtin "min") (jA X.K o0):=fun S s σ H xs us Q I rv zz=>by
 obtain⟨F,ds,q,z,R,f,k⟩:=zz;unfold o0 at f
 split at f
 ·rename_i d0 dr;obtain⟨l,Z,f⟩:=aJ f
  cases l with
  | nil=>cases f
  | cons b r=>
   cases f
   cases R with
   | cons R1 R2=>
   cases R2
   cases R1 with
   | @lst a vs _ h1 r1=>
   obtain⟨u,rfl,ru⟩:=i4 rv;cases ru;obtain⟨c,e,pl,_⟩:=I.list h1.sq;obtain⟨cl,ll⟩:=GT Z;obtain⟨B,w⟩:=wL Z;obtain⟨as,rd⟩:=Reps.reads I r1 cl e
   have d:c.length=(b::r).length:=by rw [<- e.length,<- r1.length,ll]
   have J:∀ i,i<c.length->(.tuple d0::dr)[i]?=some ((b::r).getD i b).2:=fun i hi=>by
    rw [<- B,QS,Yb,Qh (by lia)];rfl
   have key:∀ i,i<c.length->jV d0 ((b::r).getD i b).2=some ((b::r).getD i b).1:=fun i hi=>by
    refine w _ ?_;rw [Yb,Qh (by lia)];exact Yr _
   refine PM (bt:=fun i j=>HT.lexLt ((b::r).getD i b).1 ((b::r).getD j b).1) (I.ok.hd hc) pl.isList (by rw [QH,d];exact Nat.succ_pos _) (fun i j x y s' Q' E' p hx hy hQ=>?_) fun v h' tk U p=>?_
   ·have h:c[i]?=some x:=by simpa using hx
    have g:c[j]?=some y:=by simpa using hy
    have t:=(Qe.mp h).1;have T:=(Qe.mp g).1;obtain⟨a7,o⟩:=Ao rd h (J i t);obtain⟨a6,n⟩:=Ao rd g (J j T);obtain⟨x1,a5,N,G,f1⟩:=kA (key i t);obtain⟨x2,a0,M,E,f2⟩:=kA (key j T);rw [N]at o;rw [M]at n;have o:=Reads.keeps p o;have n:=Reads.keeps p n
    cases o with
    | tuple a1 a2 a3 a4=>
    cases n with
    | tuple b1 b2 b3 b4=>
    exact PH (by show X.A.units+1+65<Za;lia) (.tuple a1 a2 a3 a4) (.tuple b1 b2 b3 b4) (sA G E) f1 f2 hQ
   ·have hn:c.toArray.size-1=r.length:=by rw [QH,d];rfl
    rw [hn]at U;obtain⟨Y,g2⟩:=Dw (b:=b) (r:=r) (bt:=fun i j=>HT.lexLt ((b::r).getD i b).1 ((b::r).getD j b).1) (fun _ _=>rfl) r.length (Qk _);rw [List.take_length]at Y
    have m:c[Ul (fun i j=>HT.lexLt ((b::r).getD i b).1 ((b::r).getD j b).1) r.length]?=some v:=by simpa using U
    have t:=(Qe.mp m).1;have W:=J _ t;rw [Yb,Y]at W;obtain⟨O,w1,w2⟩:=GM r1 e W m
    exact⟨O,H,I.kept p,w2,k F H O (aH.refl F H) w1⟩
 ·cases f
end MN
namespace LM
open PySem.Spec L2 CL DL DC SD MN
section
variable {X:Cx}{e body:Expr}{params:Uu}{scope:Zz}{lpos kp p pos:Pos}{N':List Str}{inner:List (Option Nat)}{x0 qual:Str}{c P:JW}{ga gb:aA->Option D}
end
end LM
namespace LM
open PySem.Spec L2 CL DL DC
section
variable {X:Cx}{e:Expr}{es:List Expr}{p pos:Pos}{gr:aA->Option (List D)}
theorem jO.ext{P:JW}{a:Array YP}{F b:JW->Prop}{H H':Hp}(T:jO P a H)(E:aH F b H H'):jO P a H':=let⟨m,e⟩:=T;⟨m,E.same _ _ e⟩
end
end LM
namespace LM
open PySem.Spec L2 CL DL DC
def dR(H:Hp)(c:JW):Hp:=fun b=>if b=c then none else H b
theorem o3{H:Hp}{c:JW}:dR H c c=none:=if_pos rfl
theorem fM{H:Hp}{b c:JW}(h:b≠c):dR H c b=H b:=if_neg h
theorem M4{H:Hp}{b c:JW}{u:HO}(h:dR H c b=some u):b≠c/\H b=some u:=by
 by_cases e:b=c
 ·rw [e,o3]at h;cases h
 ·rw [fM e]at h;exact⟨e,h⟩
theorem Ac{H:Hp}{b c:JW}(h:H b=none):dR H c b=none:=by
 by_cases e:b=c
 ·rw [e];exact o3
 ·rw [fM e];exact h
theorem Mw{H:Hp}{c:JW}{z:HO}(h:H c=some z):aP (dR H c) c z=H:=by
 funext b
 by_cases e:b=c
 ·rw [e,cQ,h]
 ·rw [aU e,fM e]
def eO(o:Obj):HO:=.frz o (.own 0)
def n3(f:JW)(o:Obj):HO:=.ext fun h=>h.get? f=some o
section
variable {P:JZ}{w:J1}{fs:List JW}{H H':Hp}{h h':Heap}{c:JW}{o:Obj}
theorem U4(U:Un fs [] H H' h h'):Un fs [] (aP H c (eO o)) (aP H' c (eO o)) h h':=by
 have f:∀ b,aP H c (eO o) b=none->b≠c/\H b=none:=fun b q=>by
  by_cases e:b=c
  ·rw [e,cQ]at q;cases q
  ·rw [aU e]at q;exact⟨e,q⟩
 have g:∀ b u,aP H c (eO o) b=some u->(b=c/\u=eO o) ∨ (b≠c/\H b=some u):=fun b u q=>by
  by_cases e:b=c
  ·rw [e,cQ]at q;cases q;exact .inl ⟨e,rfl⟩
  ·rw [aU e]at q;exact .inr ⟨e,q⟩
 refine⟨fun b a q n i d=>U.keep b a q (f b n).2 i d,fun b a q n i d=>U.slot b a q (f b n).2 i d,fun b a q n d=>?_,U.there,fun b j q=>?_,fun b a u q=>?_,fun b k q=>?_⟩
 ·rw [aU (f b n).1];exact U.free b a q (f b n).2 d
 ·rcases g b _ q with⟨_,e⟩ | ⟨e,q⟩
  ·cases e
  ·rw [aU e];exact U.tups b j q
 ·rcases g b _ q with⟨e,l⟩ | ⟨e,q⟩
  ·rw [e,cQ,<- l]
  ·rw [aU e];exact U.frzs b a u q
 ·rcases g b _ q with⟨_,e⟩ | ⟨e,q⟩
  ·cases e
  ·rw [aU e];exact U.tbls b k q
theorem Gq(x:cY P w H h)(f:H c=none)(e:h.get? c=some o):cY P w (aP H c (eO o)) h:=fun b u q=>by
 by_cases a:b=c
 ·rw [a,cQ]at q;cases q;rw [a]
  exact⟨e,o,e⟩
 ·rw [aU a]at q
  exact(x b u q).stay (fun d v _ q=>q) (fun d q=>by rw [aU (eE q f)];exact q) fun d g q=>by rw [aU (eE q f)];exact q
theorem U5(U:Un fs [] (aP H c (eO o)) H' h h')(m:H c=none)(e:h.get? c=some o)(j:h'.get? c=some o):Un fs [] H (dR H' c) h h':=by
 have f:∀ b u,H b=some u->b≠c:=fun b u q z=>by rw [z,m]at q;cases q
 refine⟨fun b d q n i g=>?_,fun b d q n i g=>?_,fun b d q n g=>?_,U.there,fun b k q=>?_,fun b d u q=>?_,fun b l q=>?_⟩
 ·by_cases a:b=c
  ·subst a;rw [e]at q;cases q;exact j
  ·exact U.keep b d q (by rw [aU a];exact n) i g
 ·by_cases a:b=c
  ·subst a;rw [e]at q;cases q;exact⟨_,j⟩
  ·exact U.slot b d q (by rw [aU a];exact n) i g
 ·by_cases a:b=c
  ·rw [a];exact o3
  ·rw [fM a];exact U.free b d q (by rw [aU a];exact n) g
 ·rw [fM (f b _ q)];exact U.tups b k (by rw [aU (f b _ q)];exact q)
 ·rw [fM (f b _ q)];exact U.frzs b d u (by rw [aU (f b _ q)];exact q)
 ·rw [fM (f b _ q)];exact U.tbls b l (by rw [aU (f b _ q)];exact q)
theorem Gr(x:cY P w H h)(a:H c=some (eO o)):cY P w (dR H c) h:=fun b u q=>by
 obtain⟨f,q⟩:=M4 q
 refine(x b u q).stay (fun d v _ q=>q) (fun d q=>?_) fun d e q=>?_
 ·rw [fM (fun z=>by rw [z,a]at q;cases q)];exact q
 ·rw [fM (fun z=>by rw [z,a]at q;cases e <;> cases q)];exact q
end
section
variable {K:PySem.W.Frag}{F F':JW->Prop}{H:Hp}{c:JW}{o:Obj}(hc:H c=some (eO o))
include hc
theorem wY{a:JW}{xs:List V}(h:bQ K H a xs):bQ K (dR H c) a xs:=by
 rcases h with(h | ⟨b,h⟩) | h
 ·exact .inl (.inl (by rw [fM (fun z=>by rw [z,hc]at h;cases h)];exact h))
 ·exact .inl (.inr ⟨b,by rw [fM (fun z=>by rw [z,hc]at h;cases h)];exact h⟩)
 ·exact .inr h
variable (hF:∀ a,F a->a≠c->(∀ q,H a≠some (.cod q))->F' a)
include hF
mutual
theorem rC{d:D}{v:V}(h:aR K F H d v):aR K F' (dR H c) d v:=by
 cases h with
 | non=>exact .non
 | bl b=>exact .bl b
 | int i=>exact .int i
 | str x=>exact .str x
 | tup h r=>exact .tup (wY hc h) (reps_del r)
 | lst h r=>
  refine .lst ?_ (reps_del r);rcases h with⟨f,h⟩ | h
  ·rcases h with h | ⟨e,h⟩
   ·have a:=uP h hc (fun z=>by cases z);exact .inl ⟨hF _ f a fun q z=>(by rw [h]at z;cases z),.inl (by rw [fM a];exact h)⟩
   ·have a:=uP h hc (fun z=>by cases z);exact .inl ⟨hF _ f a fun q z=>(by rw [h]at z;cases z),.inr ⟨e,by rw [fM a];exact h⟩⟩
  ·exact .inr h
 | dct f h n l r=>
  have a:=uP h hc (fun z=>by cases z);exact .dct (hF _ f a fun q z=>(by rw [h]at z;cases z)) (by rw [fM a];exact h) n l (dreps_del r)
 | exn f h n=>
  have a:=uP h hc (fun z=>by cases z);exact .exn (hF _ f a fun q z=>(by rw [h]at z;cases z)) (by rw [fM a];exact h) n
theorem dreps_del{kvs:List (D × D)}{es:List (eN × JW × V)}(h:DReps K F H kvs es):DReps K F' (dR H c) kvs es:=by
 cases h with
 | nil=>exact .nil
 | @cons k b d v kvs es h r t=>
  refine .cons ?_ (rC r) (dreps_del t)
  cases k with
  | inl g=>exact wY hc h
  | inr a=>obtain⟨n,bs,f,e⟩:=h;exact⟨n,bs,wY hc f,Paired.mapP e fun _ _ z=>wY hc z⟩
theorem reps_del{ds:List D}{vs:List V}(h:Reps K F H ds vs):Reps K F' (dR H c) ds vs:=by
 cases h with
 | nil=>exact .nil
 | cons h r=>exact .cons (rC h) (reps_del r)
end
end
def DD(P:JZ)(w:J1)(K:PySem.W.Frag)(mg:Str->Option YP)(base:Heap)(k:Nat)(f:JW)(b:(JW->Prop)->Hp->Prop)(e:List D->Option D):Prop:=
 ∀(X:Cx) (pins:List (JW × Obj)) (s:JV) (σ:L2.St) (H:Hp) (F:JW->Prop) (d dr:D) (v:V) (u:YP),X.prog=P->X.w=w->X.K=K->X.mg=mg->X.base=base->cT k X.A->Inv X pins σ H s->(∀ a,F a->H a≠none)->b F H->aR K F H d v->RelV v u->e [d]=some dr->
  (∃ fd,∃ ob,s.heap.get? f=some ob/\ob.data=.func fd)/\JY (J0 P w) X.A (call (.ref f) [u]) (fun y c=>∃ F' H' v',Inv X pins σ H' c/\aH F F' H H'/\RelV v' y/\aR K F' H' dr v') X.xe s
def vH(P:JZ)(w:J1)(K:PySem.W.Frag)(mg:Str->Option YP)(base:Heap)(A:Around)(N':List Str)(a:Str)(scope:Zz)(b:List (Str × JW))(f c:JW)(s:JV)(H:Hp)(d:List Env)(e:Bool):Cx:=
 ⟨P,w,K,mg,base,A.deeper (PySem.W.envX a scope s.heap.objs.size f (.ref c) b),N',s,H,PySem.W.envX a scope s.heap.objs.size f (.ref c) b,d,PySem.W.envX a scope s.heap.objs.size f (.ref c) b::d,[],fun x=>scope.names.lookup x == some .local,e,[],fun _ _=>False⟩
structure xD(scope:Zz)(x0 xf:Str):Prop where
 kind:scope.kind=.function
 co:scope.isCoroutine=false
 gen:scope.isGenerator=false
 nocell:∀ x∈scope.names,x.2≠.cell
 free:∀ x∈scope.names,x.2=.free->x.1=xf
 l0:scope.names.lookup x0=some .local
 lf:scope.names.lookup xf=some .free
def p8(K:PySem.W.Frag)(f c' c:JW)(d co:Obj)(a:Str)(e:D)(b:V)(F:JW->Prop)(H:Hp):Prop:=(F f/\F c'/\F c)/\H f=some (n3 f d)/\H c'=some (.cod a)/\H c=some (eO co)/\aR K F H e b
theorem p8.stay{K:PySem.W.Frag}{f c' c:JW}{d co:Obj}{a:Str}{e:D}{b:V}{F g:JW->Prop}{H H':Hp}(h:p8 K f c' c d co a e b F H)(T:bU K F g H H'):p8 K f c' c d co a e b g H':=
 ⟨⟨T.up _ h.1.1,T.up _ h.1.2.1,T.up _ h.1.2.2⟩,T.xt _ _ h.1.1 h.2.1,T.xt _ _ h.1.2.1 h.2.2.1,T.xt _ _ h.1.2.2 h.2.2.2.1,h.2.2.2.2.stay T⟩
theorem M1{P:JZ}{w:J1}{K:PySem.W.Frag}{mg:Str->Option YP}{base:Heap}{k:Nat}{f c' c:JW}{co:Obj}{uc:YP}{qual x0 xf:Str}{g:Uu}{l:Expr}{scope:Zz}{pm Z:YP}{dc:D}{vc:V}{gb:aA->Option D}{G:List (Str × JW)}
  (S:xD scope x0 xf) (E:∀ x a,G.lookup x=some a->x=xf/\a=c) (a3:G.lookup xf=some c) (a8:co.data=.cell (some uc)) (rc:RelV vc uc) (Y:∀ u,Z3 (PySem.W.kla_fn "<lambda>" qual g l scope G pm (.ref c') Z) ⟨[u],[]⟩=pure [(x0,u)])
  (he:∀ A s H st cb,cT k (A.deeper (PySem.W.envX qual scope s.heap.objs.size f (.ref c') G))->DE (vH P w K mg base A [x0,xf] qual scope G f c' s H st cb) l gb):
  DD P w K mg base (k+1) f (p8 K f c' c (PySem.W.kla_obj "<lambda>" qual g l scope G pm c' Z) co qual dc vc) (fun ds=>match ds with | [d]=>gb [.dat d,.dat dc] | _=>none):=by
 intro X b1 s σ H F d dr v u e1 e2 e3 e4 e5 hr I z hp R ru hg;obtain⟨⟨Ff,b5,Fc⟩,hf,a9,T,Rc⟩:=hp;have fo:s.heap.get? f=some (PySem.W.kla_obj "<lambda>" qual g l scope G pm c' Z):=(I.hok f _ hf).1;have ec:s.heap.get? c=some co:=(I.hok c _ T).1
 refine⟨⟨_,_,fo,rfl⟩,?_⟩
 have a2:s.heap.CodeRec (.ref c') qual:=I.hok c' _ a9
 have hx:xf≠x0:=fun q=>by
  have:=S.lf
  rw [q,S.l0]at this;cases this
 obtain⟨t,w',K',a0,O,A,N,b0,b2,b4,a4,stack,ex,fn,M,pn,xe⟩:=X;dsimp only at e1 e2 e3 e4 e5;subst e1 e2 e3 e4 e5;have hd:cY t w' (dR H c) s.heap:=Gr I.hok T
 have a5:c∉dN stack:=fun q=>by
  have:=I.stkFree c q
  rw [T]at this;cases this
 refine UR ?_;refine PySem.W.kla_callFunE hr.depth fo rfl S.co S.gen rfl a2 ?_;rw [Y];refine Qb (wpAny_newFunctionEnv S.nocell (fun y hy=>by rw [Qm.mp hy];exact S.l0) (fun B a7 a1=>⟨((I.mod.nolimit).keeps I.bk).fresh _ a1,?_⟩) S.kind)
 show ZY _ _ (.expr l (PySem.W.envX qual scope s.heap.objs.size f (.ref c') G)) _ _
 have m:∀ b ob,s.heap.get? b=some ob->B.get? b=some ob:=fun b ob e=>a1.extBut b ob (Qw (Qo e)) (Qc _ e);have r:∀ b:JW,b∉([]:List JW):=fun b z=>nomatch z;have cell:B.IsCell c (some uc):=⟨co,m _ _ ec,a8⟩
 have J:Inv (vH t w' K' a0 O A [x0,xf] qual scope G f c' s (dR H c) stack M) [] [some v,some vc] (dR H c) { s with heap:=B,toks:=s.toks + [(x0,u)].length }:=by
  refine⟨⟨I.ok.mod,S.kind,rfl,rfl,Qk _,fun x y a h1 h2=>(E x a h1).1.trans (E y a h2).1.symm,fun x Q=>?_,fun x a Q h=>?_,fun _=>hr.hd,Around.frames_deeper I.ok.frames,.inr ⟨rfl,rfl⟩,fun b Y=>absurd Y (r b),fun b ob e=>⟨(I.bs b ob e).1,Ac (I.bs b ob e).2⟩,Qv I.ok.bsz I.sz,fun b _ _=>r b,fun b Y=>absurd Y (r b),I.stack,fun b Y=>Ac (I.stkFree b Y)⟩,
   rfl,I.bare,Un.kept m,⟨_,a7,fun i x v1 q1 q2 q3=>?_⟩,fun x a e=>?_,Ac (I.hok.fresh (Qk _)),fun x a e=>?_,fun p hp=>absurd (show p∈([]:List (JW × Obj))from hp) (by simp),hd.kept m,rfl⟩
  ·have a6:scope.names.lookup x=some .cell ∨ scope.names.lookup x=some .free:=Q;rcases a6 with q | q
   ·exact absurd rfl (S.nocell _ (PySem.mem_of_lookup q))
   ·have e:=S.free _ (PySem.mem_of_lookup q) rfl
    exact⟨c,by show G.lookup x=_;rw [show x=xf from e];exact a3⟩
  ·have q:(scope.names.lookup x == some NameKind.local)=true:=Q;have q:=Yv q;rw [(E x a h).1,S.lf]at q;cases q
  ·match i with
   | 0=>
    cases q1;cases q2
    exact⟨u,ru,.inl ⟨S.l0,by simp⟩⟩
   | 1=>
    cases q1;cases q2
    exact⟨uc,rc,.inr ⟨.inr S.lf,c,a3,cell⟩⟩
   | i+2=>cases q2
  ·obtain⟨rfl,rfl⟩:=E x a e
   exact⟨_,cell⟩
  ·obtain⟨rfl,rfl⟩:=E x a e;exact o3
 have Fz:∀ a,(F a/\a≠c)->dR H c a≠none:=fun a q=>by rw [fM q.2];exact z a q.1
 have St:bE K' (fun a=>F a/\a≠c) (dR H c) (dR H c) [some v,some vc] [.dat d,.dat dc]:=by
  refine⟨rfl,fun i s h=>?_,fun i j a ds es b3 h1=>?_,Fz⟩
  ·match i with
   | 0=>cases h;exact⟨_,rfl,v,rfl,rC T (fun a q n _=>⟨q,n⟩) R⟩
   | 1=>cases h;exact⟨_,rfl,vc,rfl,rC T (fun a q n _=>⟨q,n⟩) Rc⟩
   | i+2=>cases h
  ·match i with
   | 0=>cases ds <;> cases h1
   | 1=>cases ds <;> cases h1
   | i+2=>cases h1
 refine PySem.W.kla_codeExpr (YZ (he A s (dR H c) stack M (hr.deeper _) [] _ _ (dR H c) (fun v' H'=>∃ F',aH (fun a=>F a/\a≠c) F' (dR H c) H'/\aR K' F' H' dr v') J ⟨_,_,_,_,St,hg,fun F' H' v' E' R'=>⟨F',E',R'⟩⟩) (fun y s' q=>?_) fun _ _ q=>Zt q);obtain⟨v',H',J',rv,F',E',R'⟩:=q;have c0:H' c=none:=J'.base.free c co ec o3 (r c);have e':s'.heap.get? c=some co:=J'.base.keep c co ec o3 a5 (r c);have U:=U4 (c:=c) (o:=co) J'.base;rw [show aP (vH t w' K' a0 O A [x0,xf] qual scope G f c' s (dR H c) stack M).H₀ c (eO co)=H from Mw T]at U
 have Sm:dA H (aP H' c (eO co)):=fun b ob q=>by
  by_cases e:b=c
  ·rw [e,T]at q;cases q;rw [e,cQ]
  ·rw [aU e];exact E'.same _ _ (by rw [fM e];exact q)
 refine⟨fun a=>F' a ∨ a=c,aP H' c (eO co),v',I.call' (ch:=[]) J'.os U (Gq J'.hok c0 e') J'.bare (fun b q=>absurd q (r b)),⟨Sm,fun a q=>?_,fun a q=>?_⟩,rv,R'.stay ⟨fun a q=>.inl q,fun a xs q=>dA.sqT (nM c0) q,fun a xs _ q=>dA.rd (nM c0) q,fun a ob _ q=>nM c0 _ _ q⟩⟩
 ·by_cases e:a=c
  ·exact .inr e
  ·exact .inl (E'.up a ⟨q,e⟩)
 ·rcases q with q | q
  ·rcases E'.new a q with q | ⟨q1,q2⟩
   ·exact .inl q.1
   ·have e:a≠c:=fun e=>q2 (by rw [e];exact c0);exact .inr ⟨by rw [<- fM (H:=H) e];exact q1,by rw [aU e];exact q2⟩
  ·exact .inl (by rw [q];exact Fc)
end LM
namespace LM
open PySem.Spec L2 CL DL DC
def FR(P:JZ)(w:J1)(K:PySem.W.Frag)(mg:Str->Option YP)(base:Heap)(k:Nat)(a:List D->Option D):V->(JW->Prop)->Hp->Prop:=fun v F H=>∃ f ψ,v=.ref f/\ψ F H/\DD P w K mg base k f ψ a
open Classical in
def o8(i:Nat)(R:V->(JW->Prop)->Hp->Prop)(c:List D->Option D)(b:aA->Option D):aA->Option D:=fun a=>match a[i]? with
 | some (.val R')=>if R'=R then(b a).bind fun d=>c [d]else none
 | _=>none
section
variable {X:Cx}{e:Expr}{p pos:Pos}{ga:aA->Option D}
theorem NQ{k:Nat}{x:Str}{Y:List D->Option D}(i:Nat)(hr:cT k X.A)(ha:DE X e ga)(hN:X.N[i]?=some x:=by rfl)(hv:jQ X.env.scope x:=by first | exact ZG rfl | exact Zr (ZG rfl) | exact Zr (Zr rfl))(hd:(x == ("__debug__":Str))=false:=by decide)
  (E:(x == ("__classdict__":Str))=false:=by decide) (hs:JX [e] X.env=(false,Zk e X.env)::JX [] X.env:=by rfl) (hpl:(Zi pos (JX [] X.env)).any (·.1)=false:=by rfl):
  DE X (.Call (.Name x p) [e] [] pos) (o8 i (FR X.prog X.w X.K X.mg X.base k Y) Y ga):=by
 intro a s n H Q I ⟨F,l,Z,dr,S,q,kk⟩;unfold o8 at q
 split at q
 ·rename_i T er
  split at q
  ·rename_i eR;subst eR;obtain⟨d,e1,q⟩:=aJ q;obtain⟨ov,B,v,t,M⟩:=S.sl i _ er;subst t;obtain⟨f,_,G,_,_⟩:=M F H (bU.refl _ _ _);subst G;refine YB (bA ((nJ hN hv hd E) a s n H (fun z m=>z=.ref f/\m=H) I ⟨_,B,rfl,rfl⟩) fun u2 s2 zz=>?_);obtain⟨z,m,I2,rz,ez,eh⟩:=zz;subst ez eh
   obtain rfl:u2=J5 f:=rz
   have A:=ED ha aL hs pos a s2 n m (fun o g=>∃ b,aH F b m g/\Reps X.K b g [d] o) I2 ⟨F,l,Z,[d],S,by unfold aD;rw [e1];rfl,fun b g o E1 j=>⟨b,E1,j⟩⟩
   show JY _ _ (callWith pos (.ref f) [] (Zi pos (JX [e] X.env)) []) _ _ _
   rw [hs]at A ⊢;refine PySem.W.callWith_of (P:=fun h=>∃ O,∃ c,h.get? f=some c/\c.data=.func O) (by show((false || (Zi pos (JX [] X.env)).any (·.1)) || false)=false;rw [hpl];rfl) (fun h ⟨O,c,o1,o2⟩=>?_) (JI (bA A fun us s1 ⟨o,g,I1,r1,b,E1,j⟩=>?_))
   ·refine⟨.frame,.inl rfl,?_⟩
    obtain⟨oc,od,dt,a0⟩:=c;cases o2
    exact(PySem.W.Looks.ld (part:=none) o1).andThen .now
   ·cases j with
    | cons j R0=>
    cases R0;obtain⟨u,rfl,ru⟩:=i4 r1;obtain⟨f',ψ,G,r,run⟩:=M b g E1.stay;cases G;obtain⟨c,wp⟩:=run X a s1 n g b d dr _ u rfl rfl rfl rfl rfl hr I1 (S.ext E1).fz r j ru q
    exact⟨c,bA wp fun y s' ⟨F',U,J,I',E',rv,T⟩=>⟨J,U,I',rv,kk F' U J (E1.trans E') T⟩⟩
  ·cases q
 ·cases q
end
def nN(n:Nat)(d:D)(R:V->(JW->Prop)->Hp->Prop):aA:=[.dat d,.val R]++List.replicate (n-2) .no
def oU(P:JZ)(w:J1)(K:PySem.W.Frag)(mg:Str->Option YP)(base:Heap)(k n:Nat)(g:(V->(JW->Prop)->Hp->Prop)->(List D->Option D)->aA->Option aK):Sp:=fun b H Q _=>∃(F:JW->Prop) (Gf:List D->Option D) (d dr:D) (v fv:V),b=[v,fv]/\(∀ a,F a->H a≠none)/\aR K F H d v /\
 (∀ F' H',bU K F F' H H'->FR P w K mg base k Gf fv F' H')/\g (FR P w K mg base k Gf) Gf (nN n d (FR P w K mg base k Gf))=some (.rt dr)/\∀ F' H' v,aH F F' H H'->aR K F' H' dr v->Q v H'
theorem SZ{K:PySem.W.Frag}{F:JW->Prop}{H:Hp}{N:List Str}{d:D}{v f:V}{R:V->(JW->Prop)->Hp->Prop}(o:2<=N.length)(z:∀ a,F a->H a≠none)(r:aR K F H d v)(h:∀ F' H',bU K F F' H H'->R f F' H'):bE K F H H (L2.start N [v,f]) (nN N.length d R):=by
 have e:L2.start N [v,f]=some v::some f::List.replicate (N.length-2) none:=by simp [L2.start]
 rw [e]
 refine⟨by simp [nN],fun i s c=>?_,fun i j a g p l c=>?_,z⟩
 ·match i with
  | 0=>cases c;exact⟨_,rfl,v,rfl,r⟩
  | 1=>cases c;exact⟨_,rfl,f,rfl,h⟩
  | i+2=>
   have b:(List.replicate (N.length-2) Sl.no)[i]?=some s:=by simpa [nN]using c
   have k:=YA (a:=(none:Option V)) (n:=N.length-2) (i:=i);rw [YA]at b
   split at b
   ·rename_i m;cases b;rw [if_pos m]at k
    exact⟨none,by simpa using k,trivial⟩
   ·cases b
 ·match i with
  | 0=>cases g <;> cases c
  | 1=>cases g <;> cases c
  | i+2=>
   have b:(List.replicate (N.length-2) Sl.no)[i]?=some (iJ g):=by simpa [nN]using c
   rw [YA]at b
   split at b <;> cases g <;> cases b
theorem IQ{P:JZ}{w:J1}{K:PySem.W.Frag}{mg:Str->Option YP}{base:Heap}{x a:Str}{b:Zj}{f:JW}{i:Zg}{N c:List Str}{k m:Nat}{g:(V->(JW->Prop)->Hp->Prop)->(List D->Option D)->aA->Option aK}(t:c.length=2)(u:N.length=m)(G:2<=m)(F:kF K x a b f i)(S:cB N c (aW b))
  (y:∀(cdv:YP) (A:Around) (outer:List Env) (s:JV) (H:Hp) (E:XK) (Gf:List D->Option D),cdv=i.code->cT k (A.deeper (envOfC a (aW b) s.heap.objs.size f cdv))->
   fT (hX aQ P w K mg base N a (aW b) f cdv A outer s H E).nox (eY b) (g (FR P w K mg base k Gf) Gf)):aN P w K mg base aQ (k+1) f i c (oU P w K mg base k m g):=by
 subst u;obtain⟨Z,Y,kV,J,X,an,cdv,ct,l,rfl,n,e⟩:=F.ex;refine u5 n e S (fun j H Q E h=>?_) fun A outer s H j Q E p h=>?_
 ·obtain⟨F,Gf,d,dr,v,I,rfl,_⟩:=h;rw [t];rfl
 ·obtain⟨F,Gf,d,dr,v,I,rfl,z,r,B,q,o⟩:=h
  refine⟨_,fU.nox (y cdv A outer s H E Gf rfl p),?_⟩
  exact⟨F,H,F,_,_,aH.refl F H,SZ G z r B,q,fun T O v U M=>o T O v U M⟩
end LM
namespace LM
open PySem.Spec L2 CL DL DC
theorem OO{X:Cx}{pins:List (JW × Obj)}{g:L2.St}{H:Hp}{s:JV}{f:JW}{o:Obj}(I:Inv X pins g H s)(x:gR X pins H f)(e:s.heap.get? f=some o):Inv X pins g (aP H f (n3 f o)) s:=by
 obtain⟨w,t,B,r,l,j⟩:=x
 have c:∀ b u,H b=some u->aP H f (n3 f o) b=some u:=fun b u q=>by rw [aU (eE q w)];exact q
 have:=I.step (h':=s.heap) (H':=aP H f (n3 f o)) (g':=s.gens) (d':=s.drawn) (t':=s.toks) (ch:=[f]) (fun b a=>by rw [Qm.mp a];exact⟨r,t,l,j⟩) (fun b u _ _ _ q _=>q) (fun b u _ _ _ q _=>⟨u.slots,q⟩)
  (fun b u a _ n=>by rw [aU (fun z=>a (by rw [z];exact List.mem_singleton_self f))];exact n) (fun b u _ q=>⟨u,q⟩) (fun b i q=>c _ _ q) (fun b A u q=>c _ _ q) (fun b y q=>⟨#[],by rw [c _ _ q];simp⟩) (fun m h=>h)
  (fun b u q=>by
   by_cases a:b=f
   ·subst a;rw [cQ]at q;cases q
    exact⟨e,⟨o,e⟩,fun F E p k=>k _ p⟩
   ·rw [aU a]at q
    exact(I.hok b u q).stay (fun d v _ q=>q) (fun d q=>c _ _ q) fun d i q=>c _ _ q) I.bare
 exact this
section
variable {X:Cx}{params:Uu}{body:Expr}{scope:Zz}{pos:Pos}{cc P:JW}{qual:Str}
def BG(X:Cx)(scope:Zz)(a:List (Str × JW)):Prop:=(∀ x c,a.lookup x=some c->X.env.cells.lookup x=some c)/\(∀ x,(x,J7)∈scope.names->∃ c,a.lookup x=some c)/\∀ x c,a.lookup x=some c->(x,J7)∈scope.names
def LZ(X:Cx)(a:Uu)(c:Expr)(scope:Zz)(pos:Pos)(b:Str):TE:=fun d H Q=>∀ f c' pm ctv cl H',BG X scope cl->dA H H'->H' c'=some (.cod b)->H f=none->H' f=some (n3 f (PySem.W.kla_obj "<lambda>" b a c scope cl pm c' ctv))->Q (.ref f) H'
theorem Sd(r:jO P (iT pos qual) X.H₀)(b:defaultsOf params X.env=([],[]))(a:X.env.code=.ref cc)(C:PySem.W.CodeHd X.base cc P)(B:Bm X.mg X.base)(o:X.env.qual++"<lambda>"=qual)(g:∀ x∈scope.names,x.2=.free->X.env.kindOf x.1=some .cell ∨ X.env.kindOf x.1=some .free):
  PE X (.Lambda params body scope pos) (LZ X params body scope pos qual):=by
 intro l s z H Q I h;obtain⟨v,i,k⟩:=xU (env:=X.env) (scope:=scope) fun x n p=>I.ok.has x.1 (g x n p);refine Oq I b i a C B o (r.inv I) fun f w m j H2 A e y c q d u=>?_
 have S2:dA H H2:=by
  rcases e with rfl | ⟨t,rfl⟩
  ·exact dA.refl _
  ·exact nM t
 refine⟨.ref f,_,OO y (I.fpOk q d) u,rfl,h f w m j v _ k (S2.trans (nM d)) ?_ (S2.free d) cQ⟩
 rw [aU (eE c d)];exact c
end
def CF(gb:aA->Option D)(b:D):List D->Option D:=fun a=>match a with | [d]=>gb [.dat d,.dat b] | _=>none
def rT(j:Nat)(GP:(List D->Option D)->D->Option D)(b gb:aA->Option D):aA->Option D:=fun a=>(b a).bind fun d=>match a[j]? with
 | some (.dat dc)=>GP (CF gb dc) d
 | _=>none
section
variable {X:Cx}{params:Uu}{e1 body:Expr}{scope:Zz}{p lpos pos:Pos}{cc P f:JW}{qual x x0 xf:Str}{fd:Zg}{ps:List Str}{g1 gb:aA->Option D}{GP:(List D->Option D)->D->Option D}{g:(V->(JW->Prop)->Hp->Prop)->(List D->Option D)->aA->Option aK}{k kb n j:Nat}
theorem EH(Fp:aN X.prog X.w X.K X.mg X.base aQ k f fd ps (oU X.prog X.w X.K X.mg X.base (kb+1) n g))(hr:cT k X.A)(hg:Gl X x)(hm:X.mg x=some (.ref f))(hk:PySem.W.keepIn X.K (.ref f)=true)(c0:Binds X.K fd ps [])
  (c4:∀ R Gf d dr,GP Gf d=some dr->g R Gf (nN n d R)=some (.rt dr)) (h1:DE X e1 g1)
  (hT:jO P (iT lpos qual) X.H₀) (a7:defaultsOf params X.env=([],[])) (a1:X.env.code=.ref cc) (C:PySem.W.CodeHd X.base cc P) (B:Bm X.mg X.base) (hq:X.env.qual++"<lambda>"=qual) (S':xD scope x0 xf) (E:X.env.scope.names.lookup xf=some .cell) (hN:X.N[j]?=some xf) (b8:X.fn xf=true)
  (l:∀ cl pm c' ctv u,Z3 (PySem.W.kla_fn "<lambda>" qual params body scope cl pm (.ref c') ctv) ⟨[u],[]⟩=pure [(x0,u)])
  (he:∀ cl f c' A s H st cb,cT kb (A.deeper (PySem.W.envX qual scope s.heap.objs.size f (.ref c') cl))->DE (vH X.prog X.w X.K X.mg X.base A [x0,xf] qual scope cl f c' s H st cb) body gb)
  (b9:(x == ("__debug__":Str))=false:=by decide) (hs:JX [e1,.Lambda params body scope lpos] X.env=(false,Zk e1 X.env)::JX [.Lambda params body scope lpos] X.env:=by rfl) (b4:JX [.Lambda params body scope lpos] X.env=(false,Zk (.Lambda params body scope lpos) X.env)::JX [] X.env:=by rfl)
  (hpl:(Zi pos (JX [.Lambda params body scope lpos] X.env)).any (·.1)=false:=by rfl):
  DE X (.Call (.Name x p) [e1,.Lambda params body scope lpos] [] pos) (rT j GP g1 gb):=by
 intro a3 s σ H Q I ⟨F,H₀,ρ,dr,S,q,kk⟩;obtain⟨d1,q1,q⟩:=aJ q
 split at q
 rotate_left
 ·cases q
 rename_i dc ec;refine YB (pO I hg hm ?_ b9);have b7:∀ x∈scope.names,x.2=.free->X.env.kindOf x.1=some .cell ∨ X.env.kindOf x.1=some .free:=fun y hy hk=>.inl (by rw [S'.free y hy hk];exact E)
 refine PySem.W.callWith_K (h₀:=X.base) I.ok.mod.kin hk (bA ((j9 h1 (j9 (Sd hT a7 a1 C B hq b7) mG b4) hs) pos a3 s σ H
  (fun vs i=>∃ O t v1 h c' pm ctv cl,vs=[v1,.ref h]/\aH F O H t/\aR X.K O t d1 v1/\BG X scope cl/\dA t i/\i c'=some (.cod qual)/\t h=none/\i h=some (n3 h (PySem.W.kla_obj "<lambda>" qual params body scope cl pm c' ctv))) I
  ⟨F,H₀,ρ,d1,S,q1,fun O t v1 E1 R1=>fun h c' pm ctv cl i ck sm h3 h4 h5=>⟨O,t,v1,h,c',pm,ctv,cl,rfl,E1,R1,ck,sm,h3,h4,h5⟩⟩) fun us s3 ⟨vs,i,I3,rv,O,t,v1,h,c',pm,ctv,cl,c5,E1,R1,⟨c1,c2,c3⟩,Sm,G,b5,a0⟩=>⟨I3.kIn,?_⟩) hs hpl
 subst c5;obtain⟨vc,b3,Rc⟩:=S.dat ec;obtain⟨m,c9,hl⟩:=I3.loc;obtain⟨uc,b2,lk⟩:=hl j xf vc hN b3 (.inr (.inl E))
 have lk:∃ c,X.env.cells.lookup xf=some c/\s3.heap.IsCell c (some uc):=by
  rcases lk with⟨k1,_⟩ | ⟨_,z⟩
  ·have a4:X.env.scope.names.lookup xf=some .local:=k1;rw [E]at a4;cases a4
  ·exact z
 obtain⟨c,Y,co,a8,c7⟩:=lk;have Z:i c=none:=I3.freeC xf c Y;have J:X.s₀.heap.objs.size<=c:=I3.ok.cab xf c b8 Y
 have hH:∀ b u,i b=some u->aP i c (eO co) b=some u:=fun b u z=>by rw [aU (eE z Z)];exact z
 have U:p7 X.prog X.w X.K X.mg X.base X.A X.stack s3 (aP i c (eO co)):=by
  have U:=I3.env0
  refine⟨U.frames,U.mod,fun b o z=>⟨(U.bs b o z).1,?_⟩,U.bsz,U.funs,fun b l=>?_,Gq I3.hok Z a8,U.bare⟩
  ·have lt:=QD (Qo z) (Qv I3.ok.bsz J);rw [aU (Qw lt)]
   exact(U.bs b o z).2
  ·have nb:b≠c:=by
    have old:∀ b,b∈X.fs->b≠c:=fun b l=>by
     obtain⟨_,o,ho,_⟩:=I3.ok.funs.mem l;exact Qw (QD (Qo ho) J)
    rcases I3.ok.stk with e | ⟨e,hf⟩
    ·rw [e]at l;exact old b l
    ·rw [e]at l;unfold dN at l;rw [Jb,hf]at l;rcases Qi.mp l with rfl | l
     ·exact fun z=>I3.cne xf c Y z.symm
     ·exact old b l
   rw [aU nb];exact U.frf b l
 have fF:∀ a,(O a ∨ a=h ∨ a=c' ∨ a=c)->aP i c (eO co) a≠none:=fun a z=>by
  rcases z with z | rfl | rfl | rfl
  ·have z1:=(S.ext E1).fz a z
   cases e:t a with
   | none=>exact absurd e z1
   | some u=>rw [hH a u (Sm _ _ e)];simp
  ·rw [hH _ _ a0];simp
  ·rw [hH _ _ G];simp
  ·rw [cQ];simp
 have M:dA t (aP i c (eO co)):=fun b u z=>hH b u (Sm b u z);have T1:bU X.K O (fun a=>O a ∨ a=h ∨ a=c' ∨ a=c) t (aP i c (eO co)):=⟨fun a z=>.inl z,fun a xs z=>dA.sqT M z,fun a xs _ z=>dA.rd M z,fun a u _ z=>M a u z⟩
 have hp:p8 X.K h c' c (PySem.W.kla_obj "<lambda>" qual params body scope cl pm c' ctv) co qual dc vc (fun a=>O a ∨ a=h ∨ a=c' ∨ a=c) (aP i c (eO co)):=
  ⟨⟨.inr (.inl rfl),.inr (.inr (.inl rfl)),.inr (.inr (.inr rfl))⟩,hH _ _ a0,hH _ _ G,cQ,(Rc.stay E1.stay).stay T1⟩
 have a9:∀ y a,cl.lookup y=some a->y=xf/\a=c:=fun y a z=>by
  have ey:y=xf:=S'.free _ (c3 y a z) rfl;subst ey
  have:=c1 _ _ z
  rw [Y]at this
  exact⟨rfl,(QJ this).symm⟩
 have c8:cl.lookup xf=some c:=by
  obtain⟨a,z⟩:=c2 xf (PySem.mem_of_lookup S'.lf);rw [z,(a9 _ _ z).2]
 have a5:oU X.prog X.w X.K X.mg X.base (kb+1) n g [v1,.ref h] (aP i c (eO co)) (fun v H'=>∃ F',aH (fun a=>O a ∨ a=h ∨ a=c' ∨ a=c) F' (aP i c (eO co)) H'/\aR X.K F' H' dr v) E0:=
  ⟨_,_,d1,dr,v1,.ref h,rfl,fF,R1.stay T1,fun F' H' T=>⟨h,_,rfl,hp.stay T,M1 S' a9 c8 c7 b2 (l _ _ _ _) (he cl h c')⟩,c4 _ _ _ _ q,fun F' H' v E' R'=>⟨F',E',R'⟩⟩
 have b6:(us++[]).length=ps.length:=by rw [QO,<- rv.length];exact Fp.len _ _ _ _ a5
 refine UR (Jd (Fp.run X.A X.stack s3 _ ⟨us,[]⟩ (us++[]) [v1,.ref h] _ E0 hr U (c0 s3 us I3.kIn b6) (by rw [QO];exact rv) a5) fun r s' hz=>?_)
 cases r with
 | error e=>exact hz.elim
 | ok fl=>
  cases fl with
  | next=>exact hz.elim
  | brk=>exact hz.elim
  | cont=>exact hz.elim
  | ret u=>
   obtain⟨v,H4,os,b0,un,a6,b1,F4,E4,R4⟩:=hz;have a2:H4 c=some (eO co):=E4.same _ _ cQ;have c6:s'.heap.get? c=some co:=(a6 c _ a2).1
   refine⟨v,dR H4 c,I3.call' (ch:=[]) os (U5 un Z a8 c6) (Gr a6 a2) b0 (fun b z=>nomatch z),b1,kk (fun a=>O a ∨ (t a=none/\F4 a/\a≠c)) _ _ (E1.trans ⟨fun b u z=>?_,fun a z=>.inl z,fun a z=>?_⟩) (rC a2 (fun a z n nq=>?_) R4)⟩
   ·rw [fM (eE (Sm _ _ z) Z)];exact E4.same _ _ (M _ _ z)
   ·rcases z with z | ⟨z1,z2,z3⟩
    ·exact .inl z
    ·exact .inr ⟨z1,by rw [fM z3];exact E4.fz fF a z2⟩
   ·cases e:t a with
    | none=>exact .inr ⟨rfl,z,n⟩
    | some u=>
     rcases E4.new a z with z | ⟨z,_⟩
     ·rcases z with z | rfl | rfl | z
      ·exact .inl z
      ·rw [b5]at e;cases e
      ·exact absurd (E4.same _ _ (hH _ _ G)) (nq qual)
      ·exact absurd z n
     ·rw [M _ _ e]at z;cases z
end
end LM
namespace DC
open PySem.Spec L2 DL ST SL EL TB TX
def hY:D->D->Option D
 | d,.none=>some (.bool (!tU d))
 | _,_=>none
section
variable {X:Cx}{e k v a b:Expr}{es:List Expr}{gr:aA->Option (List D)}{ga gb ge gk gv:aA->Option D}{p pos:Pos}
theorem wC:bN X (Zc .IsNot) (dB X.K hY):=pU O4 fun x y H Q b=>by
 obtain⟨F,d,e,q,z,c,R2,a,k⟩:=b;unfold hY at a
 split at a
 ·cases a;cases R2
  refine⟨rfl,?_⟩
  have e:decide (x=.non)=tU d:=by cases c <;> rfl
  rw [e];exact k F H _ (aH.refl F H) (.bl _)
 ·cases a
def Bn(i:Nat)(gk e:aA->Option D):aA->Option aK:=fun a=>(gk a).bind fun c=>(e a).bind fun d=>(cH c).bind fun b=>some (.nx (a.set i (.ownD [(oG b,d)])))
theorem R6(hu:X.A.units+65<Za)(hk:DE X k gk)(Z:DE X v gv):PE X (.Dict [some k] [v] pos) (fun σ H Q=>∃ F H₀ ρ kd ks d,bE X.K F H H₀ σ ρ/\gk ρ=some kd/\cH kd=some ks/\gv ρ=some d/\∀ F' H' p b w ep ep0,H p=none->aH F F' (aP H p (cA p [] ep0)) H'->bQ X.K H' b (ks.map V.int)->aR X.K F' H' d w->Q (.ref p) (aP H' p (cA p [(.inl ks,b,w)] ep))):=fun a s σ H Q I l=>by
 obtain⟨F,H₀,ρ,kd,ks,d,S,e1,e2,e3,W⟩:=l;refine wpAny_Dict_any rfl rfl (by simp) (by simp) ?_;have J:H s.heap.objs.size=none:=I.hok.fresh (Qk _);have U:(s.heap.objs.size == Zl)=false:=beq_eq_false_iff_ne.mpr (Zx (Qw (CZ I)));have dd:(s.heap.push { cls:=.type "dict",data:=.dict #[] }).DictOfH (fO X.prog X.w) s.heap.objs.size []:=⟨_,_,_,Qt _ rfl,⟨rfl,rfl,rfl⟩,rfl,rfl,fun x Y=>(nomatch Y),.nil⟩;obtain⟨ep,oo⟩:=rQ (H:=H) U dd .nil;have I0:Inv X a σ (aP H s.heap.objs.size (cA s.heap.objs.size [] ep)) { s with heap:=s.heap.push { cls:=.type "dict",data:=.dict #[] } }:=I.laid (t':=s.toks) (fun b o q=>Qc _ q) (Qk _) oo;have E0:aH F F H (aP H s.heap.objs.size (cA s.heap.objs.size [] ep)):=aH.fresh J;generalize s.heap.objs.size=f at *;have S0:=S.ext E0;refine pairTrees_cons_walk (bA (hk a _ σ _ (fun x i=>∃ h,aH F h (aP H f (cA f [] ep)) i/\aR X.K h i kd x) I0 ⟨F,H₀,ρ,kd,S0,e1,fun h i v E1 E=>⟨h,E1,E⟩⟩) fun u1 N l=>?_);obtain⟨x1,i,I1,T,h,E1,E⟩:=l;have S1:=S0.ext E1;obtain⟨b,rfl,hb⟩:=nK E e2;cases T;refine bA (Z a N σ i (fun x g=>∃ j,aH h j i g/\aR X.K j g d x) I1 ⟨h,H₀,ρ,d,S1,e3,fun j g v E2 R2=>⟨j,E2,R2⟩⟩) fun u2 t l=>?_;obtain⟨G,g,I2,O,j,E2,R2⟩:=l;refine pairTrees_nil_walk ?_;have M:g f=some (cA f [] ep):=E2.same _ _ (E1.same _ _ cQ);obtain⟨y,xs,d2,er⟩:=l5 I2 M (fun e he=>(nomatch he)) .nil;cases er;have m:=dA.sqT E2.same hb;unfold storeAll;rw [List.forIn_cons];refine Qa (Qa (wpAny_dictSet_heap (knd:=fO X.prog X.w) (k:=ks) (show X.A.units<Za from by lia) (i1 I2 m) d2 (fun h' r B=>Qb ?_) (QY _)));obtain⟨n,u⟩:=rQ (H:=g) y r (zH O .nil);have I4:Inv X a σ (aP g f (cA f (i8 [] ks b G) n)) { t with heap:=h',toks:=t.toks+(fO X.prog X.w).draws ks }:=I2.write (x:=f) (e:=f) (t':=t.toks+(fO X.prog X.w).draws ks) (by rw [M];exact Ux) (.inl rfl) (fun c ob hc z=>(B.2 c hc).trans z) (let⟨o2,_,_,hq,_⟩:=r;⟨o2,hq⟩) u
 show JY _ _ (forIn [] PUnit.unit _) _ _ _
 rw [List.forIn_nil];exact Qb ⟨.ref f,_,I4,rfl,W j g f b G n ep J (E1.trans E2) m R2⟩
theorem D4{i:Nat}{x:Str}{I t:Pos}(hN:X.N.Nodup)(hu:X.A.units+65<Za)(hk:DE X k gk)(hv:DE X v gv)(hi:X.N[i]?=some x:=by rfl)(hx:Loc X.env.scope x:=by first | exact ZG rfl | exact Zr rfl)
  (hs:ZE (.Dict [some k] [v] t) (some (.Name x I)) pos.line X.env=pure false:=by rfl) (hf:X.fn x=true ∨ X.env.scope.names.lookup x=some .local:=by first | exact .inl rfl | exact .inr rfl | assumption):
  DS X (.Assign [.Name x I] (.Dict [some k] [v] t) pos) (Bn i gk gv):=ps_mono (pW hN hi hx (R6 hu hk hv) hs hf) fun W σ H zz=>by
 obtain⟨a2,B,F,ρ,o,E,S,q,kk⟩:=zz;obtain⟨kd,e1,q⟩:=aJ q;obtain⟨d,e3,q⟩:=aJ q;obtain⟨O,e2,q⟩:=aJ q;cases q
 refine⟨F,B,ρ,kd,O,d,S,e1,e2,e3,fun Y Z p b w G a0 hp E' hb R=>?_⟩
 have E0:aH F F H (aP H p (cA p [] a0)):=aH.fresh hp;have S':=(S.ext E0).ext E';have h0:B p=none:=E.same.free hp;have hH:Z p=some (cA p [] a0):=E'.same _ _ cQ
 have nf:¬ Y p:=fun f=>by
  rcases E'.new p f with f | ⟨f,_⟩
  ·exact S.fz p f hp
  ·rw [cQ]at f;cases f
 have T:bU X.K Y Y Z (aP Z p (cA p [(.inl O,b,w)] G)):=⟨fun _ h=>h,fun a xs h=>by
   rcases h with(h | ⟨o,h⟩) | h
   ·exact .inl (.inl (by rw [aU (by intro z;subst z;rw [hH]at h;cases h)];exact h))
   ·exact .inl (.inr ⟨o,by rw [aU (by intro z;subst z;rw [hH]at h;cases h)];exact h⟩)
   ·exact .inr h,fun a xs f h=>by
   have na:a≠p:=fun z=>nf (by rw [<- z];exact f);rcases h with h | ⟨o,h⟩
   ·exact .inl (by rw [aU na];exact h)
   ·exact .inr ⟨o,by rw [aU na];exact h⟩,fun a φ f h=>by rw [aU (fun z=>nf (by rw [<- z];exact f))];exact h⟩
 have old:∀(j:Nat) (s:Sl),ρ[j]?=some s->∃ o,σ[j]?=some o/\qF X.K Y (aP Z p (cA p [(.inl O,b,w)] G)) B o s:=fun j s h=>by
  obtain⟨o,q,z⟩:=S.sl j s h
  have ne:∀(a:JW) (u:HO),H a=some u->a≠p:=fun a u g e=>by rw [e,hp]at g;cases g
  have up:∀(a:JW) (u:HO),H a=some u->aP Z p (cA p [(.inl O,b,w)] G) a=some u:=fun a u g=>by rw [aU (ne a u g)];exact E'.same _ _ (E0.same _ _ g)
  have M:∀(a:JW) (u:HO),H a=some u->¬ F a->¬ Y a:=fun a u g nf f=>by
   rcases E'.new a f with f | ⟨f,_⟩
   ·exact nf f
   ·rw [E0.same _ _ g]at f;cases f
  have T2:bU X.K F Y H (aP Z p (cA p [(.inl O,b,w)] G)):=(E0.trans E').stay.trans T
  refine⟨o,q,?_⟩
  cases s with
  | no=>trivial
  | dat d=>obtain⟨v,J,r⟩:=z;exact⟨v,J,r.stay T2⟩
  | own ds=>obtain⟨a,vs,J,g,y,U,r⟩:=z;exact⟨a,vs,J,up a _ g,M a _ g y,U,r.stay T2⟩
  | ownD a1=>obtain⟨a,es,G,J,g,y,U,n,l,r⟩:=z;exact⟨a,es,G,J,up a _ g,M a _ g y,U,n,l,r.stay T2⟩
  | ownM a1=>obtain⟨a,es,G,J,m⟩:=z;exact⟨a,es,G,J,m.to T2 fun c φ hc y=>⟨up c _ hc,M c _ hc y⟩⟩
  | val R=>obtain⟨v,h1,h2⟩:=z;exact⟨v,h1,fun F2 H2 T3=>h2 F2 H2 (T2.trans T3)⟩
 refine kk Y _ _ ((E.trans (E0.trans E')).turn h0) ((E0.trans E').stay.trans T) ⟨by simp [S.len],fun j s h=>?_,S.sepNew hp,fun a f=>?_⟩
 ·by_cases Q:i=j
  ·subst Q
   have hl:i<ρ.length:=by simpa using(Qe.mp h).1
   rw [QC hl]at h;cases h
   exact⟨some (.ref p),by rw [QC (by rw [S.len];exact hl)],p,[(.inl O,b,w)],G,rfl,cQ,nf,h0,by simp,by simp,.cons (k:=.inl O) (T.tp _ _ hb) (R.stay T) .nil⟩
  ·rw [Qz Q]at h;obtain⟨o,q,z⟩:=old j s h
   exact⟨o,by rw [Qz Q];exact q,z⟩
 ·by_cases g:a=p
  ·subst g;rw [cQ];simp
  ·rw [aU g];exact S'.fz a f
end
end DC
namespace LM
open PySem.Spec L2 DL DC ST SL TB
section
variable {P:JZ}{w:J1}{κ:Type}[DecidableEq κ]{knd:HeapKind P w κ}{A:Around}{E:YP->JV->Prop}{s:JV}{d b:JW}{k:κ}{xs:List (κ × JW × YP)}
end
section
variable {X:Cx}{o e k d v:Expr}{es:List Expr}{ga gk gd gv ge:aA->Option D}{p pos:Pos}
def LQ(r:V->List V->Hp->VK->Prop)(to:TE)(t:TA):TE:=fun b H Q=>to b H fun x c=>(∃ a es ep,x=.ref a/\c a=some (cA a es ep))/\t b c fun d e=>r x d e Q
theorem RW{to:TE}{t:TA}{name:Str}{m c:Pos}{id:String}{r:V->List V->Hp->VK->Prop}(u:Slot "dict" name id)(ty:typeOf (.builtin id)=pure (.type "method_descriptor"))(N:xF X id r)(M:PE X o to)(U:PA X (e::es) t)
  (T:UC o name X.env (Zk o X.env)=Zk o X.env)
  (S:((Zi c (JX (e::es) X.env)).all (fun x => !x.1) && (backToKw c (UW [] X.env)).all (fun x=>x.1.isSome) && decide ((e::es).length+([]:List UA).length+(if([]:List UA).isEmpty then 0 else 1)<30))=true)
  (O:(m.endLine == c.line)=true) (hs:JX (e::es) X.env=(false,Zk e X.env)::JX es X.env) (K:(Zi c (JX es X.env)).any (·.1)=false):PE X (.Call (.Attribute o name m) (e::es) [] c) (LQ r to t):=fun b s d H Q I h=>by
 refine wpAny_Call_method_late T S O rfl (bA (M b s d H _ I h) fun v g ⟨x,n,I1,B,⟨a,f,Y,W,J⟩,G⟩=>?_);subst W;cases B;obtain⟨⟨lo,i,z,l,k,g3,g4⟩,_⟩:=(show gF X.prog X.w n g.heap a (cA a f Y)from I1.hok a _ J)
 refine⟨"dict",id,PySem.F.plainAttrs_dict,u,ty,⟨i,l,k.1⟩,fun a' Z=>by cases Z;exact⟨i,l,k.2.1⟩,?_⟩
 have j:=U c b g d n _ I1 G;rw [hs]at j ⊢;exact Calls.callWith_builtin (by show(false || (Zi c (JX es X.env)).any (·.1))=false;rw [K];rfl) (JI (bA j fun q y ⟨p,H2,I2,A,E⟩=>N b y d H2 (.ref a) p (.ref a) q Q I2 rfl A E))
def Ka:Sl->Bool
 | .ownM _=>true
 | _=>false
def mX(ρ:aA):Bool:=ρ.all fun s => !Ka s
theorem AH{ρ:aA}(h:mX ρ=true)(j:Nat)(k2:List (List Int × List D)):ρ[j]?≠some (.ownM k2):=fun z=>by
 have:=QM.mp h _ (QP z)
 cases this
end
end LM
namespace LM
open HT
section
open PySem.SeqAt
open PySem.AutoSeq1 (wpAny_loadPart')
open PySem.MeetsSeq PySem.MeetsSeq2 PySem.MeetsSeq3
end
section
variable {prog:JZ}{w:J1}{A:Around}{E:YP->JV->Prop}{s:JV}
end
end LM
namespace LM
open PySem.Spec PySem.SeqAt L2 DL SD MN DC
section
variable {prog:JZ}{w:J1}{A:Around}{E:YP->JV->Prop}{s:JV}
end
section
variable {X:Cx}
end
end LM
namespace DC
open PySem.Spec L2 DL ST SL EL TB TX
section
variable {X:Cx}{e:Expr}{ga:aA->Option D}{p pos:Pos}
def BK(tb:List (Str × D)):It:=⟨fun i _=>i<tb.length,fun i H x a=>a=H/\∃ k d,tb[i]?=some (k,d)/\x=.str k,fun i _=>tb.length<=i⟩
theorem HM{K:PySem.W.Frag}{w:J1}{tb:List (Str × D)}{es:List ZF}(T:hU K w tb es):tb.length=es.length:=by
 induction T with
 | nil=>rfl
 | cons _ _ _ _ a=>simp [a]
theorem Tj{K:PySem.W.Frag}{w:J1}{tb:List (Str × D)}{es:List ZF}(T:hU K w tb es):∀{i:Nat}{k:Str}{d:D},tb[i]?=some (k,d)->∃ e t,es[i]?=some e/\e.key=.str k t:=by
 induction T with
 | nil=>intro i k d h;simp at h
 | cons _ _ _ _ a=>
  intro i k d h
  cases i with
  | zero=>simp at h;obtain⟨rfl,rfl⟩:=h;exact⟨_,_,rfl,rfl⟩
  | succ i=>simpa using a (by simpa using h)
theorem By{pins:List (JW × Obj)}{b:L2.St}{H:Hp}{s:JV}{a:JW}{es:Array ZF}{ep:Nat}(I:Inv X pins b H s)(d:X.K.lookup a=some ⟨.type "dict",none,.dict es ep,#[]⟩)(c:(a == Zl)=false):mO s.heap a es ep:=⟨c,_,I.kIn a _ d,⟨rfl,rfl,rfl⟩,rfl⟩
theorem SF{P:JZ}{w:J1}{K:PySem.W.Frag}{Z:Expr}{a it:JW}{tb:List (Str × D)}{es:Array ZF}{Y:Nat}(N:K.lookup a=some ⟨.type "dict",none,.dict es Y,#[]⟩)(M:(a == Zl)=false)(T:hU K w tb es.toList):jP P w K Z (BK tb) [it] it (fun i h=>h.IsKeyIter it a i es.size Y) where
 mem:=by simp
 obj:=fun i h f b j=>by
  have e:b=it:=by simpa using j
  subst e;obtain⟨o,e,c,d⟩:=f
  exact⟨o,e,fun v z=>by rw [d]at z;cases z⟩
 keep:=fun i h n f k=>let⟨o,e,c⟩:=f;⟨o,k it (by simp) o e,c⟩
 item:=by
  intro X u p x S i g s J H E I m f q;subst u p x;have O:i<tb.length:=q
  have sz:tb.length=es.size:=by rw [HM T];simp
  have rd:=By I N M;obtain⟨G,F,f2,B,A,y⟩:=m it (by simp);refine Fk f rd (by lia) fun n l sb=>?_;have I1:Inv X g J H { s with heap:=n }:=I.turned (t':=s.toks) (fun b o j e=>(sb.2 b j).trans e) G F B A y;obtain⟨o,e,c,d⟩:=id l
  have Q:tb[i]?=some (tb[i].1,tb[i].2):=by simp [O]
  obtain⟨en,t,U,g2⟩:=Tj T Q
  have r:es[i]=en:=by
   have:es.toList[i]?=some es[i]:=by simp [show i<es.size by lia]
   rw [this]at U;exact QJ U
  refine⟨_,rfl,rX (s:={ s with heap:=n }) e c d (by decide) ⟨.str tb[i].1,H,I1,?_,⟨rfl,_,_,Q,rfl⟩,l,fun b j=>(m b j).1⟩⟩
  rw [r,g2]
  exact⟨t,rfl⟩
 done:=by
  intro X u p x S i g s J H E I m f q;subst u p x;have O:tb.length<=i:=q
  have sz:tb.length=es.size:=by rw [HM T];simp
  have rd:=By I N M;obtain⟨G,F,f2,B,A,y⟩:=m it (by simp);exact Ec (I.ok.hd S) f rd (by lia) fun n eb=>⟨rfl,I.turned (t':=s.toks) (fun b o j e=>eb b o j e) G F B A y⟩
 self:=fun _ _ _ _ _ f h=>wpAny_pyIter_keyiter f h
def Cz(tb:List (Str × D)):aA->Option (List D):=fun _=>some (tb.map fun e=>.str e.1)
theorem OU{K:PySem.W.Frag}{F:JW->Prop}{H:Hp}{tb:List (Str × D)}:lC K F H (tb.map fun e=>.str e.1) (BK tb):=fun g l T z i=>by
 refine⟨fun d hd=>?_,fun f=>show tb.length<=i by simpa using f⟩
 rw [QS]at hd
 cases e:tb[i]? with
 | none=>rw [e]at hd;cases hd
 | some h=>
  rw [e]at hd;cases hd
  refine⟨(Qe.mp e).1,fun x j y=>?_⟩
  obtain⟨c,k,d,a,b⟩:=y;subst c b;rw [e]at a;cases a
  exact⟨g,aH.refl _ _,.str _⟩
theorem M7{n:Expr}{x:Str}{a:JW}{tb:List (Str × D)}(u:Gl X x)(t:X.mg x=some (.ref a))(T:n9 X.K X.w a tb)(g:(a == Zl)=false)(hd:(x == ("__debug__":Str))=false:=by decide):DI X n (.Name x p) (Cz tb):=by
 intro c s l H R I h;obtain⟨F,j,B,J,S,q,k⟩:=h;cases q;obtain⟨E,G,i,T⟩:=T;refine bA (Ho (v:=.ref a) u t rfl hd c s l H (fun x d=>x=.ref a/\d=H) I ⟨rfl,rfl⟩) fun v f m=>?_;obtain⟨x,d,I1,r,z,A⟩:=m;subst z A;cases r;have rd:=By I1 i g;refine Fw rd ⟨f.heap.objs.size,[f.heap.objs.size],_,_,d,rfl,I1.kept (t':=f.toks) fun b o e=>Qc _ e,SF i g T,⟨_,Qt _ rfl,rfl,rfl⟩,fun b y=>?_,k F d _ (aH.refl F d) OU⟩
 have e:b=f.heap.objs.size:=by simpa using y
 subst e;exact I1.fpOk (Qk _) (I1.hok.fresh (Qk _))
end
end DC
namespace EX
open PySem.Spec L2 DL
def g8(P:JZ)(w:J1):iQ:=fun c H s E e d=>∃(a:JW) (C:JW) (tr:Option JW) (H':Hp),e=.ref a/\d.os=s.os/\Uz d.gens/\Un (dN c) [] H H' s.heap d.heap/\cY P w H' d.heap/\mJ d.heap a (.ref C) tr /\
 (∀ b,(b=a ∨ some b=tr)->s.heap.get? b=none/\H' b=none)/\E (.ref C) none H'
section
variable {X:Cx}{pins:List (JW × Obj)}{σ:L2.St}{H H':Hp}{s s':JV}
theorem AC(I:Inv X pins σ H s){b:JW}(c:s.heap.get? b=none):
  X.s₀.heap.get? b=none ∨ b∈X.ex:=by
 by_cases a:b∈X.ex
 ·exact .inr a
 ·cases q:X.s₀.heap.get? b with
  | none=>exact .inl rfl
  | some o=>obtain⟨d,e⟩:=I.base.there b o q a;rw [c]at e;cases e
theorem AE(I:Inv X pins σ H s){b:JW}(c:s.heap.get? b=none):b≠X.env.locals:=fun e=>by
 obtain⟨m,⟨o,_,_,a,_⟩,_⟩:=I.loc;rw [<- e,c]at a;cases a
theorem AD(I:Inv X pins σ H s){b:JW}(d:s.heap.get? b=none):∀ x c,X.env.cells.lookup x=some c->c≠b:=fun x c e z=>by
 obtain⟨v,o,a,_⟩:=I.cell x c e;rw [z,d]at a;cases a
theorem AF(I:Inv X pins σ H s){b:JW}(c:s.heap.get? b=none):∀ p∈X.pn++pins,p.1≠b:=fun p a z=>by
 have:=(I.pin p a).1
 rw [z,c]at this;cases this
theorem Fe(I:Inv X pins σ H s){b:JW}(i:s.heap.get? b=none):H b=none:=by
 cases q:H b with
 | none=>rfl
 | some u=>
  have:∃ o,s.heap.get? b=some o:=by
   have x:=I.hok b u q;have lt:=x.lt
   cases u with
   | lst c=>obtain⟨_,_,_,_,e⟩:=x;exact⟨_,e⟩
   | tup c=>obtain⟨_,_,_,o,e,_⟩:=x;exact⟨_,e⟩
   | dK a=>obtain⟨_,_,_,_,o,_,_,e,_⟩:=x;exact⟨_,e⟩
   | dT a=>obtain⟨_,_,_,_,o,_,_,e,_⟩:=x;exact⟨_,e⟩
   | set S n=>obtain⟨o,_,_,_,e,_⟩:=x;exact⟨_,e⟩
   | ins C m fs=>obtain⟨_,_,_,e,_⟩:=x;exact⟨_,e⟩
   | own y=>obtain⟨_,e⟩:=x;exact⟨_,e⟩
   | xd fs=>obtain⟨_,⟨_,_,_,e,_⟩,_⟩:=x;exact⟨_,e⟩
   | rng k l=>obtain⟨_,_,_,e⟩:=x;exact⟨_,e⟩
   | frz j u=>obtain⟨e,_⟩:=x;exact⟨_,e⟩
   | tbl h=>obtain⟨_,e,_⟩:=(show nW H s.heap b h from x);exact⟨_,e⟩
   | cod d=>obtain⟨_,_,_,_,e,g,_⟩:=(show s.heap.CodeRec (.ref b) d from x);cases e;exact⟨_,g⟩
   | met f y=>exact⟨_,(show s.heap.get? b=some _ from x)⟩
   | ext φ=>obtain⟨_,⟨_,e⟩,_⟩:=x;exact⟨_,e⟩
  obtain⟨o,e⟩:=this;rw [i]at e;cases e
theorem Sr{E:XK}{e:YP}(i:X.ex=[])(I:Inv X pins σ H s)(h:g8 X.prog X.w X.stack H s E e s'):
  ∃ a C tr H',e=.ref a/\Inv X pins σ H' s'/\ThrownC X pins H' s' a (.ref C) tr/\E (.ref C) none H':=by
 obtain⟨a,C,tr,H',rfl,k,c,un,g,j,f,q⟩:=h
 refine⟨a,C,tr,H',rfl,I.call' k un g c (fun b z=>absurd z (by simp)),⟨j,fun b m=>?_⟩,q⟩
 obtain⟨d,l⟩:=f b m
 refine⟨?_,l,AE I d,AD I d,AF I d⟩
 rcases AC I d with z | z
 ·exact z
 ·rw [i]at z;cases z
end
theorem Ow{P:JZ}{w:J1}{K:PySem.W.Frag}{mg:Str->Option YP}{base:Heap}{N:List Str}{d:Str}{scope:Zz}{f:JW}{i:YP}{A:Around}{outer:List Env}{s:JV}{H:Hp}{E:XK}
  {pins:List (JW × Obj)}{y:L2.St}{H':Hp}{s':JV}{a C:JW}{t:Option JW} (I:Inv (hX (g8 P w) P w K mg base N d scope f i A outer s H E) pins y H' s')
  (T:ThrownC (hX (g8 P w) P w K mg base N d scope f i A outer s H E) pins H' s' a (.ref C) t) (h:E (.ref C) none H'):(hX (g8 P w) P w K mg base N d scope f i A outer s H E).xe (.ref a) s':=by
 have J:(A.deeper (envOfC d scope s.heap.objs.size f i)).frames=some (envOfC d scope s.heap.objs.size f i::outer):=I.ok.frames;have F:s'.heap.FunFrames base (envOfC d scope s.heap.objs.size f i::outer):=I.stack;refine Ox (env:=envOfC d scope s.heap.objs.size f i) (outer:=outer) J F rfl T.fly fun G M l O K'=>?_
 have p:∀ b,b∈dN (envOfC d scope s.heap.objs.size f i::outer)->b=s.heap.objs.size ∨ b∈dN outer:=fun b g=>by
  unfold dN at g;rw [Jb]at g;exact Qi.mp g
 have old:∀ b o,s.heap.get? b=some o->¬ (b=a ∨ some b=t)/\b≠s.heap.objs.size:=fun b o e=>by
  refine⟨fun z=>?_,Qw (Qo e)⟩
  have n:s.heap.get? b=none:=(T.new b z).1;rw [n]at e;cases e
 have B:Un (dN outer) [] H H' s.heap s'.heap:=I.base
 have x:∀ b u,H' b=some u->∀ o,s'.heap.get? b=some o->G.get? b=some o:=fun b u e o q=>K'.keep b o (fun z=>by
  have n:=(T.new b z).2.1
  rw [n]at e;cases e) (fun z=>by
  have n:=I.stkFree b z
  rw [n]at e;cases e) q
 refine⟨a,C,some M,H',rfl,I.os,I.bare,⟨fun b o e n g k=>?_,fun b o e n g k=>?_,B.free,fun b o e k=>?_,B.tups,B.frzs,B.tbls⟩,fun b u e=>?_,O,fun b g=>?_,h⟩
 ·exact K'.keep b o (old b o e).1 (fun z=>(p b z).elim (old b o e).2 g) (B.keep b o e n g k)
 ·obtain⟨Q,q⟩:=B.slot b o e n g k;obtain⟨j,m⟩:=K'.slot b _ (old b o e).1 q
  exact⟨j,m⟩
 ·obtain⟨S,q⟩:=B.there b o e k;obtain⟨j,m⟩:=K'.slot b _ (old b o e).1 q
  exact⟨_,m⟩
 ·refine(I.hok b u e).stay (fun c v r q=>?_) (fun _ q=>q) fun _ _ q=>q
  rcases r with rfl | r
  ·exact x c u e v q
  ·exact x c _ r v q
 ·rcases g with rfl | g
  ·exact⟨(T.new b (.inl rfl)).1,(T.new b (.inl rfl)).2.1⟩
  ·cases g
   exact⟨UF (Qv I.sz l),I.hok.fresh l⟩
abbrev R:=Sum D Str
def lL(m:Nat)(g:aA->Option aK):List D->Option R:=fun a=>match g (dQ m a)with
 | some (.rt d)=>some (.inl d)
 | some (.nx _)=>some (.inl .none)
 | some (.ex x _)=>some (.inr x)
 | _=>none
def qW(G:List D->Option R):List D->Option D:=fun a=>match G a with
 | some (.inl d)=>some d
 | _=>none
def lW(K:PySem.W.Frag)(n:Nat)(G:List D->Option R):Sp:=fun b H Q E=>∃(F:JW->Prop) (ds:List D) (o:R),ds.length=n/\(∀ a,F a->H a≠none)/\Reps K F H ds b/\G ds=some o/\match o with
 | .inl d=>∀ F' H' v,aH F F' H H'->aR K F' H' d v->Q v H'
 | .inr x=>∀ F' H' C,aH F F' H H'->PySem.W.nsIn K J2 x=some (some (.ref C))->E (.ref C) none H'
theorem Ct{P:JZ}{w:J1}{K:PySem.W.Frag}{mg:Str->Option YP}{base:Heap}{x b:Str}{c:Zj}{f:JW}{M:Zg}{N u:List Str}{k n m:Nat}{g:aA->Option aK}{G:List D->Option R}(hG:G=lL m g)(Z:u.length=n)(hm:N.length=m)
  (F:kF K x b c f M) (S:cB N u (aW c))
  (hb:∀(cdv:YP) (A:Around) (outer:List Env) (s:JV) (H:Hp) (E:XK),cT k (A.deeper (envOfC b (aW c) s.heap.objs.size f cdv))->
   fT (hX (g8 P w) P w K mg base N b (aW c) f cdv A outer s H E) (eY c) g):aN P w K mg base (g8 P w) (k+1) f M u (lW K n G):=by
 subst Z hm hG;obtain⟨oc,od,kV,a0,pm,an,cdv,ct,U,rfl,X,B⟩:=F.ex;refine u5 X B S (fun T H Q E h=>?_) fun A outer s H T Q E Y h=>?_
 ·obtain⟨F,ds,d,J,_,r,_⟩:=h;rw [<- r.length,J]
 ·obtain⟨F,ds,o,J,z,r,q,y⟩:=h
  refine⟨_,hb cdv A outer s H E Y,?_⟩
  unfold lL at q
  split at q
  ·rename_i d' e;cases q
   exact⟨F,H,F,_,_,aH.refl F H,nO z r,e,fun j i v l R'=>y j i v l R'⟩
  ·rename_i t e;cases q
   exact⟨F,H,F,_,_,aH.refl F H,nO z r,e,fun j i p l O S'=>y j i .non l .non⟩
  ·rename_i x' t e;cases q
   exact⟨F,H,F,_,_,aH.refl F H,nO z r,e,fun j i p I s' a C tr l S' I' hC O=>Ow I' O (y j i C l hC)⟩
  ·cases q
theorem Es{P:JZ}{w:J1}{K:PySem.W.Frag}{mg:Str->Option YP}{base:Heap}{f:JW}{i:Zg}{h:List Str}{k n:Nat}{G:List D->Option R}{G':List D->Option D}(B:G'=qW G)(F:aN P w K mg base (g8 P w) k f i h (lW K n G)):
  aN P w K mg base aQ k f i h (aY K n G'):=by
 subst B
 have conv:∀ a H Q E,aY K n (qW G) a H Q E->lW K n G a H Q E0:=fun a H Q E j=>by
  obtain⟨F,J,d,v,z,r,q,m⟩:=j;unfold qW at q
  split at q
  ·rename_i N e;cases q
   exact⟨F,J,.inl d,v,z,r,e,m⟩
  ·cases q
 refine⟨fun a H Q E q=>F.len a H Q E0 (conv a H Q E q),fun A b s H g l a Q E t x y o p=>?_⟩
 refine Jd (F.run A b s H g l a Q E0 t x y o (conv a H Q E p)) fun r M c=>?_
 cases r with
 | ok I=>
  cases I with
  | ret u=>exact c
  | next=>exact c
  | brk=>exact c
  | cont=>exact c
 | error e=>
  obtain⟨_,_,_,_,_,_,_,_,_,_,_,z⟩:=c;exact z
end EX
namespace EX
open PySem.Spec L2 DL
def s0(X:Cx)(d:L2.St):XK:=fun b _ c=>∀ pins s' a tr,Inv X pins d c s'->ThrownC X pins c s' a b tr->X.xe (.ref a) s'
section
variable {X:Cx}{k n:Nat}{f C:JW}{fd:Zg}{ps:List Str}{sp:Sp}{x:Str}{p pos pos' np cpos:Pos}{e:Expr}{es:List Expr}{t:TA}{G:List D->Option R}{gr:aA->Option (List D)}{ga:aA->Option D}
theorem Ty{pins:List (JW × Obj)}{d:L2.St}{H:Hp}{s:JV}{Q:VK}{us:List YP}{vs:List V}(F:aN X.prog X.w X.K X.mg X.base (g8 X.prog X.w) k f fd ps sp)(l:cT k X.A)(n:Binds X.K fd ps [])(g:X.ex=[])
  (I:Inv X pins d H s) (r:Vals vs us) (h:sp vs H Q (s0 X d)):JY (J0 X.prog X.w) X.A (call (.ref f) us) (EP X pins d Q) X.xe s:=by
 have m:(us++[]).length=ps.length:=by rw [QO,<- r.length];exact F.len _ _ _ _ h
 have c:=n s us I.kIn m;rw [QO]at c;refine UR (Jd (F.run X.A X.stack s H ⟨us,[]⟩ us vs Q (s0 X d) l I.env0 c r h) fun r j b=>?_)
 cases r with
 | error e=>
  obtain⟨a,C,i,v,rfl,t,p,q⟩:=Sr g I b;exact q pins j a i t p
 | ok o=>
  cases o with
  | ret u=>exact I.after b
  | next=>exact Zt b
  | brk=>exact Zt b
  | cont=>exact Zt b
theorem RX(F:aN X.prog X.w X.K X.mg X.base (g8 X.prog X.w) k f fd ps sp)(d:cT k X.A)(j:Gl X x)(g:X.mg x=some (.ref f))(i:PySem.W.keepIn X.K (.ref f)=true)(l:Binds X.K fd ps [])(b:X.ex=[])
  (m:PA X (e::es) t) (c:(x == ("__debug__":Str))=false:=by decide) (he:JX (e::es) X.env=(false,Zk e X.env)::JX es X.env:=by rfl) (hpl:(Zi pos (JX es X.env)).any (·.1)=false:=by rfl):
  PE X (.Call (.Name x p) (e::es) [] pos) (fun σ H Q=>t σ H fun vs H1=>sp vs H1 Q (s0 X σ)):=by
 intro a s σ H Q I h;refine YB (pO I j g ?_ c);refine PySem.W.callWith_K (h₀:=X.base) I.ok.mod.kin i (bA (m pos a s σ H _ I h) fun n o ⟨vs,H1,I1,r,q⟩=>⟨I1.kIn,?_⟩) he hpl;exact Ty F d l b I1 r q
def CO(K:PySem.W.Frag)(g:aA->Option Unit):TE:=fun a H Q=>∃(F:JW->Prop) (H₀:Hp) (ρ:aA),bE K F H H₀ a ρ/\g ρ=some ()/\∀ F' H' v,aH F F' H H'->Q v H'
def pX(x:Str)(g:aA->Option Unit):aA->Option aK:=fun a=>(g a).bind fun _=>some (.ex x a)
theorem Nr{K:PySem.W.Frag}{h:Heap}{C:JW}{b:List YP}{a:String}(c:K.In h)(q:PySem.W.excIn K C b a=true):
  ∃ bm N nm qn bs hdct sn sub ab col dd k0 k1 k2 k3 k5 mN,h.get? C=some (excClassObj nm qn C N bs bm hdct sn sub ab col dd k0 k1 k2 k3 k5 a)/\h.Ns N mN/\mN "__init__"=none/\OwnTail h b bm:=by
 unfold PySem.W.excIn at q
 split at q
 next dd cd sl lk=>
  split at q
  next C' bm k0 k1 k2 k3 n k5 hm hs=>
   simp only [Qy,beq_iff_eq,Q8]at q;obtain⟨⟨⟨⟨⟨r,p⟩,o⟩,m⟩,e⟩,k⟩:=q;subst r;subst p
   cases cd with
   | mk nm bs d f qn hd sn sub ab col dR=>
    have j:d=_:=hm;have i:dR=false:=o;subst j;subst i
    have g:sl=#[k0,k1,k2,k3,some (.builtin n),k5]:=by
     cases sl with
     | mk l=>exact congrArg Array.mk hs
    subst g
    exact⟨bm,f,nm,qn,bs,hd,sn,sub,ab,col,dd,k0,k1,k2,k3,k5,_,c _ _ lk,.of_isNs (PySem.W.isNs_of_in c e),PySem.W.nsMap_none_of_in c e k,PySem.W.tail_of_in c m⟩
  next=>cases q
 next=>cases q
theorem Ag{B h i:String}{l:List YP}{g:aA->Option Unit}(FB:ExcBaseFacts B h i l)(hh:X.A.handled=none)(u:X.ex=[])(p:PySem.W.nsIn X.K J2 x=some (some (.ref C)))(j:PySem.W.excIn X.K C l h=true)
  (hg:Gl X x) (hm:X.mg x=some (.ref C)) (ha:PE X e (CO X.K g)) (w:(x == ("__debug__":Str))=false:=by decide)
  (he:JX [e] X.env=(false,Zk e X.env)::JX [] X.env:=by rfl) (hpl:(Zi cpos (JX [e] X.env)).any (·.1)=false:=by rfl):DS X (.Raise (some (.Call (.Name x np) [e] [] cpos)) none pos) (pX x g):=by
 intro f s n H W I ⟨U,m,F,Z,o,E,S,q,k⟩;obtain⟨_,e1,q⟩:=aJ q;cases q;obtain⟨bm,N,nm,qn,bs,hdct,sn,sub,ab,col,dd,k0,k1,k2,k3,k5,mN,hC,hN,t,T⟩:=Nr I.ok.mod.kin j
 refine wpAny_Raise_call_subT (C:=C) (nm:=nm) (q:=qn) (N:=N) (bs:=bs) (bm:=bm) (hdct:=hdct) (sn:=sn) (sub:=sub) (ab:=ab) (col:=col) (dd:=dd) (k0:=k0) (k1:=k1) (k2:=k2) (k3:=k3) (k5:=k5)
  FB (mN:=mN) (T.hasType FB.hasBase) hh hpl t (pO I hg hm ⟨rfl,?_⟩ w)
 have M:=j9 ha mG he cpos f s n H (fun J H1=>J.length=1/\∃ G,aH F G H H1) I ⟨F,m,Z,S,e1,fun G H' v E'=>⟨rfl,G,E'⟩⟩;rw [he]at M ⊢;refine JI (bA M fun us d zz=>?_);obtain⟨J,Q,I2,r,hl,F2,Y⟩:=zz
 refine⟨rfl,by rw [<- r.length,hl];decide,I2.bk _ _ hC,hN.keeps I2.bk,T.keeps I2.bk,fun O a c=>?_⟩
 obtain⟨t0,h1,h2,h3⟩:=c.there;have I3:Inv X f n Q { d with heap:=O }:=I2.kept (t':=d.toks) c.keeps;refine k F2 Q n f { d with heap:=O } a C none (E.trans Y) (S.ext Y) I3 p ⟨⟨_,_,h1,rfl,rfl,rfl⟩,fun b hb=>?_⟩
 have y:b=a:=by
  rcases hb with z | z
  ·exact z
  ·cases z
 subst y
 refine⟨?_,Fe I2 c.new,AE I2 c.new,AD I2 c.new,AF I2 c.new⟩
 rcases AC I2 c.new with z | z
 ·exact z
 ·rw [u]at z;cases z
end
end EX
namespace EX
open PySem.Spec L2 DL
def kU:D->Bool
 | .tuple a=>J8 a && PyData.showableAll a && decide (J9 a<=60) && decide ((tupleText (UO a)).length<=1000000)
 | _=>false
def mZ(b:aA->Option D):aA->Option Unit:=fun a=>(b a).bind fun d=>if kU d=true then some ()else none
def mY:aA->Option Unit:=fun _=>some ()
def PJ(X:Cx)(e:Expr)(g:aA->Option Unit):Prop:=∀(pins:List (JW × Obj)) (s:JV) (σ:L2.St) (H:Hp) (Q:Hp->Prop),Inv X pins σ H s->
 (∃(F:JW->Prop) (H₀:Hp) (ρ:aA),bE X.K F H H₀ σ ρ/\g ρ=some ()/\∀ F' H',aH F F' H H'->Q H')->
 JY (J0 X.prog X.w) X.A (Zk e X.env) (fun u a=>∃ y t H',u=.str y t/\y.length<=1000000/\Inv X pins σ H' a/\Q H') X.xe s
section
variable {X:Cx}{e:Expr}{pos:Pos}{ga:aA->Option D}
theorem wF{x:Str}{j:Nat}(f:x.length<=1000000):PJ X (.Constant (.str x) j pos) mY:=fun a s d H Q I ⟨F,c,l,S,_,k⟩=>
 bA ((Hr:PE X (.Constant (.str x) j pos) (tC (.str x))) a s d H (fun v b=>v=.str x/\b=H) I ⟨rfl,rfl⟩) fun u m e=>by
  obtain⟨v,b,i,r,h,g⟩:=e;subst h g;obtain⟨t,rfl⟩:=r
  exact⟨x,t,b,rfl,f,i,k F b (aH.refl F b)⟩
theorem M0{pins:List (JW × Obj)}{b:L2.St}{H:Hp}{s:JV}{y:Str}{t:Tok}{Q:Hp->Prop}(I:Inv X pins b H s)(a:y.length<=1000000)(q:Q H):
  JY (J0 X.prog X.w) X.A (formatField (.str y t) Str.empty) (fun u s'=>∃ y t H',u=.str y t/\y.length<=1000000/\Inv X pins b H' s'/\Q H') X.xe s:=
 wpAny_formatField_str ⟨y,t,H,rfl,a,I,q⟩ ⟨y,_,H,rfl,a,I.tok _,q⟩ (Qv a (by rw [Yf];lia))
theorem wE(hg:X.A.guards=some [])(hu:X.A.units+66<Za)(ha:DE X e ga):PJ X (.FormattedValue e 114 none pos) (mZ ga):=fun g s T H Q I p=>by
 obtain⟨F,j,U,S,q,k⟩:=p;obtain⟨d,e1,q⟩:=aJ q
 have m:kU d=true:=by
  by_cases c:kU d=true
  ·exact c
  ·rw [if_neg c]at q;cases q
 refine wpAny_FormattedValue_repr (bA (ha g s T H (fun v l=>∃ f,aH F f H l/\aR X.K f l d v) I ⟨F,j,U,d,S,e1,fun f l v B y=>⟨f,B,y⟩⟩) fun u E p=>?_);obtain⟨v,l,I1,r,f,B,y⟩:=p
 cases y with
 | @tup a vs ds h1 r1=>
  have i:(J8 ds && PyData.showableAll ds && decide (J9 ds<=60) && decide ((tupleText (UO ds)).length<=1000000))=true:=m;simp only [Qy,decide_eq_true_eq]at i;obtain⟨⟨⟨O,b2⟩,b3⟩,N⟩:=i;cases r;obtain⟨a0,Y,⟨o,J,M,n,hd⟩,_⟩:=I1.tuple h1;obtain⟨as,G⟩:=Reps.reads I1 r1 O Y;have h:(tupleText (UO ds)).length<=sizeLine:=Qv N (by rw [Yf];lia);have Z:PyData.hasDictAll ds=false:=PyData.hasDictAll_of_canLayAll ds O;obtain⟨bs,m,hk⟩:=ReprAllK.of_readsAll (prog:=X.prog) (w:=X.w) G b2 (fun z=>by rw [Z]at z;cases z) (fun t ht=>Qv (tupleText_mem_le ht) h);have rd:UJ E.heap (.ref a) (.tuple ds) as:=.tuple J M hd (by simpa using G);have x:a∉bs:=not_mem_of_deeper rd (by simp only [ZZ];lia) m;refine wpAny_pyReprObj_tupleK (h₀:=E.heap) (as:=bs) (d:=J9 ds) (ts:=UO ds) J M hd x (by simpa using hk) hg (fun b _=>Clear.nil b) (by lia) (fun _ _ z=>z) (fun h' t W keep=>?_) h;exact M0 (I1.kept (t':=W) keep) N (k f l B)
 | _=>cases m
def lO:List (aA->Option Unit)->aA->Option Unit
 | [],_=>some ()
 | g::gs,ρ=>(g ρ).bind fun _=>lO gs ρ
inductive qC(X:Cx):List Expr->List (aA->Option Unit)->Prop
 | nil:qC X [] []
 | cons {e:Expr}{g:aA->Option Unit}{es:List Expr}{gs:List (aA->Option Unit)}:PJ X e g->qC X es gs->qC X (e::es) (g::gs)
theorem Od{es:List Expr}{f:List (aA->Option Unit)}(P:qC X es f):∀(acc:Str) (pins:List (JW × Obj)) (s:JV) (σ:L2.St) (H:Hp) (Q:VK),Inv X pins σ H s->acc.length+es.length * 1000000<=10000000->
  (∃(F:JW->Prop) (H₀:Hp) (ρ:aA),bE X.K F H H₀ σ ρ/\lO f ρ=some ()/\∀ F' H' v,aH F F' H H'->Q v H')->
  Joins (J0 X.prog X.w) X.A X.xe (es.map fun e=>Zk e X.env) acc (fun out s₁=>out.length<=sizeLine/\EP X pins σ Q (.str out s₁.toks) { s₁ with toks:=s₁.toks+1 }) s:=by
 induction P with
 | nil=>
  intro acc pins s σ H Q I d h;obtain⟨F,H₀,ρ,S,q,k⟩:=h
  exact⟨by rw [Yf];simp at d;lia,.str acc,H,I.tok _,⟨_,rfl⟩,k F H _ (aH.refl F H)⟩
 | @cons e g es f h t ih=>
  intro acc pins s σ H Q I d m;obtain⟨F,H₀,ρ,S,q,k⟩:=m;obtain⟨_,o,q⟩:=aJ q;refine bA (h pins s σ H (fun b=>∃ a,aH F a H b) I ⟨F,H₀,ρ,S,o,fun a b E1=>⟨a,E1⟩⟩) fun u l i=>?_;obtain⟨y,j,b,n,B,p,a,E1⟩:=i
  have c:(acc++y).length+es.length * 1000000<=10000000:=by
   rw [strLen_append];rw [QE]at d;lia
  exact⟨y,j,n,by rw [Yf];lia,ih (acc++y) pins l σ b Q p c ⟨a,H₀,ρ,S.ext E1,q,fun x r v z=>k x r v (E1.trans z)⟩⟩
theorem AR{c b:Expr}{a:List Expr}{f:List (aA->Option Unit)}(h:qC X (c::b::a) f)(i:a.length<=5)(he:evalEach (c::b::a) X.env=(c::b::a).map fun e=>Zk e X.env:=by rfl):PE X (.JoinedStr (c::b::a) pos) (CO X.K (lO f)):=fun d s g H Q I q=>by
 refine wpAny_JoinedStr ?_;rw [he];exact Od h Str.empty d s g H Q I (by simp only [QE];show 0+_<=_;lia) q
end
end EX
namespace EX
open PySem.Spec L2 DL
section
variable {M:Model}{A:Around}{E:YP->JV->Prop}{s:JV}
theorem Pp{base:Heap}{env:Env}{outer:List Env}{L e:JW}{cls:YP}{r:Option JW}{Q:Unit->JV->Prop}
  (k:A.frames=some (env::outer)) (x:s.heap.FunFrames base (env::outer)) (t:env.frame=some L) (F:mJ s.heap e cls r)
  (h:∀ h' T,s.heap.objs.size<=T->mJ h' e cls (some T)->p9 (dN (env::outer)) (fun b=>b=e ∨ some b=r) s.heap h'->Q () { s with heap:=h' }):
  JY M A (noteFrame (.ref e) env) (fun _ s'=>JY M A (setFlight (.ref e) none) Q E s') E s:=by
 obtain⟨I,p,n,G,hd,f⟩:=F;subst G;unfold noteFrame;simp only [t]
 cases r with
 | none=>
  have m:p[1]?=some .none:=f;refine Qa (YQ n hd m ?_);rw [if_neg (by decide)];refine uV k x t n hd (Yi.mp m).1 fun h' T f w K'=>h h' T f w ⟨fun b o c=>K'.keep b o fun z=>c (.inl z),fun b o c=>K'.slot b o fun z=>c (.inl z)⟩
 | some T=>
  obtain⟨m,v,J,B,f,i,y⟩:=f;refine Qa (YQ n hd m ?_);rw [if_pos (show(J5 T != J6)=true from by simp)];refine Qa (YQ f i y ?_);rw [if_neg (show ¬ ((J6 == Zy L)=true)from by simp [Zy])];refine Qa (YK f i (Yi.mp y).1 ?_);have a:∀ b,b≠T->(s.heap.update T (Zn (·.setIfInBounds 3 J6))).get? b=s.heap.get? b:=fun b c=>Ya _ _ (Zx c)
  have d:∀ b o,s.heap.get? b=some o->(∀ p,o.data≠.fields p)->b≠T:=fun b o c g q=>by
   rw [q,f]at c;injection c with c;subst c;exact g B i
  refine uV (s:={ s with heap:=s.heap.update T (Zn (·.setIfInBounds 3 J6)) }) k (x.of_keeps fun b o c g=>⟨o,(a b (d b o c g)).trans c,rfl⟩) t ((a e (Zx v)).trans n) hd (Yi.mp m).1 fun h' H l w K'=>h h' H (by rw [Heap.size_update]at l;exact l) w ?_
  exact⟨fun b o c u j=>K'.keep b o (fun z=>c (.inl z)) u ((a b fun z=>c (.inr (by rw [z]))).trans j),fun b o c j=>K'.slot b o (fun z=>c (.inl z)) ((a b fun z=>c (.inr (by rw [z]))).trans j)⟩
end
def vO(X:Cx)(pins:List (JW × Obj))(H:Hp)(b:JW):Prop:=X.s₀.heap.get? b=none/\H b=none/\b≠X.env.locals/\(∀ x c,X.env.cells.lookup x=some c->c≠b)/\∀ p∈X.pn++pins,p.1≠b
section
variable {X:Cx}{pins:List (JW × Obj)}{σ:L2.St}{H:Hp}{s:JV}{h':Heap}{a C:JW}{no:JW->Prop}
theorem MD(I:Inv X pins σ H s)(c:X.ex=[]){b:JW}(d:s.heap.objs.size<=b):vO X pins H b:=by
 have a:=UF d
 refine⟨?_,Fe I a,AE I a,AD I a,AF I a⟩
 rcases AC I a with z | z
 ·exact z
 ·rw [c]at z;cases z
theorem Fu(I:Inv X pins σ H s)(T:∀ b,no b->vO X pins H b)(K:p9 (dN X.stack) no s.heap h'):Inv X pins σ H { s with heap:=h' }:=by
 have N:∀ b,b∈dN X.stack->b=X.env.locals ∨ b∈X.fs:=fun b d=>Qi.mp (I.stkSub b d)
 have old:∀ b o,X.s₀.heap.get? b=some o->¬ no b:=fun b o e z=>by
  have n:=(T b z).1;rw [n]at e;cases e
 have Y:¬ no X.env.locals:=fun z=>(T _ z).2.2.1 rfl;have ce:∀ x c,X.env.cells.lookup x=some c->¬ no c:=fun x c e z=>(T _ z).2.2.2.1 x c e rfl
 have A:∀ b u,H b=some u->∀ o,s.heap.get? b=some o->h'.get? b=some o:=fun b u e o q=>K.keep b o (fun z=>by
  have n:=(T b z).2.1
  rw [n]at e;cases e) (fun z=>by
  have n:=I.stkFree b z
  rw [n]at e;cases e) q
 have a:∀ x c v,X.env.cells.lookup x=some c->s.heap.IsCell c v->h'.IsCell c v:=fun x c v e O=>by
  obtain⟨o,t,hd⟩:=O;obtain⟨E,q⟩:=K.slot c o (ce x c e) t
  exact⟨_,q,hd⟩
 have B:=I.base
 refine⟨I.ok,I.os,I.bare,⟨fun b o e n d h=>?_,fun b o e n d h=>?_,B.free,fun b o e h=>?_,B.tups,B.frzs,B.tbls⟩,?_,fun x c e=>?_,I.free,I.freeC,fun p M=>?_,fun b u e=>?_,I.len⟩
 ·refine K.keep b o (old b o e) (fun z=>(N b z).elim (fun w=>?_) d) (B.keep b o e n d h)
  have:=QD (Qo e) I.ok.above
  rw [w]at this;exact absurd this (Y1 _)
 ·obtain⟨E,q⟩:=B.slot b o e n d h;obtain⟨f,j⟩:=K.slot b _ (old b o e) q
  exact⟨f,j⟩
 ·obtain⟨o',q⟩:=B.there b o e h;obtain⟨f,j⟩:=K.slot b _ (old b o e) q
  exact⟨_,j⟩
 ·obtain⟨m,⟨o,es,ep,t,hd,r⟩,l⟩:=I.loc;obtain⟨E,q⟩:=K.slot _ o Y t
  refine⟨m,⟨_,es,ep,q,hd,r⟩,fun i x v h1 h2 h3=>?_⟩
  obtain⟨u,Q,g⟩:=l i x v h1 h2 h3
  refine⟨u,Q,?_⟩
  rcases g with g | ⟨g,c,J,Z⟩
  ·exact .inl g
  ·exact .inr ⟨g,c,J,a x c _ J Z⟩
 ·obtain⟨v,k⟩:=I.cell x c e
  exact⟨v,a x c v e k⟩
 ·obtain⟨W,U,G,F,S⟩:=I.pin p M
  refine⟨K.keep _ _ (fun z=>(T _ z).2.2.2.2 p M rfl) (fun z=>(N _ z).elim G F) W,U,G,F,S⟩
 ·refine(I.hok b u e).stay (fun c v y q=>?_) (fun _ q=>q) fun _ _ q=>q
  rcases y with rfl | y
  ·exact A c u e v q
  ·exact A c _ y v q
end
end EX
namespace EX
open PySem.Spec L2 DL PySem.W
theorem Nq{K:PySem.W.Frag}{M:Model}{A:Around}{E:YP->JV->Prop}{s:JV}{a C L:JW}{j:Obj}{b:Bool}{Q:Bool->JV->Prop}(k:K.In s.heap)(he:s.heap.get? a=some j)(l:j.cls=.ref C)
  (o:kitCls K (.ref C) (.ref L)=some b) (n:subIn K (.ref L) (.type "BaseException")=some true) (q:Q b s):JY M A (excMatches (.ref a) (.ref L)) Q E s:=by
 obtain⟨h,g,d,t,p⟩:=s;obtain⟨e,i,c⟩:=kit_cls (M:=M) k o;have m:=looks_subIn (M:=M) k n;have f:=tc_notTuple;unfold excMatches;have LI:Looks M h (isInstance (.ref L) (.type "tuple")) false:=e.andThen (Looks.of_pure f);refine Qa (LI.at ?_);simp only [Qq,if_false];refine Qa (Qb ?_)
 have LE:Looks M h (isExcClass (.ref L)) true:=by
  unfold isExcClass;refine i.andThen ?_;exact m
 simp only [List.forIn_cons,List.forIn_nil];refine Qa (Qa (Qa (LE.at ?_)));simp only [Yw,Qq,if_false]
 repeat (any_goals (first | assumption | (with_reducible refine c.at ?_) | (with_reducible refine wpAny_loadPart_at he ?_;rw [l]) | wp_step))
 cases b <;> exact Qb (Qb (Qb q))
section
variable {prog:JZ}{w:J1}{A:Around}{E:YP->JV->Prop}{h:Heap}{g:Array UY}{d:Drawn}{t:Nat}{os:OsState}{a C:JW}{o:Obj}{K:PySem.W.Frag}
end
end EX
namespace EX
open PySem.Spec L2 DL PySem.W
theorem Ko{X:Cx}{A':Around}{c':Bool}{a:List (JW × Obj)}{d:YP->JV->Prop}(ok:X.Ok)(b:A'.frames=X.A.frames)(c:c'=true->A'.handled=none):Cx.Ok { X with A:=A',calm:=c',pn:=a,xe:=d }:=
 ⟨ok.mod,ok.kind,ok.glob,ok.blt,ok.above,ok.inj,ok.has,ok.cab,c,b.trans ok.frames,ok.stk,ok.exf,ok.bs,ok.bsz,ok.noex,ok.exfs,ok.funs,ok.frf⟩
theorem Bk{X:Cx}{pins a:List (JW × Obj)}{c:L2.St}{H:Hp}{s:JV}{A':Around}{c':Bool}{b:List (JW × Obj)}{g:YP->JV->Prop}(I:Inv X pins c H s)(e:A'.frames=X.A.frames)(f:c'=true->A'.handled=none)
  (d:∀ p∈b++a,p∈X.pn++pins):Inv { X with A:=A',calm:=c',pn:=b,xe:=g } a c H s:=
 ⟨Ko I.ok e f,I.os,I.bare,I.base,I.loc,I.cell,I.free,I.freeC,fun p h=>I.pin p (d p h),I.hok,I.len⟩
theorem vD{X:Cx}{pins a:List (JW × Obj)}{c:L2.St}{H:Hp}{s:JV}{A':Around}{c':Bool}{b:List (JW × Obj)}{e:YP->JV->Prop}(ok:X.Ok)(I:Inv { X with A:=A',calm:=c',pn:=b,xe:=e } a c H s)
  (d:∀ p∈X.pn++pins,p∈b++a):Inv X pins c H s:=
 ⟨ok,I.os,I.bare,I.base,I.loc,I.cell,I.free,I.freeC,fun p h=>I.pin p (d p h),I.hok,I.len⟩
section
variable {X:Cx}{pins:List (JW × Obj)}{σ:L2.St}{H:Hp}{s:JV}
end
def rL(K:PySem.W.Frag)(L:JW)(x:Str):Prop:=∃ C,nsIn K J2 x=some (some (.ref C))/\kitCls K (.ref C) (.ref L)=some true
section
variable {X:Cx}{body suite:List Zj}{b₀:Zj}{gb gh:aA->Option aK}{cs:List Str}{i:Nat}{n Ln:Str}{np hp pos:Pos}{L:JW}
end
end EX
namespace EX
open PySem.Spec L2 DL PySem.W
def tX(X:Cx)(g:aA->Option R):TE:=fun a H Q=>∃(F:JW->Prop) (H₀:Hp) (ρ:aA) (r:R),bE X.K F H H₀ a ρ/\g ρ=some r/\match r with
 | .inl d=>∀ F' H' v,aH F F' H H'->aR X.K F' H' d v->Q v H'
 | .inr x=>∀ F' H' C,aH F F' H H'->nsIn X.K J2 x=some (some (.ref C))->s0 X a (.ref C) none H'
def DX(X:Cx)(e:Expr)(g:aA->Option R):Prop:=PE X e (tX X g)
def sW(G:List D->Option R)(b:aA->Option (List D)):aA->Option R:=fun a=>(b a).bind G
def rD(g:aA->Option R):aA->Option aK:=fun a=>(g (a.map frz)).bind fun r=>match r with
 | .inl d=>some (.rt d)
 | .inr x=>some (.ex x (a.map frz))
section
variable {X:Cx}{k n:Nat}{f:JW}{fd:Zg}{ps:List Str}{x:Str}{p pos pos':Pos}{e e' c:Expr}{es:List Expr}{G:List D->Option R}{gr:aA->Option (List D)}{ga:aA->Option D}{gx gy:aA->Option R}
theorem D8(F:aN X.prog X.w X.K X.mg X.base (g8 X.prog X.w) k f fd ps (lW X.K n G))(s:cT k X.A)(z:Gl X x)(t:X.mg x=some (.ref f))(u:keepIn X.K (.ref f)=true)(B:Binds X.K fd ps [])(g:X.ex=[])
  (E:DA X (e::es) gr) (c:∀ ρ ds,gr ρ=some ds->ds.length=n) (h:(x == ("__debug__":Str))=false:=by decide) (he:JX (e::es) X.env=(false,Zk e X.env)::JX es X.env:=by rfl) (hpl:(Zi pos (JX es X.env)).any (·.1)=false:=by rfl):
  DX X (.Call (.Name x p) (e::es) [] pos) (sW G gr):=
 eM (RX F s z t u B g E h he hpl) fun N H Q o=>by
  obtain⟨F,a,ρ,r,S,q,k⟩:=o;obtain⟨b,m,q⟩:=aJ q
  refine⟨F,a,ρ,b,S,m,fun M T O E1 J=>⟨M,b,r,c ρ b m,(S.ext E1).fz,J,q,?_⟩⟩
  cases r with
  | inl d=>exact fun j i v l R2=>k j i v (E1.trans l) R2
  | inr y=>exact fun j i C l I=>k j i C (E1.trans l) I
theorem D5(h:DX X e gx):DS X (.Return (some e) pos) (rD gx):=ps_mono (GH h) fun W i H l=>by
 obtain⟨f,c,F,j,o,E,S,q,k⟩:=l;obtain⟨r,s,q⟩:=aJ q
 refine⟨_,c,j.map frz,r,S.frz,s,?_⟩
 cases r with
 | inl d=>cases q;exact fun B z v G u=>k B z v (E.thaw S G) u
 | inr y=>cases q;exact fun A x C g p b n a m w t=>k A x i b n a C m (E.thaw S g) (S.frz.ext g) w p t
end
section
variable {X:Cx}{e:Expr}{ga:aA->Option D}{p pos p':Pos}{tb:List (Str × Bool)}
end
end EX
namespace EX
open PySem.Spec L2 DL PySem.W
theorem HK{K:PySem.W.Frag}{L:JW}:∀ x,([]:List Str).contains x=true->rL K L x:=fun x h=>by cases h
theorem HJ{K:PySem.W.Frag}{L C:JW}{y:Str}{cs:List Str}(b:nsIn K J2 y=some (some (.ref C)))(a:kitCls K (.ref C) (.ref L)=some true)(t:∀ x,cs.contains x=true->rL K L x):∀ x,(y::cs).contains x=true->rL K L x:=fun x h=>by
 rw [List.contains_cons,UL]at h;rcases h with h | h
 ·cases(beq_iff_eq.mp h)
  exact⟨C,b,a⟩
 ·exact t x h
section
variable {X:Cx}{e e' c:Expr}{gx gy:aA->Option R}{t:aA->Option Bool}{pos:Pos}
end
end EX
namespace EX
open PySem.Spec L2 DL PySem.W
theorem NC{K:PySem.W.Frag}{C:JW}{b:List YP}{a:String}(q:excIn K C b a=true):(clsIn K C).isSome=true/\typeIn K (.ref C)=some (.type "type"):=by
 unfold excIn at q
 split at q
 next dd cd sl lk=>
  refine⟨?_,?_⟩
  ·unfold clsIn;rw [lk];rfl
  ·show(K.lookup C).map (·.cls)=_
   rw [lk];rfl
 next=>cases q
theorem Ex{K:PySem.W.Frag}{C L:JW}{b:List YP}{a:String}(q:excIn K L b a=true)(h:subIn K (.ref C) (.ref L)=some true):kitCls K (.ref C) (.ref L)=some true:=by
 obtain⟨d,c⟩:=NC q;unfold kitCls;simp only [d,c,beq_self_eq_true,JQ,if_true];exact h
end EX
namespace EX
open PySem.Spec L2 DL PySem.W
end EX
namespace EX
open PySem.Spec L2 DL PySem.W
def rE(cs:List Str)(gb b:aA->Option aK):aA->Option aK:=fun a=>(gb a).bind fun o=>match o with
 | .ex x ρ'=>if cs.contains x=true then(b (ρ'.map frz)).bind fun o=>match o with
  | .rt d=>some (.rt d)
  | _=>none else none
 | o=>some o
section
variable {X:Cx}{body suite:List Zj}{b₀:Zj}{gb gh:aA->Option aK}{cs:List Str}{Ln:Str}{np hp pos:Pos}{L:JW}
theorem Mt{E:YP->JV->Prop}{W:jL}{pins c:List (JW × Obj)}{n:L2.St}{H H₀:Hp}{F h:JW->Prop}{s:JV}{ρ:aA}{a C:JW}{N:Option JW}{x:Str}{d:D}{l:YP->JV->Prop}(ok:X.Ok)
  (Z:∀ e pn E,fT { X with A:=X.A.mark (some e),calm:=false,pn:=pn,xe:=E } (b₀::suite) gh) (G:X.ex=[]) (j:X.stack=X.env::X.outer) (B:X.env.frame=some X.env.locals)
  (hg:Gl X Ln) (U:X.mg Ln=some (.ref L)) (I:(Ln == ("__debug__":Str))=false) (hB:subIn X.K (.ref L) (.type "BaseException")=some true)
  (hT:rL X.K L x) (E1:aH h F H₀ H) (S1:bE X.K F H H₀ n ρ) (I1:Inv { X with pn:=X.pn++pins,xe:=l } c n H s) (hC:nsIn X.K J2 x=some (some (.ref C))) (T1:ThrownC { X with pn:=X.pn++pins,xe:=l } c H s a (.ref C) N)
  (q:gh (ρ.map frz)=some (.rt d)) (k:∀ F' H' v,aH h F' H₀ H'->aR X.K F' H' d v->W.rt v H'):
  JY (J0 X.prog X.w) X.A (noteFrame (.ref a) X.env) (fun _ s₂=>JY (J0 X.prog X.w) X.A (setFlight (.ref a) none) (fun _ s₃=>JY (J0 X.prog X.w) X.A (handleBy (.ref a) X.env [.ExceptHandler (some (.Name Ln np)) none (b₀::suite) hp]) (SP X pins W) E s₃) E s₂) E s:=by
 obtain⟨C',m,Y⟩:=hT;rw [hC]at m;cases m
 have fr:X.A.frames=some (X.env::X.outer):=by rw [ok.frames,j]
 have Q:s.heap.FunFrames X.base (X.env::X.outer):=by
  have:=I1.stack
  rw [show({ X with pn:=X.pn++pins,xe:=l }:Cx).stack=X.stack from rfl,j]at this;exact this
 refine Pp fr Q B T1.fly fun h' T M F' K'=>?_;have aT:vO { X with pn:=X.pn++pins,xe:=l } c H T:=MD I1 G M;have aa:vO { X with pn:=X.pn++pins,xe:=l } c H a:=T1.new a (.inl rfl)
 have K2:p9 (dN ({ X with pn:=X.pn++pins,xe:=l }:Cx).stack) (fun b=>b=a ∨ some b=N) s.heap h':=by
  rw [show({ X with pn:=X.pn++pins,xe:=l }:Cx).stack=X.stack from rfl,j];exact K'
 have I2:=Fu I1 (fun b i=>T1.new b i) K2;obtain⟨oe,vs,O,hc,hd,h1,a0,oT,ts,y,J,h3⟩:=F'
 have Ih:∀ E,Inv { X with A:=X.A.mark (some (.ref a)),calm:=false,pn:=X.pn++pins++c,xe:=E } [] n H { s with heap:=h' }:=fun E=>
  Bk (X:=X) (A':=X.A.mark (some (.ref a))) (pins:=pins++c) (vD ok I2 (fun p hp=>by simpa [QL]using hp)) rfl (fun z=>nomatch z) (fun p hp=>by simpa [QL]using hp)
 refine wpAny_handleBy_cons (codeAny_handlers_test (pO (Ih fun _ _=>False) hg U ?_ I)) (by intro q;cases q);refine Nq I2.kIn O hc Y hB (codeAny_handlers_suite ?_);refine wpAny_setFlight_none O hd h1 y J (Yi.mp h3).1 ?_;have g:∀ b,b≠T->(h'.update T (Zn (·.setIfInBounds 3 J6))).get? b=h'.get? b:=fun b i=>Ya _ _ (Zx i);have I3:=Fu (h':=h'.update T (Zn (·.setIfInBounds 3 J6))) (no:=(·=T)) (s:={ s with heap:=h' }) (I2) (fun b i=>by rw [i];exact aT) ⟨fun b o i _ e=>(g b i).trans e,fun b o i e=>⟨o.slots,(g b i).trans e⟩⟩
 have I7:∀ E,Inv { X with A:=X.A.mark (some (.ref a)),calm:=false,pn:=X.pn++pins++c,xe:=E } [] n H _:=fun E=>
  Bk (X:=X) (A':=X.A.mark (some (.ref a))) (pins:=pins++c) (vD ok I3 (fun p hp=>by simpa [QL]using hp)) rfl (fun z=>nomatch z) (fun p hp=>by simpa [QL]using hp)
 refine bA (Z (.ref a) (X.pn++pins++c) _ [] _ _ _ { nx:=fun _ _=>False,rt:=W.rt } (I7 _) ⟨h,H₀,_,_,_,E1.thaw S1 (aH.refl _ _),S1.frz,q,fun F3 r v E3 R3=>k F3 r v E3 R3⟩) fun f s6 z=>?_
 cases f with
 | next=>obtain⟨_,_,_,z⟩:=z;exact z.elim
 | brk=>obtain⟨_,_,_,z⟩:=z;exact z.elim
 | cont=>obtain⟨_,_,_,z⟩:=z;exact z.elim
 | ret u=>
  obtain⟨v,t,r,I8,S,w⟩:=z
  have I9:Inv X pins t r s6:=vD ok I8 (fun p hp=>by
   rw [QO]
   exact QG _ hp)
  exact⟨v,_,r,I9,S,w⟩
theorem D6(Y:∀ pn E,fT { X with pn:=pn,xe:=E } body gb)(T:∀ e pn E,fT { X with A:=X.A.mark (some e),calm:=false,pn:=pn,xe:=E } (b₀::suite) gh)(y:X.ex=[])(n:X.stack=X.env::X.outer)(t:X.env.frame=some X.env.locals)
  (U:Gl X Ln) (Q:X.mg Ln=some (.ref L)) (hB:subIn X.K (.ref L) (.type "BaseException")=some true)
  (Z:∀ x,cs.contains x=true->rL X.K L x) (B:(Ln == ("__debug__":Str))=false:=by decide):DS X (.Try body [.ExceptHandler (some (.Name Ln np)) none (b₀::suite) hp] [] [] pos) (rE cs gb gh):=by
 intro c s G H W I ⟨l,j,F,N,o,E,S,q,k⟩;obtain⟨M,e1,q⟩:=aJ q;refine wpAny_Try_except ?_
 have back:∀{h b g s'},Inv { X with pn:=X.pn++c,xe:=h } [] b g s'->Inv X c b g s':=fun{h b g s'} J=>vD I.ok J fun p hp=>by rw [QO];exact hp
 have I':∀ h,Inv { X with pn:=X.pn++c,xe:=h } [] G H s:=fun h=>Bk (A':=X.A) (c':=X.calm) I rfl I.ok.hd fun p hp=>by rw [QO]at hp;exact hp
 have fin:∀{h:YP->JV->Prop}{E2:YP->JV->Prop} f s',SP { X with pn:=X.pn++c,xe:=h } [] W f s'->(match f with | .next=>JY (J0 X.prog X.w) X.A (execs [] X.env) (SP X c W) E2 s' | f=>SP X c W f s'):=fun{h E2} f s' z=>by
  cases f with
  | next=>obtain⟨b,g,J,w⟩:=z;exact JR ⟨b,g,back J,w⟩
  | brk=>obtain⟨b,g,J,w⟩:=z;exact⟨b,g,back J,w⟩
  | cont=>obtain⟨b,g,J,w⟩:=z;exact⟨b,g,back J,w⟩
  | ret u=>obtain⟨v,b,g,J,r,w⟩:=z;exact⟨v,b,g,back J,r,w⟩
 refine bA (Y (X.pn++c) _ [] s G H W (I' _) ⟨l,j,F,N,M,E,S,e1,?_⟩) fin
 cases M with
 | nx ρ'=>cases q;exact k
 | rt d=>cases q;exact k
 | bk ρ'=>cases q;exact k
 | ct ρ'=>cases q;exact k
 | ex x ρ'=>
  intro F' g b m s' a C tr E1 S1 I1 hC T1
  have i:(if cs.contains x=true then(gh (ρ'.map frz)).bind (fun o=>match o with
   | .rt d=>some (aK.rt d)
   | _=>none)else none)=some o:=q
  split at i
  next hc=>
   obtain⟨O,e2,i⟩:=aJ i
   cases O with
   | rt d=>cases i;exact Mt I.ok T y n t U Q B hB (Z x hc) E1 S1 I1 hC T1 e2 k
   | _=>cases i
  next=>cases i
end
end EX
namespace LM
open PySem.Spec L2 CL DL DC
abbrev iR:=JW->Option (Array YP)
def kI(tb:iR)(H:Hp):Prop:=∀ t tp,tb t=some tp->jO t tp H
theorem kI.ext{tb:iR}{F b:JW->Prop}{H H':Hp}(T:kI tb H)(E:aH F b H H'):kI tb H':=fun t a e=>(T t a e).ext E
theorem kI.inv{X:Cx}{tb:iR}{pins:List (JW × Obj)}{a:L2.St}{H:Hp}{s:JV}(T:kI tb X.H₀)(I:Inv X pins a H s):kI tb H:=fun t b e=>(T t b e).inv I
def tL(tb:iR)(H:Hp):Prop:=∀ t tp,tb t=some tp->H t=some (.tbl tp)
def kM(K:PySem.W.Frag)(n:Nat)(G:List D->Option D)(tb:iR):Sp:=fun a H Q E=>kI tb H/\aY K n G a H Q E
theorem zL{P:JZ}{w:J1}{K:PySem.W.Frag}{mg:Str->Option YP}{base:Heap}{x a:Str}{b:Zj}{f:JW}{tb:iR}{l:Zg}{N c:List Str}{k n m:Nat}{g:aA->Option aK}{G:List D->Option D}(hG:G=cF m g)(U:c.length=n)(X:N.length=m)(F:kF K x a b f l)(S:cB N c (aW b))
  (Y:∀(cdv:YP) (A:Around) (outer:List Env) (s:JV) (H:Hp) (E:XK),cdv=l.code->kI tb H->cT k (A.deeper (envOfC a (aW b) s.heap.objs.size f cdv))->
   fT (hX aQ P w K mg base N a (aW b) f cdv A outer s H E).nox (eY b) g):aN P w K mg base aQ (k+1) f l c (kM K n G tb):=by
 subst U X hG;obtain⟨oc,od,kV,a0,pm,an,cdv,ct,M,rfl,O,i⟩:=F.ex;refine u5 O i S (fun J H Q E h=>?_) fun A outer s H J Q E T h=>?_
 ·obtain⟨_,F,ds,d,y,_,r,_⟩:=h;rw [<- r.length,y]
 ·obtain⟨Z,F,ds,d,y,z,r,q,u⟩:=h;have j:=Y cdv A outer s H E rfl Z T
  refine⟨_,fU.nox j,?_⟩
  unfold cF at q
  split at q
  ·rename_i d' e;cases q
   exact⟨F,H,F,_,_,aH.refl F H,nO z r,e,fun p o v t R'=>u p o v t R'⟩
  ·rename_i I e;cases q
   exact⟨F,H,F,_,_,aH.refl F H,nO z r,e,fun p o B t T' S'=>u p o .non t .non⟩
  ·cases q
section
variable {X:Cx}{e:Expr}{es:List Expr}{p pos:Pos}{gr:aA->Option (List D)}
theorem EI{k n:Nat}{f:JW}{tb:iR}{i:Zg}{h:List Str}{x:Str}{G:List D->Option D}(F:aN X.prog X.w X.K X.mg X.base aQ k f i h (kM X.K n G tb))(B:kI tb X.H₀)(r:cT k X.A)(v:Gl X x)(t:X.mg x=some (.ref f))(u:PySem.W.keepIn X.K (.ref f)=true)(y:Binds X.K i h [])
  (z:DA X (e::es) gr) (c:∀ ρ ds,gr ρ=some ds->ds.length=n) (g:(x == ("__debug__":Str))=false:=by decide) (he:JX (e::es) X.env=(false,Zk e X.env)::JX es X.env:=by rfl) (hpl:(Zi pos (JX es X.env)).any (·.1)=false:=by rfl):
  DE X (.Call (.Name x p) (e::es) [] pos) (aO G gr):=fun a s l H Q I ⟨O,H₀,ρ,d,S,q,o⟩=>
 Hn (E:=E0) F r v t u y .nil Hl z g he hpl a s l H Q I (by
  obtain⟨b,j,q⟩:=aJ q
  exact⟨O,H₀,ρ,b,S,j,fun U N m E1 J=>by
   show kM X.K n G tb (m++[]) N Q E0
   rw [QO]
   exact⟨(B.inv I).ext E1,U,b,d,c ρ b j,(S.ext E1).fz,J,q,fun T M w Y R2=>o T M w (E1.trans Y) R2⟩⟩)
end
def sT(K:PySem.W.Frag)(G:List D->Option D)(tb:iR):Sp:=fun b H Q E=>∃(a:JW) (ns:List Int),b=[.ref a]/\cN K H a (ns.map V.int)/\ns.length<=63/\tL tb H/\∀ H',tL tb H'->Q (.bl true) H'
theorem Os{P:JZ}{w:J1}{K:PySem.W.Frag}{mg:Str->Option YP}{base:Heap}{m:iQ}{k:Nat}{f:JW}{tb:iR}{l:Zg}{i:List Str}{G:List D->Option D}(F:aN P w K mg base m k f l i (kM K 1 G tb))
  (h:∀ ns:List Int,ns.length<=63->G [.list (ns.map J4)]=some (.bool true)):aN P w K mg base m k f l i (sT K G tb):=
 F.imp fun u H Q E n=>by
  obtain⟨a,ns,e,c,p,j,q⟩:=n;subst e
  refine⟨fun t d g=>⟨#[],by rw [j t d g];simp⟩,fun b=>H b≠none,[.list (ns.map J4)],.bool true,rfl,fun _ z=>z,.cons ?_ .nil,h ns p,fun x s v E' r=>?_⟩
  ·rcases c with c | c
   ·refine .lst (.inl ⟨?_,c⟩) (pN ns)
    rcases c with c | ⟨o,c⟩ <;> (rw [c];simp)
   ·exact .lst (.inr (.inr c)) (pN ns)
  ·cases r;exact q s fun t d g=>E'.same _ _ (j t d g)
theorem Ot{P:JZ}{w:J1}{K:PySem.W.Frag}{mg mb:Str->Option YP}{k:Nat}{Z a:JW}{tb:iR}{fd:Zg}{x:Str}{G:List D->Option D}{s₁:JV}{vs:List YP}{ns:List Int}
  (KX:K.In s₁.heap) (Q:s₁.heap.Ns J2 mg) (f:s₁.heap.Ns builtinsNs mb) (a1:∀ x:Str,x≠"__name__"->mb x=Zb x) (S:s₁.heap.NoLimit) (hg:s₁.gens=#[]) (a3:Bm mg s₁.heap)
  (E:s₁.heap.get? a=some { cls:=.type "list",data:=.seq vs.toArray }) (hi:Ue vs ns) (hl:ns.length<=63) (hr:cT k callerA) (T:∀ t tp,tb t=some tp->s₁.heap.get? t=some (PySem.W.tabObj #[])/\K.lookup t=none/\∃ tc,PySem.W.CodeHd s₁.heap tc t)
  (F:∀ base:Heap,K.In base->base.Ns J2 mg->Bm mg base->aN P w K mg base aQ k Z fd [x] (sT K G tb)) (y:∀(s:JV) (u:YP),BindsTo s fd ⟨[u],[]⟩ [(x,u)]):
  ZY (J0 P w) callerA (.call (.ref Z) ⟨[.ref a],[]⟩) (fun r s'=>r=.ok (.ret (.bool true))/\OldK s₁.heap s'.heap/\s'.os=s₁.os/\Uz s'.gens) s₁:=by
 have rv:=HY hi;have N:=hi.length
 have M:tb a=none:=by
  cases e:tb a with
  | none=>rfl
  | some tp=>rw [(T a tp e).1]at E;cases E
 have X:∀ H:Hp,cN K H a (ns.map V.int)->cY P w H s₁.heap->tL tb H->(∀ b u,tb b=none->H b=some u->b=a/\∃ o i,u=.frz o (.lst i))->(H a≠none->K.lookup a=none)->
   ZY (J0 P w) callerA (.call (.ref Z) ⟨[.ref a],[]⟩) (fun r s'=>r=.ok (.ret (.bool true))/\OldK s₁.heap s'.heap/\s'.os=s₁.os/\Uz s'.gens) s₁:=by
  intro H hS O a2 hA hK;have oX:∀{b:JW}{o:Obj},s₁.heap.get? b=some o->H b=none->(jS s₁.heap H).get? b=some o:=fun e n=>OF e n
  have c:∀{b:JW}{o:Obj},s₁.heap.get? b=some o->(∀ i n,o.data≠.seq i n)->(∀ i,o.data≠.fields i)->H b=none:=fun{b o} e d1 d2=>by
   cases q:H b with
   | none=>rfl
   | some u=>
    cases f:tb b with
    | some tp=>
     rw [(T b tp f).1]at e;cases e;exact absurd rfl (d2 _)
    | none=>
     obtain⟨rfl,_⟩:=hA b u f q;rw [E]at e;cases e;exact absurd rfl (d1 _ _)
  have j:∀{b:JW}{m:Str->Option YP},s₁.heap.Ns b m->(jS s₁.heap H).Ns b m:=fun{b m} ⟨o,es,ep,e,d,r⟩=>⟨o,es,ep,oX e (c e (fun i n z=>by rw [d]at z;cases z) fun i z=>by rw [d]at z;cases z),d,r⟩
  have U:K.In (jS s₁.heap H):=fun b o e=>oX (KX b o e) (by
   cases q:H b with
   | none=>rfl
   | some u=>
    cases f:tb b with
    | some tp=>rw [(T b tp f).2.1]at e;cases e
    | none=>
     obtain⟨rfl,_⟩:=hA b u f q
     rw [hK (by rw [q];simp)]at e;cases e)
  have hM:Mod K mg (jS s₁.heap H):=⟨U,j Q,⟨mb,j f,a1⟩,let⟨mc,I,h2⟩:=S;⟨mc,j I,h2⟩⟩
  have a4:Bm mg (jS s₁.heap H):=by
   obtain⟨bm,ob,b1,b2,b3,b4,b5,b6,b7⟩:=a3
   exact⟨bm,ob,b1,b2,b3,oX b4 (c b4 (fun i n z=>by rw [b7]at z;cases z) fun i z=>by rw [b7]at z;cases z),b5,b6,b7⟩
  have e0:p7 P w K mg (jS s₁.heap H) callerA [] s₁ H:=⟨rfl,hM,fun b o e=>Pq e,Nat.le_of_eq (OG _ _),trivial,fun b f=>absurd (show b∈([]:List JW)from f) (by simp),O,.of_eq hg⟩;refine Jd ((F _ U (j Q) a4).run callerA [] s₁ H ⟨[.ref a],[]⟩ [.ref a] [.ref a] (fun v H'=>v=.bl true/\tL tb H') (fun _ _ _=>False) hr e0 (y s₁ (.ref a)) (.cons rfl .nil) ⟨a,ns,rfl,hS,hl,a2,fun H' z=>⟨rfl,z⟩⟩) fun r s' h=>?_
  cases r with
  | error e=>exact Zt h
  | ok fl=>
   cases fl with
   | next=>exact Zt h
   | brk=>exact Zt h
   | cont=>exact Zt h
   | ret u=>
    obtain⟨v,H',os,Y,un,l,r',q,q2⟩:=h;subst q
    obtain rfl:u=Value.bool true:=r'
    refine⟨rfl,⟨fun b o e=>?_,fun b o e=>un.there b o e (by simp)⟩,os,Y⟩
    cases q:H b with
    | none=>exact .inl (un.keep b o e q (by intro z;exact absurd (show b∈([]:List JW)from z) (by simp)) (by simp))
    | some u=>
     cases A:tb b with
     | some tp=>
      obtain⟨p1,_,tc,hC⟩:=T b tp A;obtain⟨qs,eP,_⟩:=(show nW H' s'.heap b tp from l b _ (q2 b tp A));rw [p1]at e;cases e;obtain⟨oc,a0,_,_,_,_,_,_,_,g1,g2,g3,g4,_⟩:=hC;exact .inr (.inl ⟨⟨tc,oc,a0,g1,g2,g3,g4⟩,rfl,#[],qs,rfl,by rw [eP];simp⟩)
     | none=>
      obtain⟨rfl,o',i,rfl⟩:=hA b u A q;have z2:=un.frzs b o' _ q;obtain⟨e1,_⟩:=O b _ q;obtain⟨e2,_⟩:=l b _ z2;rw [e]at e1;cases e1;exact .inl e2
 have J:∀(H:Hp) t tp,tb t=some tp->nW H s₁.heap t tp:=fun H t tp e=>⟨#[],(T t tp e).1,trivial,fun pos a5 _ _ _=>.inl rfl⟩
 have fin:∀(r:JW->Option HO),(∀ b u,r b=some u->b=a/\K.lookup a=none/\u=.frz { cls:=.type "list",data:=.seq vs.toArray } (.lst (ns.map V.int)))->(K.lookup a=none->r a≠none)->
   ZY (J0 P w) callerA (.call (.ref Z) ⟨[.ref a],[]⟩) (fun r s'=>r=.ok (.ret (.bool true))/\OldK s₁.heap s'.heap/\s'.os=s₁.os/\Uz s'.gens) s₁:=by
  intro r I h2
  have p:∀ b tp,tb b=some tp->(match tb b with | some tp=>some (HO.tbl tp) | none=>r b)=some (.tbl tp):=fun b tp e=>by rw [e]
  have g:∀ b,tb b=none->(match tb b with | some tp=>some (HO.tbl tp) | none=>r b)=r b:=fun b e=>by rw [e]
  refine X (fun b=>match tb b with | some tp=>some (.tbl tp) | none=>r b) ?_ (fun b u z=>?_) (fun t tp e=>p t tp e) (fun b u f z=>?_) fun z=>?_
  ·cases B:K.lookup a with
   | some o=>
    have e:=KX a o B;rw [E]at e;cases e;exact .inr ⟨_,vs.toArray,_,B,rfl,rfl,rfl,by rw [QH,N];exact Qv hl (by decide),by simpa using rv⟩
   | none=>
    cases q:r a with
    | none=>exact absurd q (h2 B)
    | some u=>
     obtain⟨_,_,rfl⟩:=I a u q;exact .inl (.inr ⟨_,(g a M).trans q⟩)
  ·cases f:tb b with
   | some tp=>
    have z:=(p b tp f).symm.trans z;cases z;exact J _ b tp f
   | none=>
    have z:=(g b f).symm.trans z;obtain⟨rfl,_,rfl⟩:=I b u z
    exact⟨E,by rw [Ql];exact Qv hl (by decide),vs,_,rv,E⟩
  ·have z:=(g b f).symm.trans z;obtain⟨rfl,_,rfl⟩:=I b u z
   exact⟨rfl,_,_,rfl⟩
  ·have z:r a≠none:=fun q=>z ((g a M).trans q)
   cases q:r a with
   | none=>exact absurd q z
   | some u=>exact(I a u q).2.1
 cases B:K.lookup a with
 | some o=>exact fin (fun _=>none) (fun b u z=>by cases z) fun z=>by rw [B]at z;cases z
 | none=>
  refine fin (fun b=>if b=a then some (.frz { cls:=.type "list",data:=.seq vs.toArray } (.lst (ns.map V.int)))else none) (fun b u z=>?_) fun _ z=>?_
  ·split at z
   ·rename_i e;cases z;exact⟨e,B,rfl⟩
   ·cases z
  ·rw [if_pos rfl]at z;cases z
theorem Ve{l:PySem.W.OpenLaw}{k:Nat}{q:JZ}{c:List Str}{XP:(Str->Option YP)->Heap->Prop}{I:J1->Heap->Prop}{d:DefRec}{K:Params->PySem.W.Frag}{G:List D->Option D}{x:Str}{tb:iR}
  (N:l.most=some 63) (v:d.params.defaults=[]) (M:cT k callerA)
  (U:∀(w:J1) (h:Heap),I w h->(K w.params).In h/\∀ t tp,tb t=some tp->h.get? t=some (PySem.W.tabObj #[]))
  (F:∀(w:J1) (mg:Str->Option YP) (fa:JW) (h:Heap),(K w.params).In h->h.Ns J2 mg->mg d.name=some (.ref fa)->
   (∀ t tp,tb t=some tp->(K w.params).lookup t=none/\∃ tc,PySem.W.codeHdIn (K w.params) tc t=true)/\∃ fd:Zg,(∀(s:JV) (u:YP),BindsTo s fd ⟨[u],[]⟩ [(x,u)]) /\
    ∀ base:Heap,(K w.params).In base->base.Ns J2 mg->Bm mg base->aN l.prog w (K w.params) mg base aQ k fa fd [x] (sT (K w.params) G tb)):
  PySem.W.WalkO q c XP I l.row.toRowW d [] (fun f vs=>PySem.call f vs):=by
 refine Att.attach_call N v fun w H j mg mb fa o pm cd a0 a vs ns G' Y ho hd Q r m i n O=>?_;obtain⟨E,X⟩:=U w _ Y;obtain⟨p,fd,S,Z⟩:=F w mg fa _ E G'.T.g r
 have y:Bm mg j.heap:=by
  obtain⟨bm,J,b1,b2,B,b4,b5,A⟩:=G'.T.bmain
  refine⟨bm,J,b1,b2,fun z=>?_,B,b4,b5,A⟩
  obtain⟨o,es,ep,e,hd,_⟩:=G'.T.g;rw [z,e]at B;cases B;rw [hd]at A;cases A
 exact Ot E G'.T.g G'.T.b G'.T.builtins G'.T.nolimit O y m i n M (fun t tp e=>⟨X t tp e,(p t tp e).1,let⟨tc,hC⟩:=(p t tp e).2;⟨tc,PySem.W.codeHd_of_K E hC⟩⟩) Z S
end LM
namespace LM
open PySem.Spec L2 CL DL SD DC TB ST SL
section
variable {P:JZ}{w:J1}{κ:Type}[DecidableEq κ]{knd:HeapKind P w κ}{A:Around}{E:YP->JV->Prop}{s:JV}{d o:JW}{xs ys:List (κ × JW × YP)}
theorem TW{a:JW}{k:κ}{v:YP}{Q:Unit->JV->Prop}(o:knd.room A)(b:knd.is s.heap k a)(r:s.heap.DictOfH knd d xs)(m:k∉xs.map (·.1))(hsz:xs.length<=sizeLine)
  (z:∀ h',h'.DictOfH knd d (xs++[(k,a,v)])->Ze d s.heap h'->Q () { s with heap:=h' }):JY (J0 P w) A (dictSetHashed d (.ref a) (knd.hash k) v) Q E s:=by
 obtain⟨G,H,B,g,u,hd,i,h,l⟩:=r;unfold dictSetHashed
 try with_reducible refine Q7 ?_
 refine Qa (wpAny_dictFind_heap o b g hd i h l ?_ fun j p t=>absurd (JO (f:=(·.1)) (QP t)) m);intro q;refine Qa (JJ (wpAny_updateDictKeys (hz:=by have e:=size_of_entries i;lia) g hd (z _ ⟨_,_,B+1,QV _ g (Obj.isFreed_of_dict (Obj.data_mapDictKeys hd _)),u.mapDictKeys _,Obj.data_mapDictKeys hd _,?_,?_,?_⟩ (QX ..))))
 ·simp [i,entryOfKey]
 ·intro x c;rcases Qx.mp c with c | c
  ·exact knd.keeps (h x c) g hd (QX ..)
  ·rw [Qm.mp c];exact knd.keeps b g hd (QX ..)
 ·rw [QZ,Yn]
  exact⟨l,by simp,fun x c y n e=>m (by have F:y=k:=Qm.mp n;rw [<- F,<- e];exact c)⟩
theorem PL{nm:String}{Q:Unit->JV->Prop}(hu:knd.room A)(u:d≠o)(T:(o == Zl)=false)(hd:s.heap.DictOfH knd d xs)(ho:s.heap.DictOfH knd o ys)(h0:xs≠[])(hn:((xs++ys).map (·.1)).Nodup)(hsz:xs.length+ys.length<=sizeLine)
  (hQ:∀ h',h'.DictOfH knd d (xs++ys)->Ze d s.heap h'->Q () { s with heap:=h' }):JY (J0 P w) A (Builtin.Dict.mergeDict nm d o) Q E s:=by
 obtain⟨od,N,a7,z,a5,J,Y,a1,a3⟩:=id hd;obtain⟨oo,a,a6,j,a4,c,H,G,a2⟩:=id ho;have y:N.size=xs.length:=size_of_entries Y;have S:a.size=ys.length:=size_of_entries H;unfold Builtin.Dict.mergeDict;rw [if_neg (by simpa using u)];unfold Us;rw [if_neg (by rw [T];exact QA)];refine Qa (Qb ?_);refine Qa (Y8 j c ?_)
 have m:JY (J0 P w) A (do
   let v <- dictEpoch o
   let l <- dictEntries o
   forIn [:l.size] PUnit.unit fun i (_:PUnit)=>(do
     let l' <- dictEntries o
     match l'[i]? with
      | some e=>do
       holding [e.key,e.val] (dictSetHashed d e.key e.hash e.val)
       let a0 <- dictEpoch o
       if(a0 != v)=true then do
         (unsupported (toString nm++toString ":source-changed-during-callback"):Sem PUnit)
         pure (ZD PUnit.unit)
        else pure (ZD PUnit.unit)
      | _=>do
       (unsupported "internal:dict-merge":Sem PUnit)
       pure (ZD PUnit.unit):Sem (ForInStep PUnit))
   pure ()) Q E s:=by
  refine Qa (JT j c ?_);refine Qa (Y8 j c ?_);refine Qa ?_;rw [Std.Legacy.Range.forIn_eq_forIn_range'];simp only [Std.Legacy.Range.size,Nat.sub_zero,Nat.add_sub_cancel,Nat.div_one]
  refine Y0 _
   (fun f _ O=>∃ h' i,O={ s with heap:=h' }/\f=List.range' i (a.size-i)/\i<=a.size/\h'.DictOfH knd d (xs++ys.take i)/\Ze d s.heap h')
   _ ?_ ?_ _ _ ⟨s.heap,0,rfl,by simp,QY _,by simpa using hd,JF _ _⟩
  ·rintro x f b O ⟨h',i,rfl,r,hi,k,g⟩
   have W:i<a.size:=by
    rcases JL i a.size with h | h
    ·exact h
    ·rw [Nat.sub_eq_zero_of_le h]at r;simp at r
   obtain⟨rfl,q⟩:x=i/\f=List.range' (i+1) (a.size-(i+1)):=by
    have e:a.size-i=(a.size-(i+1))+1:=by lia
    rw [e,List.range'_succ]at r
    injection r with Z h2
    exact⟨Z,h2⟩
   have p:h'.get? o=some oo:=(g.2 o (Zx u)).trans j
   have B:x<ys.length:=by lia
   have gy:ys[x]?=some ys[x]:=Qh B
   have ge:a[x]?=some (entryOfKey knd ys[x]):=by rw [entry_at H x,gy];rfl
   refine Qa (Y8 p c ?_);rw [ge];have F:knd.is h' ys[x].1 ys[x].2.1:=knd.keeps (G _ (Yr B)) z J g
   have tk:ys.take (x+1)=ys.take x++[ys[x]]:=by rw [List.take_succ,gy];rfl
   have U:ys[x].1∉(xs++ys.take x).map (·.1):=fun hm=>by
    have e2:((xs++ys.take (x+1)).map (·.1)).Nodup:=by
     refine hn.sublist (List.Sublist.map _ (List.Sublist.append (List.Sublist.refl _) (List.take_sublist _ _)))
    rw [tk,<- QL,QZ,Yn]at e2;exact e2.2.2 _ hm ys[x].1 (by simp) rfl
   show JY _ _ (holding [J5 ys[x].2.1,ys[x].2.2] (dictSetHashed d (.ref ys[x].2.1) (knd.hash ys[x].1) ys[x].2.2) >>= _) _ _ _
   refine Qa (Q7 (TW (s:={ s with heap:=h' }) hu F k U (by rw [Qf,Q0];lia) fun M K n=>?_));have t:M.get? o=some oo:=(n.2 o (Zx u)).trans p;refine Qa (JT t c ?_);rw [if_neg (by simp)];refine Qb ⟨M,x+1,rfl,q,W,?_,g.trans n⟩;rw [tk,<- QL];exact K
  ·rintro b O ⟨h',i,rfl,r,hi,k,g⟩
   have X:i=a.size:=by
    rcases JL i a.size with h | h
    ·have e:a.size-i=(a.size-(i+1))+1:=by lia
     rw [e,List.range'_succ]at r;exact nomatch r
    ·exact JB hi h
   rw [X,S,List.take_length]at k;exact Qb (hQ h' k g)
 dsimp only;split
 ·refine Qa (Y8 z J ?_);split
  ·rename_i I;have Z:N=#[]:=Array.isEmpty_iff.mp I;rw [Z]at y;exact absurd (List.length_eq_zero_iff.mp y.symm) h0
  ·exact m
 ·exact m
theorem Vd{Q:YP->JV->Prop}(g:∀ B:Around,B.units<=A.units+2->knd.room B)(e:d≠o)(c:(o == Zl)=false)(hd:s.heap.DictOfH knd d xs)(a:s.heap.DictOfH knd o ys)(j:xs≠[])(i:((xs++ys).map (·.1)).Nodup)(hsz:xs.length+ys.length<=sizeLine)
  (h:∀ h',h'.DictOfH knd d (xs++ys)->Ze d s.heap h'->Q .none { s with heap:=h' }):JY (J0 P w) A (call (.builtin "dict.update") [.ref d,.ref o]) Q E s:=by
 refine Yc PySem.F.slot_dict_update hd.typeIs PySem.F.entry_dict_update ?_ (PySem.F.args_dict_update_2 _ _);unfold Builtin.«dict.update»;refine Qa ?_;unfold Builtin.Dict.selfAndRest;refine Qa (Uq hd.typeIs ?_)
 show JY _ _ (pure (d,[J5 o])) _ _ s
 refine Qb ?_
 show JY _ _ (ZQ "dict.update" d (.ref o) [] .none) _ _ s
 unfold ZQ;refine Qa (Y2 a.typeIs ?_);rw [if_neg (by decide)];refine Qa ?_;unfold Builtin.Dict.merge;refine Qa ?_;unfold Builtin.Dict.readDirectly;refine Qa (Jg a.typeIs isSubtype_dict_dict ?_);simp only [Yw,Qq,if_false];refine Qa (JA a.typeIs PySem.F.slot_dict_iter.lookup (Qb ?_));simp only [beq_self_eq_true,if_true];refine Qa (Qb ?_);refine PL (g _ (by first | (show A.units+1<=_;lia) | (show A.units<=_;lia) | (show A.units+2<=_;lia))) e c hd a j i hsz fun h' f b=>?_
 show JY _ _ (Builtin.Dict.addKeywords d [] >>= _) _ _ _
 exact Qa (Qb (Qb ⟨.none,rfl,h h' f b⟩))
end
end LM
namespace LM
open PySem.Spec L2 CL DL DC TB
def okL:D->Bool
 | .list a=>noLs a
 | d=>x9 d
section
variable {K:PySem.W.Frag}{F F':JW->Prop}{H H₀:Hp}{σ:L2.St}{ρ:List Sl}
theorem Hb{d:D}{v:V}(R:aR K F H d v)(h:okL d=true)(u:∀ a xs,F a->Rd H a (.lst xs)->F' a):aR K F' H d v:=by
 cases d with
 | list e=>
  cases R with
  | lst b c=>
   refine .lst ?_ (noLs_rep c h);rcases b with⟨f,b⟩ | b
   ·exact .inl ⟨u _ _ f b,b⟩
   ·exact .inr b
 | _=>exact G5 R h
theorem DReps.okL{kvs:List (D × D)}{es:List cS}(R:DReps K F H kvs es)(h:∀ p∈kvs,okL p.2=true)(u:∀ a xs,F a->Rd H a (.lst xs)->F' a):DReps K F' H kvs es:=by
 induction kvs generalizing es with
 | nil=>cases R;exact .nil
 | cons p kvs b=>
  cases R with
  | cons e c r=>exact .cons e (Hb c (h _ (Qd ..)) u) (b r fun q d=>h q (Qg _ d))
theorem bE.lend1(S:bE K F H H₀ σ ρ){i:Nat}{kvs:List (D × D)}(M:ρ[i]?=some (.ownD kvs)):∃ a es ep,σ[i]?=some (some (.ref a))/\H a=some (cA a es ep)/\¬ F a/\H₀ a=none/\(es.map (·.1)).Nodup/\es.length<=1000/\DReps K F H kvs es /\
  ((∀(j:Nat) (k2:List (List Int × List D)),ρ[j]?≠some (.ownM k2))->bE K (fun b=>F b ∨ b=a) H H₀ σ (ρ.set i (.dat (.dict kvs)))):=by
 obtain⟨a,es,ep,E,A,U,X,n,l,r⟩:=S.ownD M
 refine⟨a,es,ep,E,A,U,X,n,l,r,fun G=>?_⟩
 have T:bU K F (fun b=>F b ∨ b=a) H H:=⟨fun _ h=>.inl h,fun _ _ h=>h,fun _ _ _ h=>h,fun _ _ _ h=>h⟩;have I:i<ρ.length:=(Qe.mp M).1
 refine⟨by simp [S.len],fun j s h=>?_,fun j k b p es J x u W=>?_,fun b f=>f.elim (S.fz b) fun z=>by subst z;rw [A];simp⟩
 ·by_cases g:i=j
  ·subst g;rw [QC I]at h;cases h
   exact⟨_,E,.ref a,rfl,.dct (.inr rfl) A n l (r.stay T)⟩
  ·rw [Qz g]at h;obtain⟨o,q,w⟩:=S.sl j s h
   refine⟨o,q,?_⟩
   cases s with
   | no=>trivial
   | val R=>obtain⟨v,x,u⟩:=w;exact⟨v,x,fun F2 Z Y=>u F2 Z (T.trans Y)⟩
   | ownM kvs=>exact absurd h (G j kvs)
   | ownD k2=>
    obtain⟨b,N,ep,t,B,c,m,n,l,y⟩:=w
    refine⟨b,N,ep,t,B,fun f=>?_,m,n,l,y.stay T⟩
    rcases f with f | f
    ·exact c f
    ·subst f;exact S.sep i j b (.inr kvs) (.inr k2) g M h E (by rw [q,t])
   | dat d=>obtain⟨v,t,y⟩:=w;exact⟨v,t,y.stay T⟩
   | own p=>
    obtain⟨b,ws,t,B,c,m,y⟩:=w
    refine⟨b,ws,t,B,fun f=>?_,m,y.stay T⟩
    rcases f with f | f
    ·exact c f
    ·subst f;rw [B]at A;cases A
 ·have Q:i≠j:=by intro e;subst e;rw [QC I]at x;cases p <;> cases x
  have O:i≠k:=by intro e;subst e;rw [QC I]at u;cases es <;> cases u
  rw [Qz Q]at x;rw [Qz O]at u;exact S.sep j k b p es J x u W
theorem aH.back1{H':Hp}{a:JW}{u:HO}(d:¬ F a)(e:H a=some u)(E:aH (fun b=>F b ∨ b=a) F' H H'):aH F (fun b=>F' b/\b≠a) H H':=
 ⟨E.same,fun b f=>⟨E.up b (.inl f),fun z=>d (by rw [<- z];exact f)⟩,fun b c=>by
  obtain⟨f,n⟩:=c;rcases E.new b f with(f | f) | f
  ·exact .inl f
  ·exact absurd f n
  ·exact .inr f⟩
end
section
variable {X:Cx}{elt tg iter:Expr}{ifs:List Expr}{scope:Zz}{pos:Pos}{N':List Str}{inner:List (Option Nat)}{gi:aA->Option (List D)}{s:D->aA->Option aA}{t:aA->Option Bool}{ge:aA->Option D}
def pY(i j:Nat)(g:aA->Option D):aA->Option aK:=fun a=>match a[j]? with
 | some (.ownD kvs)=>(g (a.set j (.dat (.dict kvs)))).bind fun d=>if(okL d && mX a)=true then some (.nx (a.set i (.dat d)))else none
 | _=>none
theorem Nj{i j:Nat}{y:Str}{I e:Pos}(hN:X.N.Nodup)(hc:X.calm=true)(CS:lY X N' scope inner)(Z:rJ s)(hi:DI X tg iter gi)(hg:∀ cl C fp s' H,DG (eI X N' scope cl C fp s' H) tg s)(ht:∀ cl C fp s' H,p6 (eI X N' scope cl C fp s' H) ifs t)(he:∀ cl C fp s' H,DE (eI X N' scope cl C fp s' H) elt ge)
  (w:ZE (.ListComp elt [⟨tg,iter,ifs,0⟩] scope pos) (some (.Name y I)) e.line X.env=pure true:=by rfl) (hy:X.N[i]?=some y:=by rfl) (hx:L2.Loc X.env.scope y:=by first | exact ZG rfl | exact Zr rfl) (hf:X.fn y=true ∨ X.env.scope.names.lookup y=some .local:=by first | exact .inl rfl | exact .inr rfl | assumption)
  (hs:∀ x,ZC iter X.env x=pure x:=by intro _;rfl):DS X (.Assign [.Name y I] (.ListComp elt [⟨tg,iter,ifs,0⟩] scope pos) e) (pY i j (bX (bW gi s t ge inner))):=
 ps_mono (GG (g:=qT X.K s) (ti:=lX X.K t) (te:=tD X.K ge) hN hc CS hi (fun cl C fp s' H=>hg cl C fp s' H) (fun cl C fp s' H=>ht cl C fp s' H) (fun cl C fp s' H=>he cl C fp s' H) w hy hx hf hs) fun W σ H T=>by
  obtain⟨O,M,F,Q,o,E,S,q,k⟩:=T;unfold pY at q
  split at q
  rotate_left
  ·cases q
  rename_i Y ej;obtain⟨d,e1,q⟩:=aJ q;by_cases c:(okL d && mX Q)=true
  rotate_left
  ·rw [if_neg c]at q;cases q
  rw [if_pos c]at q;cases q;rw [Qy]at c;obtain⟨v,e2,q⟩:=aJ e1;cases q;obtain⟨a,es,ep,q1,u,U,h0,n,l,r,B⟩:=bE.lend1 S ej;have B:=B (AH c.2);refine zW Z B e2 fun G H' m vs E' T' A J h3 h4 h5=>?_;have E2:=aH.back1 U u E'
  have Da:m≠a:=fun z=>by rw [z,u]at A;cases A
  have E9:aH F (fun b=>(G b/\b≠a) ∨ b=m) H H':=⟨E2.same,fun a f=>.inl (E2.up a f),fun a f=>by
   rcases f with f | rfl
   ·exact E2.new a f
   ·exact .inr ⟨A,by rw [J];simp⟩⟩
  have R9:aR X.K (fun b=>(G b/\b≠a) ∨ b=m) H' (.list v) (.ref m):=by
   refine Hb (F:=fun b=>G b ∨ b=m) (.lst (.inl ⟨.inr rfl,.inl J⟩) (h4.stay ⟨fun _ f=>.inl f,fun _ _ f=>f,fun _ _ _ f=>f,fun _ _ _ f=>f⟩)) c.1 fun b p f h=>?_;rcases f with f | f
   ·refine .inl ⟨f,fun z=>?_⟩;subst z;rw [show Rd H' b (.lst p)=(H' b=some (.lst p) ∨ ∃ o,H' b=some (.frz o (.lst p)))from rfl,E2.same _ _ u]at h
    rcases h with h | ⟨_,h⟩ <;> cases h
   ·exact .inr f
  exact k _ H' _ (E.trans E9) E9.stay ((S.ext E9).put R9)
end
end LM
namespace LM
open PySem.Spec L2 CL DL DC TB
theorem Fd{a b:Type}(f:a->b){l:List a}(h:(l.map f).Nodup):l.Nodup:=(Q2.mp h).imp fun h z=>h (by rw [z])
def DB(K:PySem.W.Frag)(H:Hp)(es:List cS):Prop:=∀ e∈es,∃ ks,e.1=.inl ks/\bQ K H e.2.1 (ks.map V.int)
theorem Eg:∀{es es2:List cS}{xs ys:List jN},Paired ER es xs->Paired ER es2 ys->Paired ER (es++es2) (xs++ys)
 | _,_,_,_,.nil,h=>h
 | _,_,_,_,.cons r t,h=>.cons r (Eg t h)
def Lm(K:PySem.W.Frag):V->List V->Hp->VK->Prop:=fun x b H Q=>∃(a o:JW) (es es2:List cS) (ep ep2:Nat),x=.ref a/\b=[.ref o]/\a≠o/\H a=some (cA a es ep)/\H o=some (cA o es2 ep2)/\DB K H es/\DB K H es2/\es≠[]/\((es++es2).map (·.1)).Nodup/\(es++es2).length<=1000/\∀ ep',Q .non (aP H a (cA a (es++es2) ep'))
theorem PR{X:Cx}(hu:X.A.units+65<Za):xF X "dict.update" (Lm X.K):=fun f s y H x p v us Q I G J E=>by
 obtain⟨a,o,es,l,ep,a0,ex,k,N,r,S,f1,Z,W,j,T,q⟩:=E;subst ex k;cases G;obtain⟨u,rfl,M⟩:=i4 J;cases M;have b:=j;rw [QZ]at b;obtain⟨O,p,dd,t⟩:=l5 I r f1 (Yn.mp b).1;obtain⟨i,ys,n,m⟩:=l5 I S Z (Yn.mp b).2.1;have d:=Eg t m;refine Vd (knd:=fO X.prog X.w) (fun B hB=>show B.units<Za by lia) N i dd n (fun z=>?_) ?_ ?_ fun Y h F=>?_
 ·subst z;cases t;exact W rfl
 ·rw [uY d]at j;exact Fd _ j
 ·have:=Paired.length d
  rw [Qf (as:=p)]at this;rw [<- this];exact Qv T (by rw [Yf];lia)
 obtain⟨g,oo⟩:=rQ (H:=H) O h d;have I4:L2.Inv X f y (aP H a (cA a (es++l) g)) { s with heap:=Y }:=I.write (x:=a) (e:=a) (t':=s.toks) (by rw [r];exact Ux) (.inl rfl) (fun c ob U z=>(F.2 c U).trans z) (let⟨o2,_,_,hq,_⟩:=h;⟨o2,hq⟩) oo
 exact⟨.non,_,I4,rfl,q g⟩
def qV(kvs a:List (D × D)):Bool:=dE kvs && dE a && !kvs.isEmpty && decide (((kvs++a).map fun p=>cH p.1).Nodup) && a.all (fun p=>okL p.2) && decide ((kvs++a).length<=1000)
def oQ(i:Nat)(d:aA->Option (List D)):aA->Option aK:=fun a=>match a[i]? with
 | some (.ownD kvs)=>(d (a.set i (.dat (.dict kvs)))).bind fun c=>match c with
  | [.list ds]=>if ds.length<=1000 then(jH ds).bind fun b=>if(qV kvs (iB b) && mX a)=true then some (.nx (a.set i (.ownD (kvs++iB b))))else none else none
  | _=>none
 | _=>none
theorem FA{K:PySem.W.Frag}{F:JW->Prop}{H:Hp}:∀{kvs:List (D × D)}{es:List cS},DReps K F H kvs es->(kvs.map fun p=>cH p.1)=(es.map (·.1)).map fun k=>cH (qL k)
 | _,_,.nil=>rfl
 | _,_,.cons _ _ t=>by simp only [Qp,FA t]
section
variable {X:Cx}{e:Expr}{gr:aA->Option (List D)}{x y:Str}{p p' ap cp cp' pos:Pos}
theorem Nl{i:Nat}(hc:X.calm=true)(hu:X.A.units+66<Za)(hg:Gl X y)(hm:X.mg y=none)(hv:Zb y=some (.type "dict"))(ha:DA X [e] gr)(hN:X.N[i]?=some x:=by rfl)(M:jQ X.env.scope x:=by first | exact ZG rfl | exact Zr (ZG rfl) | exact Zr (Zr rfl))(hd:(x == ("__debug__":Str))=false:=by decide)
  (T:(x == ("__classdict__":Str))=false:=by decide) (hn:y≠"__name__":=by decide) (Q:(y == ("__debug__":Str))=false:=by decide) (he:JX [e] X.env=(false,Zk e X.env)::JX [] X.env:=by rfl) (hpl:(Zi cp' (JX [] X.env)).any (·.1)=false:=by rfl)
  (g:UC (.Name x p) "update" X.env (Zk (.Name x p) X.env)=Zk (.Name x p) X.env:=by rfl)
  (hf:((Zi cp (JX [.Call (.Name y p') [e] [] cp'] X.env)).all (fun x => !x.1) && (backToKw cp (UW [] X.env)).all (fun x=>x.1.isSome) && decide ([Expr.Call (.Name y p') [e] [] cp'].length+([]:List UA).length+(if([]:List UA).isEmpty then 0 else 1)<30))=true:=by rfl)
  (m:(ap.endLine == cp.line)=true:=by rfl) (hs:JX [.Call (.Name y p') [e] [] cp'] X.env=(false,Zk (.Call (.Name y p') [e] [] cp') X.env)::JX [] X.env:=by rfl) (j:(Zi cp (JX [] X.env)).any (·.1)=false:=by rfl) (O:ZE (.Call (.Attribute (.Name x p) "update" ap) [.Call (.Name y p') [e] [] cp'] [] cp) none pos.line X.env=pure false:=by rfl):
  DS X (.Expr (.Call (.Attribute (.Name x p) "update" ap) [.Call (.Name y p') [e] [] cp'] [] cp) pos) (oQ i gr):=
 ps_mono (wH (RW PySem.F.slot_dict_update PySem.F.type_dict_update (PR (by lia)) (nJ hN M hd T) (j9 (AO (zX hc hu) hg hm hv ha hn Q he hpl) mG hs) g hf m hs j) O) fun W σ H zz=>by
  obtain⟨a0,u,F,ρ,o,E,S,q,k⟩:=zz;unfold oQ at q
  split at q
  rotate_left
  ·cases q
  rename_i J ei;obtain⟨xs,e1,q⟩:=aJ q
  split at q
  rotate_left
  ·cases q
  rename_i Y;by_cases m:Y.length<=1000
  rotate_left
  ·rw [if_neg m]at q;cases q
  rw [if_pos m]at q;obtain⟨G,e2,q⟩:=aJ q;by_cases c:(qV J (iB G) && mX ρ)=true
  rotate_left
  ·rw [if_neg c]at q;cases q
  rw [if_pos c]at q;cases q;simp only [qV,Qy,decide_eq_true_eq,Q8,List.isEmpty_eq_false_iff,QM]at c;obtain⟨⟨⟨⟨⟨⟨f1,f2⟩,n0⟩,nd⟩,ok⟩,ln⟩,nm⟩:=c;obtain⟨a,t,ep,q1,B,nf,h0,n,l,r,S1⟩:=bE.lend1 S ei;have S1:=S1 (AH nm)
  refine⟨.ref a,q1,⟨a,t,ep,rfl,B⟩,_,u,_,[.list Y],S1,e1,fun v Z vs E' R'=>⟨v,Y,G,(S1.ext E').fz,R',m,e2,fun pp es2 h j r2 n2 l2=>?_⟩⟩
  have E2:=aH.back1 nf B E';have d:=E'.same _ _ B
  have I:a≠pp:=fun z=>by rw [z,j]at d;cases d
  have E3:aH (fun b=>v b/\b≠a) (fun b=>v b/\b≠a) Z (aP Z pp (cA pp es2 h)):=aH.fresh j;have E4:=E2.trans E3;have S4:=S.ext E4;have s:=E3.same _ _ d;have r4:=r.stay (K:=X.K) E4.stay
  have r5:DReps X.K (fun b=>v b/\b≠a) (aP Z pp (cA pp es2 h)) (iB G) es2:=(DReps.okL r2 (fun p j=>ok p j) (fun b xs f g=>⟨f,fun z=>by
   subst z
   rcases g with g | ⟨_,g⟩ <;> (rw [d]at g;cases g)⟩)).stay E3.stay
  have w:=DReps.append r4 r5;have nk:((t++es2).map (·.1)).Nodup:=Fd _ (by rw [<- FA w];exact nd)
  have lk:(t++es2).length<=1000:=by rw [<- DReps.length w];exact ln
  have U:t≠[]:=fun z=>by subst z;cases r;exact n0 rfl
  refine⟨a,pp,t,es2,_,h,rfl,rfl,I,s,cQ,DReps.flat r4 f1,DReps.flat r5 f2,U,nk,lk,fun ep'=>?_⟩
  obtain⟨T1,T2⟩:=S4.turnD (ep':=ep') ei q1 s (fun z=>z.2 rfl) h0 (AH nm) nk lk w;exact k _ _ σ ((E.trans E4).turn h0) (E4.stay.trans T2) T1
end
end LM
namespace LM
open PySem.Spec L2 CL DL DC TB EX
def BE(G:List D->Option D)(b:aA->Option R):aA->Option R:=fun a=>(b a).bind fun r=>match r with
 | .inl d=>(G [d]).bind fun c=>some (.inl c)
 | .inr x=>some (.inr x)
theorem Nn{X:Cx}{e:Expr}{p pos:Pos}{id:String}{x:Str}{h:List D->Option D}{f:aA->Option R}(o:fJ X (.builtin id) (jA X.K h))(n:Gl X x)(m:X.mg x=none)(j:Zb x=some (.builtin id))(s:DX X e f)(l:x≠"__name__":=by decide)(b:(x == ("__debug__":Str))=false:=by decide)
  (he:JX [e] X.env=(false,Zk e X.env)::JX [] X.env:=by rfl) (hpl:(Zi pos (JX [] X.env)).any (·.1)=false:=by rfl):DX X (.Call (.Name x p) [e] [] pos) (BE h f):=
 eM (AN o n m j (j9 s mG he) l b he hpl) fun J H Q i=>by
  obtain⟨F,a,g,r,S,q,k⟩:=i;obtain⟨c,u,q⟩:=aJ q
  refine⟨F,a,g,c,S,u,?_⟩
  cases c with
  | inr y=>cases q;exact k
  | inl d=>
   obtain⟨z,t,q⟩:=aJ q;cases q;intro G M v E1 A
   exact⟨G,[d],z,(S.ext E1).fz,.cons A .nil,t,fun E B w I R2=>k E B w (E1.trans I) R2⟩
theorem DV{scope:Zz}{x0 xf:Str}(h:(scope.kind,scope.isCoroutine,scope.isGenerator)=(.function,false,false))(q:(∀ x∈scope.names,x.2≠.cell)/\(∀ x∈scope.names,x.2=.free->x.1=xf)/\scope.names.lookup x0=some .local/\scope.names.lookup xf=some .free):xD scope x0 xf:=by
 injection h with h1 h
 injection h with h2 h3
 exact⟨h1,h2,h3,q.1,q.2.1,q.2.2.1,q.2.2.2⟩
end LM
namespace LM
open PySem.Spec PySem.SeqAt L2 CL DL DC
def gE(kvs:List (D × D))(x:D):Bool:=match cH x with
 | some k=>fH kvs k
 | none=>false
def iX(a:List D->Option D):Nat->List D->Option (List D)
 | _,[]=>some []
 | 0,_=>none
 | n+1,d::ds=>match a [d]with
  | some (.dict kvs)=>if(dE kvs && (d::ds).all (fun x=>(cH x).isSome) && shaped (.list (d::ds)) && decide ((d::ds).length<=900))=true then(iX a n ((d::ds).filter fun x => !gE kvs x)).bind fun r=>some (.list ((d::ds).filter (gE kvs))::r)else none
  | _=>none
def n4(b:List D->Option D):D->Option D
 | .list a=>(iX b 800 a).map .list
 | _=>none
end LM
namespace My
open PySem.Spec PySem.SeqAt L2 CL DL SD ZL SL EL DC EX TX TB TX MN LM
def kX:JW:=220
def Mg:Array YP:=iT ⟨153,37,0,0⟩ "rooms.<locals>.<lambda>"
def lA:JW:=227
def Mh:Array YP:=iT ⟨155,37,0,0⟩ "halls.<locals>.<lambda>"
def jZ:iR:=fun t=>if t=kX then some Mg else if t=lA then some Mh else none
def top(i:Nat):Zj:=PySem.Challenge.pw_lampfloor_k86_whole_relays.main.body.getD i (.Pass ⟨0,0,0,0⟩)
structure Fo(K:PySem.W.Frag)(mg:Str->Option YP)(n:Str)(st:Zj)(ps:List Str)(a:JW)(d:Zg):Prop where
 F:kF K n n st a d
 m:mg n=some (.ref a)
 b:L2.Binds K d ps []
theorem cO{N P:List Str}{sc:Zz}(h:(sc.kind,sc.isCoroutine,sc.isGenerator,N.take P.length)=(.function,false,false,P))(q:N.Nodup/\(∀ x∈P,sc.names.lookup x=some .local ∨ sc.names.lookup x=some .cell)/\∀ y∈sc.names,y.2≠.free):cB N P sc:=by
 injection h with h1 h
 injection h with h2 h
 injection h with h3 h4
 exact⟨h1,h2,h3,q.1,h4,q.2.1,q.2.2⟩
theorem aF{X:Cx}{e:Expr}{es:List Expr}{b:aA->Option D}{a:aA->Option (List D)}(d:DE X e b)(c:DA X es a)(h:AT e=true):DA X (e::es) (aD b a):=NN d c h
theorem iI{X:Cx}{es:List Expr}{a:aA->Option (List D)}{x1 pos}(h:DA X es a):DE X (.Tuple es x1 pos) (dS a):=NV h
theorem bJ{X:Cx}{e:Expr}{es:List Expr}{g:aA->Option (List D)}{p pos:Pos}{k m n:Nat}{f:JW}{i:Zg}{h:List Str}{j:Zj}{x:Str}{G:List D->Option D}(F:Fo X.K X.mg x j h f i)(r:aN X.prog X.w X.K X.mg X.base aQ k f i h (aY X.K n G))(l:cT m X.A)(o:Gl X x)
  (q:DA X (e::es) g) (a:∀ ρ ds,g ρ=some ds->ds.length=n) (c:k<=m:=by decide) (d:(x == ("__debug__":Str))=false:=by decide) (he:JX (e::es) X.env=(false,Zk e X.env)::JX es X.env:=by rfl) (hpl:(Zi pos (JX es X.env)).any (·.1)=false:=by rfl):DE X (.Call (.Name x p) (e::es) [] pos) (aO G g):=NP r (l.mono c) o F.m F.F.kp F.b q a d he hpl
theorem Ki:∀(ρ:aA) (ds:List D),aG ρ=some ds->ds.length=0:=fun _ _ h=>Aj h
section
variable {a b c d e f:aA->Option D}
theorem eJ:∀(ρ:aA) (ds:List D),aD a aG ρ=some ds->ds.length=1:=jE Ki
theorem dV:∀(ρ:aA) (ds:List D),aD a (aD b aG) ρ=some ds->ds.length=2:=jE eJ
theorem gM:∀(ρ:aA) (ds:List D),aD a (aD b (aD c aG)) ρ=some ds->ds.length=3:=jE dV
theorem ln4:∀(ρ:aA) (ds:List D),aD a (aD b (aD c (aD d aG))) ρ=some ds->ds.length=4:=jE gM
end
abbrev yU:Zj:=top 6
abbrev uE:Zj:=top 12
abbrev uG:Zj:=top 14
abbrev yX:Zj:=top 16
abbrev yM:Zj:=top 17
abbrev yZ:Zj:=top 27
abbrev yT:Zj:=top 38
abbrev uB:Zj:=top 41
abbrev yK:Zj:=top 7
abbrev yP:Zj:=top 13
abbrev yV:Zj:=top 19
abbrev t9:Zj:=top 28
abbrev yR:Zj:=top 39
abbrev uD:Zj:=top 42
abbrev yY:Zj:=top 8
abbrev yL:Zj:=top 20
abbrev yS:Zj:=top 29
abbrev m6:Zj:=top 32
abbrev uC:Zj:=top 40
abbrev yI:Zj:=top 9
abbrev yW:Zj:=top 10
abbrev y8:Zj:=top 21
abbrev qQ:Zj:=top 34
abbrev yJ:Zj:=top 11
abbrev y4:Zj:=top 35
abbrev y7:Zj:=top 36
abbrev yN:Zj:=top 45
abbrev uF:Zj:=top 22
abbrev y3:Zj:=top 33
abbrev t8:Zj:=top 23
abbrev yO:Zj:=top 44
abbrev t7:Zj:=top 24
abbrev uA:Zj:=top 30
abbrev yQ:Zj:=top 46
abbrev m7:Zj:=top 47
def kD:List (Str × D):=[("n",.tuple [.int 0,.int (-1)]),("e",.tuple [.int 1,.int 0]),("s",.tuple [.int 0,.int 1]),("w",.tuple [.int (-1),.int 0])]
def B2:List Str:=["thing"]
theorem LC:cB B2 ["thing"] (aW yU):=cO rfl (by decide +kernel)
def FW:aA->Option aK:=
  (bK (kN (tO "int" (eV 0)) (Ea (tO "bool" (eV 0)))))
def pH:List D->Option D:=cF 1 FW
def xN:List Str:=["floor","cells","x"]
theorem Bp:cB xN ["floor"] (aW uE):=cO rfl (by decide +kernel)
def Di:List Str:=["y","x"]
theorem P7:Di.Nodup:=by decide +kernel
def A4:aA->Option aK:=
  (aM (jX 1 aG)
  (aM (dW (iM (aD (aE bH (eV 0) (eC (.int 0))) aG)) (bC 2) (lU 1 (bX (bW (iM (aD (aE bH (eV 0) (eC (.int 1))) aG)) (bC 0) eT (dS (aD (eV 1) (aD (eV 0) aG))) [none,some 2]))))
  (bK (eV 1))))
def sH:List D->Option D:=cF 3 A4
def xP:List Str:=["things"]
theorem LH:cB xP ["things"] (aW uG):=cO rfl (by decide +kernel)
def Dk:List Str:=["thing"]
theorem P9:Dk.Nodup:=by decide +kernel
def FY:aA->Option aK:=
  (bK (aO zY (aD (bX (bW (bO (eV 0)) (bC 0) eT (dS (aD (eV 0) (aD (eC (.bool true)) aG))) [none])) aG)))
def eX:List D->Option D:=cF 1 FY
def B5:List Str:=["one","other","far_x","far_y","way_x","way_y","gone_x","gone_y","cells","border_x","border_y"]
theorem iZ:cB B5 ["one","other"] (aW yX):=cO rfl (by decide +kernel)
def A6:aA->Option aK:=
  (aM (bI 2 (aO oC (aD (aE qI (aE bH (eV 1) (eC (.int 0))) (aE bH (eV 0) (eC (.int 0)))) aG)))
  (aM (bI 3 (aO oC (aD (aE qI (aE bH (eV 1) (eC (.int 1))) (aE bH (eV 0) (eC (.int 1)))) aG)))
  (aM (bI 4 (xV (eB (aE mS (aE bH (eV 1) (eC (.int 0))) (aE bH (eV 0) (eC (.int 0))))) (eC (.int 1)) (mU lI (eC (.int 1)))))
  (aM (bI 5 (xV (eB (aE mS (aE bH (eV 1) (eC (.int 1))) (aE bH (eV 0) (eC (.int 1))))) (eC (.int 1)) (mU lI (eC (.int 1)))))
  (aM (bI 6 (eC (.int 0)))
  (aM (bI 7 (eC (.int 0)))
  (aM (jX 8 (aD (eV 0) aG))
  (aM (gB (fX (eB (aE mT (eV 6) (eV 2))) (eB (aE mT (eV 7) (eV 3)))) (aM (bI 9 (aE dG (aE cL (aE dG (eC (.int 2)) (eV 6)) (eC (.int 1))) (eV 3)))
  (aM (bI 10 (aE dG (aE cL (aE dG (eC (.int 2)) (eV 7)) (eC (.int 1))) (eV 2)))
  (aM (cE (eB (aE qH (eV 9) (eV 10))) (bI 6 (aE cL (eV 6) (eC (.int 1)))) cM)
  (aM (cE (eB (aE qH (eV 10) (eV 9))) (bI 7 (aE cL (eV 7) (eC (.int 1)))) cM)
  (jW 8 (dS (aD (aE cL (aE bH (eV 0) (eC (.int 0))) (aE dG (eV 4) (eV 6))) (aD (aE cL (aE bH (eV 0) (eC (.int 1))) (aE dG (eV 5) (eV 7))) aG)))))))) 900)
  (bK (eV 8))))))))))
def sI:List D->Option D:=cF 11 A6
def BT:List Str:=["cells","couples","here","there"]
theorem wR:cB BT ["cells"] (aW yM):=cO rfl (by decide +kernel)
def A5:aA->Option aK:=
  (aM (jX 1 aG)
  (aM (dW (qM (aD (eV 0) (aD (qK (eV 0) (oE (eC (.int 1))) qP) aG))) (j1 2 (fS (bC 2) (fS (bC 3) j0))) (cE (gS (eB (aE bR (aE bH (eV 2) (eC (.int 0))) (aE bH (eV 3) (eC (.int 0))))) (eB (aE bR (aE bH (eV 2) (eC (.int 1))) (aE bH (eV 3) (eC (.int 1)))))) (jW 1 (aO vV (aD (aO jD (aD (dM (aD (dS (aD (aE bH (eV 2) (eC (.int 0))) (aD (aE bH (eV 3) (eC (.int 1))) aG))) (aD (dS (aD (aE bH (eV 3) (eC (.int 0))) (aD (aE bH (eV 2) (eC (.int 1))) aG))) aG))) aG)) aG))) cM))
  (bK (eV 1))))
def pF:List D->Option D:=cF 4 A5
def B7:List Str:=["cell","word"]
theorem LG:cB B7 ["cell","word"] (aW yZ):=cO rfl (by decide +kernel)
def FQ:aA->Option aK:=
  (bK (dS (aD (aE cL (aE bH (eV 0) (eC (.int 0))) (aE bH (oF kD (eV 1)) (eC (.int 0)))) (aD (aE cL (aE bH (eV 0) (eC (.int 1))) (aE bH (oF kD (eV 1)) (eC (.int 1)))) aG))))
def pE:List D->Option D:=cF 2 FQ
def B0:List Str:=["_law_script","_law_k"]
theorem LB:cB B0 ["_law_script","_law_k"] (aW yT):=cO rfl (by decide +kernel)
def DZ:aA->Option aK:=
  (aM (cE (eB (aE iG (eV 0) (dM aG))) (bK (aE dG (eC (.int 7)) (eV 1))) cM)
  (bK (aE cL (aE bH (eV 0) (aE iH (eV 1) (aO eH (aD (eV 0) aG)))) (aE dG (eC (.int 6553)) (aE k9 (eV 1) (aO eH (aD (eV 0) aG)))))))
def sF:List D->Option D:=cF 2 DZ
def xK:List Str:=["_law_floor_here"]
theorem Lz:cB xK ["_law_floor_here"] (aW uB):=cO rfl (by decide +kernel)
def Df:List Str:=["_law_at","_law_floor_here"]
theorem P4:Df.Nodup:=by decide +kernel
def D0:aA->Option aK:=
  (bK (bX (bW (iM (aD (aE dG (aE bH (eV 0) (eC (.int 0))) (aE bH (eV 0) (eC (.int 1)))) aG)) (bC 0) eT (dS (aD (aE k9 (eV 0) (aE bH (eV 1) (eC (.int 1)))) (aD (aE iH (eV 0) (aE bH (eV 1) (eC (.int 1)))) aG))) [none,some 0])))
def sG:List D->Option D:=cF 1 D0
def BR:List Str:=["thing"]
theorem Lr:cB BR ["thing"] (aW yK):=cO rfl (by decide +kernel)
def FX:aA->Option aK:=
  (aM (cE (fX (lJ (eB (tO "tuple" (eV 0)))) (eB (aE bR (aO eH (aD (eV 0) aG)) (eC (.int 2))))) (bK (eC (.bool false))) cM)
  (bK (kN (aO pH (aD (aE bH (eV 0) (eC (.int 0))) aG)) (aO pH (aD (aE bH (eV 0) (eC (.int 1))) aG)))))
def sM:List D->Option D:=cF 1 FX
def BW:List Str:=["floor"]
theorem Lx:cB BW ["floor"] (aW yP):=cO rfl (by decide +kernel)
def Ga:aA->Option aK:=
  (bK (zD (Ai (qJ (aD (aO sH (aD (eV 0) aG)) aG)) (qJ (aD (aE bH (eV 0) (eC (.int 2))) aG)))))
def dO:List D->Option D:=cF 1 Ga
def B3:List Str:=["solids","one","other","cells","cell","first","second"]
theorem sP:cB B3 ["solids","one","other"] (aW yV):=cO rfl (by decide +kernel)
def A9:aA->Option aK:=
  (aM (bI 3 (aO sI (aD (eV 1) (aD (eV 2) aG))))
  (aM (dW (bO (qK (eV 3) qP (oE (mU lI (eC (.int 1)))))) (bC 4) (cE (eB (aE (cX false) (eV 4) (eV 0))) (bK (eC (.bool false))) cM))
  (aM (dW (bO (aO pF (aD (eV 3) aG))) (j1 2 (fS (bC 5) (fS (bC 6) j0))) (cE (gS (eB (aE (cX false) (eV 5) (eV 0))) (eB (aE (cX false) (eV 6) (eV 0)))) (bK (eC (.bool false))) cM))
  (bK (eC (.bool true))))))
def j2:List D->Option D:=cF 7 A9
def xI:List Str:=["ground","cell"]
theorem Lw:cB xI ["ground","cell"] (aW t9):=cO rfl (by decide +kernel)
def Dd:List Str:=["word","cell","ground"]
theorem P2:Dd.Nodup:=by decide +kernel
def Gk:aA->Option aK:=
  (bK (bX (bW (Cz kD) (bC 0) (eB (aE (cX false) (aO pE (aD (eV 1) (aD (eV 0) aG))) (eV 2))) (dS (aD (eV 0) (aD (aO pE (aD (eV 1) (aD (eV 0) aG))) aG))) [none,some 1,some 0])))
def pJ:List D->Option D:=cF 2 Gk
def BY:List Str:=["_law_script","_law_k","_law_many","_law_cell_here"]
theorem Bo:cB BY ["_law_script","_law_k","_law_many"] (aW yR):=cO rfl (by decide +kernel)
def D1:aA->Option aK:=
  (aM (bI 3 (aE iH (aE cL (aE dG (aE iH (aO sF (aD (eV 0) (aD (eV 1) aG))) (eC (.int 2147483563))) (eC (.int 69069))) (aE dG (eC (.int 104723)) (aE cL (eV 1) (eC (.int 1))))) (eC (.int 2147483563))))
  (aM (bI 3 (aE iH (aE cL (aE dG (eV 3) (eV 3)) (aE k9 (eV 3) (eC (.int 3)))) (eC (.int 2147483399))))
  (bK (aE iH (aE k9 (aE iH (aE cL (aE dG (eV 3) (eV 3)) (aE k9 (eV 3) (eC (.int 7)))) (eC (.int 2147483647))) (eC (.int 11))) (eV 2)))))
def gX:List D->Option D:=cF 4 D1
def xM:List Str:=["_law_floor_here"]
theorem LA:cB xM ["_law_floor_here"] (aW uD):=cO rfl (by decide +kernel)
def Dh:List Str:=["_law_cell_here","_law_floor_here"]
theorem P6:Dh.Nodup:=by decide +kernel
def D3:aA->Option aK:=
  (bK (bX (bW (bO (aO sG (aD (eV 0) aG))) (bC 0) (eB (aE (fW true) (eV 0) (aE bH (eV 1) (eC (.int 2))))) (eV 0) [none,some 0])))
def pD:List D->Option D:=cF 1 D3
def B6:List Str:=["floor","thing"]
theorem LF:cB B6 ["floor","thing"] (aW yY):=cO rfl (by decide +kernel)
def FU:aA->Option aK:=
  (aM (cE (lJ (eB (aO sM (aD (eV 1) aG)))) (bK (eC (.bool false))) cM)
  (bK (kN (uU qH mT (eC (.int 0)) (aE bH (eV 1) (eC (.int 0))) (aE bH (eV 0) (eC (.int 0)))) (uU qH mT (eC (.int 0)) (aE bH (eV 1) (eC (.int 1))) (aE bH (eV 0) (eC (.int 1)))))))
def sK:List D->Option D:=cF 2 FU
def BS:List Str:=["solids","one","other"]
theorem Ls:cB BS ["solids","one","other"] (aW yL):=cO rfl (by decide +kernel)
def Gi:aA->Option aK:=
  (bK (kN (aE (cX true) (eV 2) (eV 0)) (aO j2 (aD (eV 0) (aD (eV 1) (aD (eV 2) aG))))))
def rF:List D->Option D:=cF 3 Gi
def BZ:List Str:=["ground","start","ways","reached","farther","cell","word","there"]
theorem mH:cB BZ ["ground","start"] (aW yS):=cO rfl (by decide +kernel)
def Gm:aA->Option aK:=
  (aM (Bn 2 (eV 1) (eC (.str "")))
  (aM (bI 3 (dM (aD (eV 1) aG)))
  (aM (gB (eB (aE bR (eV 3) (dM aG))) (aM (jX 4 aG)
  (aM (dW (bO (eV 3)) (bC 5) (dW (bO (aO pJ (aD (eV 0) (aD (eV 5) aG)))) (j1 2 (fS (bC 6) (fS (bC 7) j0))) (cE (eB (aE (cX true) (eV 7) (eV 2))) (aM (lV 2 (eV 7) (aE nY (j5 2 (eV 5)) (eV 6)))
  (jW 4 (eV 7))) cM)))
  (oP 4 (bI 3 (eV 4))))) 900)
  (bK (eV 2)))))
def kZ:List D->Option D:=cF 8 Gm
def n5:List Str:=["floor","start","solids","chains","left","reached","farther","cell","found"]
theorem kC:cB n5 ["floor","start"] (aW m6):=cO rfl (by decide +kernel)
def DM:List Str:=["cell","start"]
theorem PV:DM.Nodup:=by decide +kernel
def DN:List Str:=["there","solids","cell"]
theorem PX:DN.Nodup:=by decide +kernel
def DP:List Str:=["there","chains","cell"]
theorem PY:DP.Nodup:=by decide +kernel
def C9:List Str:=["there","chains"]
theorem PZ:C9.Nodup:=by decide +kernel
def FS:aA->Option aK:=
  (aM (bI 2 (aO eX (aD (aE bH (eV 0) (eC (.int 2))) aG)))
  (aM (Bn 3 (eV 1) (dM (aD (eV 1) aG)))
  (aM (bI 4 (bX (bW (bO (aO dO (aD (eV 0) aG))) (bC 0) (eB (aE bR (eV 0) (eV 1))) (eV 0) [none,some 1])))
  (aM (bI 5 (dM (aD (eV 1) aG)))
  (aM (gB (eB (aE bR (eV 5) (dM aG))) (aM (jX 6 aG)
  (aM (dW (bO (eV 5)) (bC 7) (aM (bI 8 (bX (bW (bO (eV 4)) (bC 0) (eB (aO j2 (aD (eV 1) (aD (eV 2) (aD (eV 0) aG))))) (eV 0) [none,some 2,some 7])))
  (aM (oQ 3 (aD (bX (bW (bO (eV 8)) (bC 0) eT (dS (aD (eV 0) (aD (aE cL (aE kJ (eV 1) (eV 2)) (dM (aD (eV 0) aG))) aG))) [none,some 3,some 7])) aG))
  (aM (pY 4 3 (bX (bW (bO (eV 4)) (bC 0) (eB (aE (cX true) (eV 0) (eV 1))) (eV 0) [none,some 3])))
  (lU 6 (eV 8))))))
  (oP 6 (bI 5 (eV 6))))) 900)
  (bK (eV 3)))))))
def lZ:List D->Option D:=cF 9 FS
def xL:List Str:=["_law_script","_law_at","_law_most","_law_wide","_law_high","_law_rate","_law_shuts","_law_x"]
theorem pZ:cB xL ["_law_script","_law_at","_law_most"] (aW uC):=cO rfl (by decide +kernel)
def Dg:List Str:=["_law_y","_law_x","_law_script","_law_rate","_law_at"]
theorem P5:Dg.Nodup:=by decide +kernel
def A2:aA->Option aK:=
  (aM (bI 3 (aE cL (eC (.int 1)) (aO gX (aD (eV 0) (aD (eV 1) (aD (eV 2) aG))))))
  (aM (bI 4 (aE cL (eC (.int 1)) (aO gX (aD (eV 0) (aD (aE cL (eV 1) (eC (.int 1))) (aD (eV 2) aG))))))
  (aM (bI 5 (aE bH (dM (aD (eC (.int 2)) (aD (eC (.int 3)) (aD (eC (.int 3)) (aD (eC (.int 5)) (aD (eC (.int 9)) aG)))))) (aO gX (aD (eV 0) (aD (aE cL (eV 1) (eC (.int 2))) (aD (eC (.int 5)) aG))))))
  (aM (jX 6 aG)
  (aM (dW (iM (aD (eV 3) aG)) (bC 7) (lU 6 (bX (bW (iM (aD (eV 4) aG)) (bC 0) (eB (aE iG (aO gX (aD (eV 2) (aD (aE cL (aE cL (aE cL (eV 4) (eC (.int 3))) (aE dG (eC (.int 8)) (eV 1))) (eV 0)) (aD (eV 3) aG)))) (eC (.int 0)))) (dS (aD (eV 1) (aD (eV 0) aG))) [none,some 7,some 0,some 5,some 1]))))
  (bK (dS (aD (eV 3) (aD (eV 4) (aD (aO vV (aD (eV 6) aG)) aG))))))))))
def pA:List D->Option D:=cF 8 A2
def BP:List Str:=["floor","cell"]
theorem Lp:cB BP ["floor","cell"] (aW yI):=cO rfl (by decide +kernel)
def Ge:aA->Option aK:=
  (cE (lJ (eB (aO sK (aD (eV 0) (aD (eV 1) aG))))) (fun _=>none) cM)
def l4:List D->Option D:=cF 2 Ge
def B4:List Str:=["floor","cell"]
theorem LD:cB B4 ["floor","cell"] (aW yW):=cO rfl (by decide +kernel)
def FV:aA->Option aK:=
  (aM (jI (aO l4 (aD (eV 0) (aD (eV 1) aG))))
  (bK (aE (fW false) (eV 1) (aE bH (eV 0) (eC (.int 2))))))
def sL:List D->Option D:=cF 2 FV
def Cb:List Str:=["floor","one","other"]
theorem LK:cB Cb ["floor","one","other"] (aW y8):=cO rfl (by decide +kernel)
def Gj:aA->Option aK:=
  (aM (jI (aO l4 (aD (eV 0) (aD (eV 1) aG))))
  (aM (jI (aO l4 (aD (eV 0) (aD (eV 2) aG))))
  (bK (aO rF (aD (aO eX (aD (aE bH (eV 0) (eC (.int 2))) aG)) (aD (eV 1) (aD (eV 2) aG)))))))
def pI:List D->Option D:=cF 3 Gj
def tK:List Str:=["cells","reached_from","groups","left","reached"]
theorem sQ:cB tK ["cells","reached_from"] (aW qQ):=cO rfl (by decide +kernel)
def Dl:List Str:=["cell","reached"]
theorem O8:Dl.Nodup:=by decide +kernel
def Dm:List Str:=["cell","reached"]
theorem O9:Dm.Nodup:=by decide +kernel
def nD(R:V->(JW->Prop)->Hp->Prop)(a:List D->Option D):aA->Option aK:=
  (aM (jX 2 aG)
  (aM (bI 3 (eV 0))
  (aM (gB (eB (aE bR (eV 3) (dM aG))) (aM (bI 4 (o8 1 R a (aE bH (eV 3) (eC (.int 0)))))
  (aM (jW 2 (bX (bW (bO (eV 3)) (bC 0) (eB (aE (cX false) (eV 0) (eV 1))) (eV 0) [none,some 4])))
  (bI 3 (bX (bW (bO (eV 3)) (bC 0) (eB (aE (cX true) (eV 0) (eV 1))) (eV 0) [none,some 4]))))) 900)
  (bK (eV 2)))))
def tE:Prop:=∀(R:V->(JW->Prop)->Hp->Prop) (Gf:List D->Option D) (d dr:D),n4 Gf d=some dr->nD R Gf (nN 5 d R)=some (.rt dr)
def BQ:List Str:=["floor","cell"]
theorem Lq:cB BQ ["floor","cell"] (aW yJ):=cO rfl (by decide +kernel)
def Gd:aA->Option aK:=
  (cE (eB (aO sL (aD (eV 0) (aD (eV 1) aG)))) (fun _=>none) cM)
def jK:List D->Option D:=cF 2 Gd
def B9:List Str:=["floor","ground"]
theorem G0:cB B9 ["floor"] (aW y4):=cO rfl (by decide +kernel)
def Gh:aA->Option aK:=
  (aM (bI 1 (aO eX (aD (aO dO (aD (eV 0) aG)) aG)))
  (bK (rT 1 n4 (aO dO (aD (eV 0) aG)) (aO kZ (aD (eV 1) (aD (eV 0) aG))))))
def sN:List D->Option D:=cF 2 Gh
def Ca:List Str:=["floor"]
theorem LJ:cB Ca ["floor"] (aW y7):=cO rfl (by decide +kernel)
def FT:aA->Option aK:=
  (bK (rT 0 n4 (aO dO (aD (eV 0) aG)) (aO lZ (aD (eV 1) (aD (eV 0) aG)))))
def sJ:List D->Option D:=cF 1 FT
def BU:List Str:=["_law_floor_here","_law_chain_here","_law_at","_law_cell_here","_law_to","_law_there"]
theorem sO:cB BU ["_law_floor_here","_law_chain_here"] (aW yN):=cO rfl (by decide +kernel)
def D2:aA->Option aK:=
  (aM (dW (pM (aD (eV 1) aG)) (j1 2 (fS (bC 2) (fS (bC 3) j0))) (dW (pM (aD (eV 1) aG)) (j1 2 (fS (bC 4) (fS (bC 5) j0))) (cE (eB (aE bR (aO pI (aD (eV 0) (aD (eV 3) (aD (eV 5) aG)))) (aE mT (aO oC (aD (aE qI (eV 2) (eV 4)) aG)) (eC (.int 2))))) (bK (eC (.bool false))) cM)))
  (bK (aE iG (D9 (qJ (aD (eV 1) aG))) (aO eH (aD (eV 1) aG)))))
def pC:List D->Option D:=cF 6 D2
def xO:List Str:=["floor","cell","solids"]
theorem GY:cB xO ["floor","cell"] (aW uF):=cO rfl (by decide +kernel)
def Dj:List Str:=["other","solids","cell"]
theorem P8:Dj.Nodup:=by decide +kernel
def A8:aA->Option aK:=
  (aM (jI (aO jK (aD (eV 0) (aD (eV 1) aG))))
  (aM (bI 2 (aO eX (aD (aE bH (eV 0) (eC (.int 2))) aG)))
  (bK (bX (bW (bO (aO dO (aD (eV 0) aG))) (bC 0) (eB (aO j2 (aD (eV 1) (aD (eV 2) (aD (eV 0) aG))))) (eV 0) [none,some 2,some 1])))))
def pG:List D->Option D:=cF 3 A8
def B8:List Str:=["floor","one","other","chains"]
theorem GZ:cB B8 ["floor","one","other"] (aW y3):=cO rfl (by decide +kernel)
def Gg:aA->Option aK:=
  (aM (jI (aO jK (aD (eV 0) (aD (eV 1) aG))))
  (aM (jI (aO jK (aD (eV 0) (aD (eV 2) aG))))
  (aM (bI 3 (aO lZ (aD (eV 0) (aD (eV 1) aG))))
  (aM (cE (eB (aE (cX true) (eV 2) (eV 3))) (pX "NoWay" (lO [mY,(mZ (eV 1)),mY,(mZ (eV 2))])) cM)
  (bK (aE kJ (eV 3) (eV 2)))))))
def nQ:List D->Option R:=lL 4 Gg
def DH:List D->Option D:=qW nQ
def xH:List Str:=["floor","cells","times","cell","other"]
theorem wS:cB xH ["floor","cells"] (aW t8):=cO rfl (by decide +kernel)
def Dc:List Str:=["cell"]
theorem P1:Dc.Nodup:=by decide +kernel
def Bf:aA->Option aK:=
  (aM (wP 2 (aD (bX (bW (bO (aO dO (aD (eV 0) aG))) (bC 0) eT (dS (aD (eV 0) (aD (eC (.int 0)) aG))) [none])) aG))
  (aM (dW (bO (eV 1)) (bC 3) (dW (bO (aO pG (aD (eV 0) (aD (eV 3) aG)))) (bC 4) (lV 2 (eV 4) (aE cL (j5 2 (eV 4)) (eC (.int 1))))))
  (bK (eV 2))))
def rH:List D->Option D:=cF 5 Bf
def BV:List Str:=["_law_floor_here","_law_one","_law_other"]
theorem Lu:cB BV ["_law_floor_here","_law_one","_law_other"] (aW yO):=cO rfl (by decide +kernel)
def A1:aA->Option aK:=
  (rE ["NoWay"] (rD (sW nQ (aD (eV 0) (aD (eV 1) (aD (eV 2) aG))))) (bK (eC .none)))
def kY:List D->Option D:=cF 3 A1
def xG:List Str:=["floor","cells","times"]
theorem GX:cB xG ["floor","cells"] (aW t7):=cO rfl (by decide +kernel)
def Db:List Str:=["cell","times"]
theorem P0:Db.Nodup:=by decide +kernel
def Be:aA->Option aK:=
  (aM (bI 2 (aO rH (aD (eV 0) (aD (eV 1) aG))))
  (bK (bX (bW (tQ (eV 2)) (bC 0) (eB (aE mS (aE kJ (eV 1) (eV 0)) (eC (.int 0)))) (eV 0) [none,some 2]))))
def rG:List D->Option D:=cF 3 Be
def xJ:List Str:=["floor","watchers","one","other","watched","hidden","ways"]
theorem wT:cB xJ ["floor","watchers","one","other"] (aW uA):=cO rfl (by decide +kernel)
def De:List Str:=["cell","watched"]
theorem P3:De.Nodup:=by decide +kernel
def u8:aA->Option aK:=
  (aM (jI (aO jK (aD (eV 0) (aD (eV 2) aG))))
  (aM (jI (aO jK (aD (eV 0) (aD (eV 3) aG))))
  (aM (bI 4 (aO eX (aD (aO rG (aD (eV 0) (aD (eV 1) aG))) aG)))
  (aM (bI 5 (aO eX (aD (bX (bW (bO (aO dO (aD (eV 0) aG))) (bC 0) (eB (aE (cX true) (eV 0) (eV 1))) (eV 0) [none,some 4])) aG)))
  (aM (cE (eB (aE (cX true) (eV 2) (eV 5))) (pX "NoWay" (lO [(mZ (eV 2)),mY])) cM)
  (aM (bI 6 (aO kZ (aD (eV 5) (aD (eV 2) aG))))
  (aM (cE (eB (aE (cX true) (eV 3) (eV 6))) (pX "NoWay" (lO [mY,(mZ (eV 3))])) cM)
  (bK (aE kJ (eV 6) (eV 3))))))))))
def nP:List D->Option R:=lL 7 u8
def DF:List D->Option D:=qW nP
def BX:List Str:=["_law_floor_here","_law_one","_law_other"]
theorem Ly:cB BX ["_law_floor_here","_law_one","_law_other"] (aW yQ):=cO rfl (by decide +kernel)
def A3:aA->Option aK:=
  (rE ["NoWay"] (rD (BE rP (sW nP (aD (eV 0) (aD (dM aG) (aD (eV 1) (aD (eV 2) aG))))))) (bK (eC .none)))
def nR:List D->Option D:=cF 3 A3
def n6:List Str:=["_law_script","_law_floor_here","_law_cells_here","_law_all_rooms","_law_all_halls","_law_parts","_law_every","_law_part","_law_one","_law_other","_law_chain_here","_law_steps_here","_law_is_in_room","_law_back"]
theorem g7:cB n6 ["_law_script"] (aW m7):=cO rfl (by decide +kernel)
def Dn:List Str:=["_law_part"]
theorem Pa:Dn.Nodup:=by decide +kernel
def Do:List Str:=["_law_part"]
theorem Pb:Do.Nodup:=by decide +kernel
def Dp:List Str:=["_law_k","_law_cells_here","_law_script"]
theorem Pc:Dp.Nodup:=by decide +kernel
def Dq:List Str:=["_law_room","_law_one","_law_other"]
theorem Pe:Dq.Nodup:=by decide +kernel
def xX:aA->Option aK:=
  (aM (bI 1 (aO pA (aD (eV 0) (aD (eC (.int 0)) (aD (eC (.int 4)) aG)))))
  (aM (bI 2 (aO pD (aD (eV 1) aG)))
  (aM (bI 3 (aO sN (aD (eV 1) aG)))
  (aM (bI 4 (aO sJ (aD (eV 1) aG)))
  (aM (dW (bO (dS (aD (eV 3) (aD (eV 4) aG)))) (bC 5) (aM (bI 6 (dM aG))
  (aM (dW (bO (eV 5)) (bC 7) (bI 6 (aE cL (eV 6) (eV 7))))
  (cE (fX (eB (aE bR (aO jD (aD (eV 6) aG)) (eV 2))) (eB (aE bR (bX (bW (bO (eV 5)) (bC 0) eT (aE bH (eV 0) (eC (.int 0))) [none])) (aO jD (aD (bX (bW (bO (eV 5)) (bC 0) eT (aO o0 (aD (eV 0) aG)) [none])) aG))))) (bK (eC (.bool false))) cM))))
  (aM (cE (eB (aE bR (eV 4) (eV 3))) (bK (eC (.bool false))) cM)
  (aM (cE (eB (aE iG (eV 2) (dM aG))) (bK (eC (.bool true))) cM)
  (aM (bI 8 (aE bH (eV 2) (aO gX (aD (eV 0) (aD (eC (.int 60)) (aD (aO eH (aD (eV 2) aG)) aG))))))
  (aM (dW (bO (bX (bW (iM (aD (eC (.int 4)) aG)) (bC 0) eT (aE bH (eV 1) (aO gX (aD (eV 2) (aD (aE cL (eC (.int 61)) (eV 0)) (aD (aO eH (aD (eV 1) aG)) aG))))) [none,some 2,some 0]))) (bC 9) (aM (bI 10 (aO kY (aD (eV 1) (aD (eV 8) (aD (eV 9) aG)))))
  (aM (bI 11 (aO nR (aD (eV 1) (aD (eV 8) (aD (eV 9) aG)))))
  (aM (bI 12 (aE bR (bX (bW (bO (eV 3)) (bC 0) (gS (eB (aE (fW false) (eV 1) (eV 0))) (eB (aE (fW false) (eV 2) (eV 0)))) (eV 0) [none,some 8,some 9])) (dM aG)))
  (aM (cE (fX (eB (aE bR (aE hY (eV 10) (eC .none)) (eV 12))) (eB (aE bR (aE hY (eV 11) (eC .none)) (eV 12)))) (bK (eC (.bool false))) cM)
  (cE (eB (aE hY (eV 10) (eC .none))) (aM (bI 13 (aO kY (aD (eV 1) (aD (eV 9) (aD (eV 8) aG)))))
  (aM (cE (fX (eB (aE bR (aE bH (eV 10) (eC (.int 0))) (eV 8))) (fX (eB (aE bR (aE bH (eV 10) (mU lI (eC (.int 1)))) (eV 9))) (fX (eB (aE tN (eV 13) (eC .none))) (eB (aE bR (aO eH (aD (eV 13) aG)) (aO eH (aD (eV 10) aG))))))) (bK (eC (.bool false))) cM)
  (cE (fX (lJ (eB (aO pC (aD (eV 1) (aD (eV 10) aG))))) (gS (eB (aE hY (eV 11) (eC .none))) (eB (aE mS (aO eH (aD (eV 10) aG)) (aE cL (eV 11) (eC (.int 1))))))) (bK (eC (.bool false))) cM))) cM))))))
  (bK (eC (.bool true))))))))))))
def mK:List D->Option D:=cF 14 xX
structure xS(K:PySem.W.Frag)(mg:Str->Option YP)(a:Nat->JW)(d:Nat->Zg)(w:J1)(ta:Nat->JW)(e_NoWay:JW)(tc0 tc1:JW):Prop where
 F_ql:Fo K mg "is_whole" yU ["thing"] (a 0) (d 0)
 F_qk:Fo K mg "all_cells" uE ["floor"] (a 1) (d 1)
 F_qs:Fo K mg "marked" uG ["things"] (a 2) (d 2)
 F_qp:Fo K mg "crossed" yX ["one","other"] (a 3) (d 3)
 F_q4:Fo K mg "couples_beside" yM ["cells"] (a 4) (d 4)
 F_qr:Fo K mg "beside" yZ ["cell","word"] (a 5) (d 5)
 F_qj:Fo K mg "_law_cell" yT ["_law_script","_law_k"] (a 6) (d 6)
 F_qe:Fo K mg "_law_cells" uB ["_law_floor_here"] (a 7) (d 7)
 F_q2:Fo K mg "is_whole_couple" yK ["thing"] (a 8) (d 8)
 F_qb:Fo K mg "open_cells" yP ["floor"] (a 9) (d 9)
 F_qm:Fo K mg "lets_see" yV ["solids","one","other"] (a 10) (d 10)
 F_qa:Fo K mg "steps_over" t9 ["ground","cell"] (a 11) (d 11)
 F_qf:Fo K mg "_law_drawn" yR ["_law_script","_law_k","_law_many"] (a 12) (d 12)
 F_qh:Fo K mg "_law_open" uD ["_law_floor_here"] (a 13) (d 13)
 F_qq:Fo K mg "is_cell" yY ["floor","thing"] (a 14) (d 14)
 F_q3:Fo K mg "see_each_other" yL ["solids","one","other"] (a 15) (d 15)
 F_qi:Fo K mg "ways_over" yS ["ground","start"] (a 16) (d 16)
 F_q6:Fo K mg "chains_from" m6 ["floor","start"] (a 17) (d 17)
 F_qg:Fo K mg "_law_floor" uC ["_law_script","_law_at","_law_most"] (a 18) (d 18)
 F_q0:Fo K mg "refuse_off_floor" yI ["floor","cell"] (a 19) (d 19)
 F_qn:Fo K mg "is_solid" yW ["floor","cell"] (a 20) (d 20)
 F_qx:Fo K mg "sees" y8 ["floor","one","other"] (a 21) (d 21)
 F_qt:Fo K mg "parted" qQ ["cells","reached_from"] (a 22) (d 22)
 F_q1:Fo K mg "refuse_not_open" yJ ["floor","cell"] (a 23) (d 23)
 F_qv:Fo K mg "rooms" y4 ["floor"] (a 24) (d 24)
 F_qw:Fo K mg "halls" y7 ["floor"] (a 25) (d 25)
 F_q5:Fo K mg "_law_is_chain" yN ["_law_floor_here","_law_chain_here"] (a 26) (d 26)
 F_qo:Fo K mg "field_of" uF ["floor","cell"] (a 27) (d 27)
 F_qu:Fo K mg "relay" y3 ["floor","one","other"] (a 28) (d 28)
 F_q9:Fo K mg "times_seen" t8 ["floor","cells"] (a 29) (d 29)
 F_q8:Fo K mg "_law_chain" yO ["_law_floor_here","_law_one","_law_other"] (a 30) (d 30)
 F_q7:Fo K mg "seen_by_any" t7 ["floor","cells"] (a 31) (d 31)
 F_qd:Fo K mg "hidden_way" uA ["floor","watchers","one","other"] (a 32) (d 32)
 F_qc:Fo K mg "_law_steps" yQ ["_law_floor_here","_law_one","_law_other"] (a 33) (d 33)
 F_qy:Fo K mg "law" m7 ["_law_script"] (a 34) (d 34)
 z_isinstance:mg "isinstance"=none
 z_int:mg "int"=none
 z_bool:mg "bool"=none
 z_range:mg "range"=none
 z_dict:mg "dict"=none
 z_abs:mg "abs"=none
 z_zip:mg "zip"=none
 z_sorted:mg "sorted"=none
 z_tuple:mg "tuple"=none
 z_len:mg "len"=none
 z_set:mg "set"=none
 z_enumerate:mg "enumerate"=none
 z_min:mg "min"=none
 tm_STEPS:mg "STEPS"=some (.ref (ta 0))
 tt_STEPS:n9 K w (ta 0) kD
 tl_STEPS:(ta 0 == Zl)=false
 cde0:(d 24).code=.ref tc0
 cdh0:PySem.W.codeHdIn K tc0 kX=true
 cde1:(d 25).code=.ref tc1
 cdh1:PySem.W.codeHdIn K tc1 lA=true
 xn_NoWay:PySem.W.nsIn K J2 "NoWay"=some (some (.ref e_NoWay))
 xe_NoWay:PySem.W.excIn K e_NoWay [.type "ValueError",.type "Exception",.type "BaseException",.type "object"] "ValueError.__new__"=true
 xm_NoWay:mg "NoWay"=some (.ref e_NoWay)
 xt_NoWay_NoWay:PySem.W.subIn K (.ref e_NoWay) (.ref e_NoWay)=some true
 xb_NoWay:PySem.W.subIn K (.ref e_NoWay) (.type "BaseException")=some true
section
variable {P:JZ}{w:J1}{K:PySem.W.Frag}{mg:Str->Option YP}{base:Heap}{a:Nat->JW}{d:Nat->Zg}{ta:Nat->JW}{e_NoWay:JW}{tc0 tc1:JW}(T:xS K mg a d w ta e_NoWay tc0 tc1)
include T
theorem KM:aN P w K mg base aQ 1 (a 0) (d 0) ["thing"] (aY K 1 pH):=by
 refine dF (g:=FW) (G:=pH) (N:=B2) (k:=0) rfl rfl rfl T.F_ql.F LC fun c A b s H E e=>?_
 exact(bB (bY (vW (Aa (T:="int") (.inr (.inr (.inl rfl))) rfl T.z_isinstance rfl T.z_int boot_int (by decide) (aC 0)) (vY (NS (Aa (T:="bool") (.inr (.inr (.inr (.inl rfl)))) rfl T.z_isinstance rfl T.z_bool boot_bool (by decide) (aC 0)))))))
theorem KL:aN P w K mg base aQ 1 (a 1) (d 1) ["floor"] (aY K 1 sH):=by
 refine dF (g:=A4) (G:=sH) (N:=xN) (k:=0) rfl rfl rfl T.F_qk.F Bp fun c A b s H E e=>?_
 exact(aX (nB (i:=1) Bp.nd aL)
  (aX (gZ Q1 rfl (o6 rfl T.z_range (aF (bP bS (aC 0) aS) aL rfl)) (cI (i:=2) Bp.nd) (bB (Af (i:=1) (gO rfl (fL (N':=Di) (inner:=[none,some 2]) (aW uE) xN rfl rfl (by decide +kernel)) (fN 0) (o6 rfl T.z_range (aF (bP bS (aC 0) aS) aL rfl)) (fun _ _ _ _ _=>(cI (i:=0) P7)) (fun _ _ _ _ _=>l7) (fun _ _ _ _ _=>(iI (aF (aC 1) (aF (aC 0) aL rfl) rfl)))))))
  (bB (bY (aC 1)))))
theorem KT:aN P w K mg base aQ 1 (a 2) (d 2) ["things"] (aY K 1 eX):=by
 refine dF (g:=FY) (G:=eX) (N:=xP) (k:=0) rfl rfl rfl T.F_qs.F LH fun e A b s H E c=>?_
 exact(bB (bY (zZ (Mu rfl (iK c)) rfl T.z_dict DC.boot_dict (aF (gO rfl (fL (N':=Dk) (inner:=[none]) (aW uG) xP rfl rfl (by decide +kernel)) (fN 0) (dZ (aC 0)) (fun _ _ _ _ _=>(cI (i:=0) P9)) (fun _ _ _ _ _=>l7) (fun _ _ _ _ _=>(iI (aF (aC 0) (aF hZ aL rfl) rfl)))) aL rfl))))
theorem KQ:aN P w K mg base aQ 1 (a 3) (d 3) ["one","other"] (aY K 2 sI):=by
 refine dF (g:=A6) (G:=sI) (N:=B5) (k:=0) rfl rfl rfl T.F_qp.F iZ fun c A b s H E e=>?_
 exact(aX (cG (i:=2) iZ.nd (gN zS rfl T.z_abs boot_abs (aF (bM AL (bP bS (aC 1) aS) (bP bS (aC 0) aS)) aL rfl)))
  (aX (cG (i:=3) iZ.nd (gN zS rfl T.z_abs boot_abs (aF (bM AL (bP bS (aC 1) aS) (bP bS (aC 0) aS)) aL rfl)))
  (aX (cG (i:=4) iZ.nd (EK (bZ uT (bP bS (aC 1) aS) (bP bS (aC 0) aS) (cR _)) aS (vZ v8 aS)))
  (aX (cG (i:=5) iZ.nd (EK (bZ uT (bP bS (aC 1) aS) (bP bS (aC 0) aS) (cR _)) aS (vZ v8 aS)))
  (aX (cG (i:=6) iZ.nd aS)
  (aX (cG (i:=7) iZ.nd aS)
  (aX (nB (i:=8) iZ.nd (aF (aC 0) aL rfl))
  (aX (v3 900 Q1 (jR (l8 (bZ qZ (aC 6) (aC 2) (cR _)) (o7 (bZ qZ (aC 7) (aC 3) (cR _))))) (aX (cG (i:=9) iZ.nd (bM iD (bM dP (bM iD aS (aC 6)) aS) (aC 3)))
  (aX (cG (i:=10) iZ.nd (bM iD (bM dP (bM iD aS (aC 7)) aS) (aC 2)))
  (aX (eS (bZ wB (aC 9) (aC 10) (cR _)) (bB (cG (i:=6) iZ.nd (bM dP (aC 6) aS))) eU)
  (aX (eS (bZ wB (aC 10) (aC 9) (cR _)) (bB (cG (i:=7) iZ.nd (bM dP (aC 7) aS))) eU)
  (bB (v2 (i:=8) (iI (aF (bM dP (bP bS (aC 0) aS) (bM iD (aC 4) (aC 6))) (aF (bM dP (bP bS (aC 0) aS) (bM iD (aC 5) (aC 7))) aL rfl) rfl)))))))))
  (bB (bY (aC 8)))))))))))
theorem Kt:aN P w K mg base aQ 1 (a 4) (d 4) ["cells"] (aY K 1 pF):=by
 refine dF (g:=A5) (G:=pF) (N:=BT) (k:=0) rfl rfl rfl T.F_q4.F wR fun e A b s H E c=>?_
 exact(aX (nB (i:=1) wR.nd aL)
  (aX (gZ Q1 rfl (M8 rfl T.z_zip (aF (aC 0) (aF (EN (aC 0) (EV aS) EU) aL rfl) rfl)) (rR rfl (j4 (cI (i:=2) wR.nd) (j4 (cI (i:=3) wR.nd) rS))) (bB (eS (jR (v5 (bZ (gH (dY c)) (bP bS (aC 2) aS) (bP bS (aC 3) aS) (cR _)) (v6 (bZ (gH (dY c)) (bP bS (aC 2) aS) (bP bS (aC 3) aS) (cR _))))) (bB (v2 (i:=1) (zZ C4 rfl T.z_tuple boot_tuple (aF (gN (zU (iK c)) rfl T.z_sorted boot_sorted (aF (@iA _ _ _ _ (aF (iI (aF (bP bS (aC 2) aS) (aF (bP bS (aC 3) aS) aL rfl) rfl)) (aF (iI (aF (bP bS (aC 3) aS) (aF (bP bS (aC 2) aS) aL rfl) rfl)) aL rfl) rfl)) aL rfl)) aL rfl)))) eU)))
  (bB (bY (aC 1)))))
theorem KS:aN P w K mg base aQ 1 (a 5) (d 5) ["cell","word"] (aY K 2 pE):=by
 refine dF (g:=FQ) (G:=pE) (N:=B7) (k:=0) rfl rfl rfl T.F_qr.F LG fun c A b s H E e=>?_
 exact(bB (bY (iI (aF (bM dP (bP bS (aC 0) aS) (bP bS (EO rfl T.tm_STEPS T.tt_STEPS (aC 1)) aS)) (aF (bM dP (bP bS (aC 0) aS) (bP bS (EO rfl T.tm_STEPS T.tt_STEPS (aC 1)) aS)) aL rfl) rfl))))
theorem KJ:aN P w K mg base aQ 1 (a 6) (d 6) ["_law_script","_law_k"] (aY K 2 sF):=by
 refine dF (g:=DZ) (G:=sF) (N:=B0) (k:=0) rfl rfl rfl T.F_qj.F LB fun e A b s H E c=>?_
 exact(aX (eS (bZ (uS (dY c)) (aC 0) (@iA _ _ _ _ aL) (cR _)) (bB (bY (bM iD aS (aC 1)))) eU)
  (bB (bY (bM dP (bP bS (aC 0) (bM nH (aC 1) (gN k4 rfl T.z_len PySem.boot_len (aF (aC 0) aL rfl)))) (bM iD aS (bM sE (aC 1) (gN k4 rfl T.z_len PySem.boot_len (aF (aC 0) aL rfl))))))))
theorem KC:aN P w K mg base aQ 1 (a 7) (d 7) ["_law_floor_here"] (aY K 1 sG):=by
 refine dF (g:=D0) (G:=sG) (N:=xK) (k:=0) rfl rfl rfl T.F_qe.F Lz fun c A b s H E e=>?_
 exact(bB (bY (gO rfl (fL (N':=Df) (inner:=[none,some 0]) (aW uB) xK rfl rfl (by decide +kernel)) (fN 0) (o6 rfl T.z_range (aF (bM iD (bP bS (aC 0) aS) (bP bS (aC 0) aS)) aL rfl)) (fun _ _ _ _ _=>(cI (i:=0) P4)) (fun _ _ _ _ _=>l7) (fun _ _ _ _ _=>(iI (aF (bM sE (aC 0) (bP bS (aC 1) aS)) (aF (bM nH (aC 0) (bP bS (aC 1) aS)) aL rfl) rfl))))))
theorem Kr(b:aN P w K mg base aQ 1 (a 0) (d 0) ["thing"] (aY K 1 pH)):aN P w K mg base aQ 2 (a 8) (d 8) ["thing"] (aY K 1 sM):=by
 refine dF (g:=FX) (G:=sM) (N:=BR) (k:=1) rfl rfl rfl T.F_q2.F Lr fun f A c s H E e=>?_
 exact(aX (eS (jR (l8 (v4 (nC (Aa (T:="tuple") (.inr (.inl rfl)) rfl T.z_isinstance rfl T.z_tuple boot_tuple (by decide) (aC 0)))) (o7 (bZ (gH (dY e)) (gN k4 rfl T.z_len PySem.boot_len (aF (aC 0) aL rfl)) aS (cR _))))) (bB (bY hZ)) eU)
  (bB (bY (vW (bJ T.F_ql b e rfl (aF (bP bS (aC 0) aS) aL rfl) eJ) (vY (bJ T.F_ql b e rfl (aF (bP bS (aC 0) aS) aL rfl) eJ))))))
theorem KA(c:aN P w K mg base aQ 1 (a 1) (d 1) ["floor"] (aY K 1 sH)):aN P w K mg base aQ 2 (a 9) (d 9) ["floor"] (aY K 1 dO):=by
 refine dF (g:=Ga) (G:=dO) (N:=BW) (k:=1) rfl rfl rfl T.F_qb.F Lx fun f A e s H E b=>?_
 exact(bB (bY (NT rfl (iK b) rfl T.z_sorted boot_sorted (Nm rfl (iK b) (Ah rfl (dY b) rfl T.z_set boot_set (aF (bJ T.F_qk c b rfl (aF (aC 0) aL rfl) eJ) aL rfl)) (Ah rfl (dY b) rfl T.z_set boot_set (aF (bP bS (aC 0) aS) aL rfl))))))
theorem KN(c:aN P w K mg base aQ 1 (a 3) (d 3) ["one","other"] (aY K 2 sI))(e:aN P w K mg base aQ 1 (a 4) (d 4) ["cells"] (aY K 1 pF)):aN P w K mg base aQ 2 (a 10) (d 10) ["solids","one","other"] (aY K 3 j2):=by
 refine dF (g:=A9) (G:=j2) (N:=B3) (k:=1) rfl rfl rfl T.F_qm.F sP fun h A f s H E b=>?_
 exact(aX (cG (i:=3) sP.nd (bJ T.F_qp c b rfl (aF (aC 1) (aF (aC 2) aL rfl) rfl) dV))
  (aX (gZ Q1 rfl (dZ (EN (aC 3) EU (EV (vZ v8 aS)))) (cI (i:=4) sP.nd) (bB (eS (bZ (qY (dJ b)) (aC 4) (aC 0) (by with_unfolding_all rfl)) (bB (bY hZ)) eU)))
  (aX (gZ Q1 rfl (dZ (bJ T.F_q4 e b rfl (aF (aC 3) aL rfl) eJ)) (rR rfl (j4 (cI (i:=5) sP.nd) (j4 (cI (i:=6) sP.nd) rS))) (bB (eS (jR (v5 (bZ (qY (dJ b)) (aC 5) (aC 0) (by with_unfolding_all rfl)) (v6 (bZ (qY (dJ b)) (aC 6) (aC 0) (by with_unfolding_all rfl))))) (bB (bY hZ)) eU)))
  (bB (bY hZ)))))
theorem Kz(b:aN P w K mg base aQ 1 (a 5) (d 5) ["cell","word"] (aY K 2 pE)):aN P w K mg base aQ 2 (a 11) (d 11) ["ground","cell"] (aY K 2 pJ):=by
 refine dF (g:=Gk) (G:=pJ) (N:=xI) (k:=1) rfl rfl rfl T.F_qa.F Lw fun f A c s H E e=>?_
 exact(bB (bY (gO rfl (fL (N':=Dd) (inner:=[none,some 1,some 0]) (aW t9) xI rfl rfl (by decide +kernel)) (fN 0) (M7 rfl T.tm_STEPS T.tt_STEPS T.tl_STEPS) (fun _ _ _ _ _=>(cI (i:=0) P2)) (fun _ _ _ _ _=>(iV (bZ (qY (dJ e)) (bJ T.F_qr b e rfl (aF (aC 1) (aF (aC 0) aL rfl) rfl) dV) (aC 2) (by with_unfolding_all rfl)))) (fun _ _ _ _ _=>(iI (aF (aC 0) (aF (bJ T.F_qr b e rfl (aF (aC 1) (aF (aC 0) aL rfl) rfl) dV) aL rfl) rfl))))))
theorem KF(b:aN P w K mg base aQ 1 (a 6) (d 6) ["_law_script","_law_k"] (aY K 2 sF)):aN P w K mg base aQ 2 (a 12) (d 12) ["_law_script","_law_k","_law_many"] (aY K 3 gX):=by
 refine dF (g:=D1) (G:=gX) (N:=BY) (k:=1) rfl rfl rfl T.F_qf.F Bo fun f A c s H E e=>?_
 exact(aX (cG (i:=3) Bo.nd (bM nH (bM dP (bM iD (bM nH (bJ T.F_qj b e rfl (aF (aC 0) (aF (aC 1) aL rfl) rfl) dV) aS) aS) (bM iD aS (bM dP (aC 1) aS))) aS))
  (aX (cG (i:=3) Bo.nd (bM nH (bM dP (bM iD (aC 3) (aC 3)) (bM sE (aC 3) aS)) aS))
  (bB (bY (bM nH (bM sE (bM nH (bM dP (bM iD (aC 3) (aC 3)) (bM sE (aC 3) aS)) aS) aS) (aC 2))))))
theorem KH(b:aN P w K mg base aQ 1 (a 7) (d 7) ["_law_floor_here"] (aY K 1 sG)):aN P w K mg base aQ 2 (a 13) (d 13) ["_law_floor_here"] (aY K 1 pD):=by
 refine dF (g:=D3) (G:=pD) (N:=xM) (k:=1) rfl rfl rfl T.F_qh.F LA fun f A c s H E e=>?_
 exact(bB (bY (gO rfl (fL (N':=Dh) (inner:=[none,some 0]) (aW uD) xM rfl rfl (by decide +kernel)) (fN 0) (dZ (bJ T.F_qe b e rfl (aF (aC 0) aL rfl) eJ)) (fun _ _ _ _ _=>(cI (i:=0) P6)) (fun _ _ _ _ _=>(iV (bZ (AK (dJ e)) (aC 0) (bP bS (aC 1) aS) (by with_unfolding_all rfl)))) (fun _ _ _ _ _=>(aC 0)))))
theorem KR(b:aN P w K mg base aQ 2 (a 8) (d 8) ["thing"] (aY K 1 sM)):aN P w K mg base aQ 3 (a 14) (d 14) ["floor","thing"] (aY K 2 sK):=by
 refine dF (g:=FU) (G:=sK) (N:=B6) (k:=2) rfl rfl rfl T.F_qq.F LF fun f A c s H E e=>?_
 exact(aX (eS (v4 (nC (bJ T.F_q2 b e rfl (aF (aC 1) aL rfl) eJ))) (bB (bY hZ)) eU)
  (bB (bY (vW (EJ wB qZ aS (bP bS (aC 1) aS) (bP bS (aC 0) aS)) (vY (EJ wB qZ aS (bP bS (aC 1) aS) (bP bS (aC 0) aS)))))))
theorem Ks(b:aN P w K mg base aQ 2 (a 10) (d 10) ["solids","one","other"] (aY K 3 j2)):aN P w K mg base aQ 3 (a 15) (d 15) ["solids","one","other"] (aY K 3 rF):=by
 refine dF (g:=Gi) (G:=rF) (N:=BS) (k:=2) rfl rfl rfl T.F_q3.F Ls fun f A c s H E e=>?_
 exact(bB (bY (vW (nZ (mF (dJ e)) (aC 2) (aC 0) (by with_unfolding_all rfl)) (vY (bJ T.F_qm b e rfl (aF (aC 0) (aF (aC 1) (aF (aC 2) aL rfl) rfl) rfl) gM)))))
theorem KI(c:aN P w K mg base aQ 2 (a 11) (d 11) ["ground","cell"] (aY K 2 pJ)):aN P w K mg base aQ 3 (a 16) (d 16) ["ground","start"] (aY K 2 kZ):=by
 refine dF (g:=Gm) (G:=kZ) (N:=BZ) (k:=2) rfl rfl rfl T.F_qi.F mH fun f A e s H E b=>?_
 exact(aX (D4 (i:=2) mH.nd (dJ b) (aC 1) NU)
  (aX (cG (i:=3) mH.nd (@iA _ _ _ _ (aF (aC 1) aL rfl)))
  (aX (v3 900 Q1 (bZ (gH (dY b)) (aC 3) (@iA _ _ _ _ aL) (cR _)) (aX (nB (i:=4) mH.nd aL)
  (aX (gZ Q1 rfl (dZ (aC 3)) (cI (i:=5) mH.nd) (bB (gZ Q1 rfl (dZ (bJ T.F_qa c b rfl (aF (aC 0) (aF (aC 5) aL rfl) rfl) dV)) (rR rfl (j4 (cI (i:=6) mH.nd) (j4 (cI (i:=7) mH.nd) rS))) (bB (eS (bZ (mF (dJ b)) (aC 7) (aC 2) (by with_unfolding_all rfl)) (aX (EY (i:=2) (dJ b) (aC 7) (bM O6 (EM (i:=2) (dJ b) (aC 5)) (aC 6)))
  (bB (v2 (i:=4) (aC 7)))) eU)))))
  (D7 4 (bB (cG (i:=3) mH.nd (aC 4)))))))
  (bB (bY (aC 2))))))
theorem Kv(c:aN P w K mg base aQ 1 (a 2) (d 2) ["things"] (aY K 1 eX))(f:aN P w K mg base aQ 2 (a 9) (d 9) ["floor"] (aY K 1 dO))(e:aN P w K mg base aQ 2 (a 10) (d 10) ["solids","one","other"] (aY K 3 j2)):aN P w K mg base aQ 3 (a 17) (d 17) ["floor","start"] (aY K 2 lZ):=by
 refine dF (g:=FS) (G:=lZ) (N:=n5) (k:=2) rfl rfl rfl T.F_q6.F kC fun l A h s H E b=>?_
 exact(aX (cG (i:=2) kC.nd (bJ T.F_qs c b rfl (aF (bP bS (aC 0) aS) aL rfl) eJ))
  (aX (D4 (i:=3) kC.nd (dJ b) (aC 1) (@iA _ _ _ _ (aF (aC 1) aL rfl)))
  (aX (Ae (i:=4) kC.nd rfl (fL (N':=DM) (inner:=[none,some 1]) (aW m6) n5 rfl rfl (by decide +kernel)) (fN 0) (dZ (bJ T.F_qb f b rfl (aF (aC 0) aL rfl) eJ)) (fun _ _ _ _ _=>(cI (i:=0) PV)) (fun _ _ _ _ _=>(iV (bZ (gH (dY b)) (aC 0) (aC 1) (cR _)))) (fun _ _ _ _ _=>(aC 0)))
  (aX (cG (i:=5) kC.nd (@iA _ _ _ _ (aF (aC 1) aL rfl)))
  (aX (v3 900 Q1 (bZ (gH (dY b)) (aC 5) (@iA _ _ _ _ aL) (cR _)) (aX (nB (i:=6) kC.nd aL)
  (aX (gZ Q1 rfl (dZ (aC 5)) (cI (i:=7) kC.nd) (aX (Ae (i:=8) kC.nd rfl (fL (N':=DN) (inner:=[none,some 2,some 7]) (aW m6) n5 rfl rfl (by decide +kernel)) (fN 0) (dZ (aC 4)) (fun _ _ _ _ _=>(cI (i:=0) PX)) (fun _ _ _ _ _=>(iV (nC (bJ T.F_qm e b rfl (aF (aC 1) (aF (aC 2) (aF (aC 0) aL rfl) rfl) rfl) gM)))) (fun _ _ _ _ _=>(aC 0)))
  (aX (Nl (i:=3) rfl (iK b) rfl T.z_dict DC.boot_dict (aF (gO rfl (fL (N':=DP) (inner:=[none,some 3,some 7]) (aW m6) n5 rfl rfl (by decide +kernel)) (fN 0) (dZ (aC 8)) (fun _ _ _ _ _=>(cI (i:=0) PY)) (fun _ _ _ _ _=>l7) (fun _ _ _ _ _=>(iI (aF (aC 0) (aF (bM dP (bP (tV (dJ b)) (aC 1) (aC 2)) (@iA _ _ _ _ (aF (aC 0) aL rfl))) aL rfl) rfl)))) aL rfl))
  (aX (Nj (i:=4) (j:=3) kC.nd rfl (fL (N':=C9) (inner:=[none,some 3]) (aW m6) n5 rfl rfl (by decide +kernel)) (fN 0) (dZ (aC 4)) (fun _ _ _ _ _=>(cI (i:=0) PZ)) (fun _ _ _ _ _=>(iV (bZ (mF (dJ b)) (aC 0) (aC 1) (by with_unfolding_all rfl)))) (fun _ _ _ _ _=>(aC 0)))
  (bB (Af (i:=6) (aC 8)))))))
  (D7 6 (bB (cG (i:=5) kC.nd (aC 6)))))))
  (bB (bY (aC 3))))))))
theorem KG(b:aN P w K mg base aQ 2 (a 12) (d 12) ["_law_script","_law_k","_law_many"] (aY K 3 gX)):aN P w K mg base aQ 3 (a 18) (d 18) ["_law_script","_law_at","_law_most"] (aY K 3 pA):=by
 refine dF (g:=A2) (G:=pA) (N:=xL) (k:=2) rfl rfl rfl T.F_qg.F pZ fun f A e s H E c=>?_
 exact(aX (cG (i:=3) pZ.nd (bM dP aS (bJ T.F_qf b c rfl (aF (aC 0) (aF (aC 1) (aF (aC 2) aL rfl) rfl) rfl) gM)))
  (aX (cG (i:=4) pZ.nd (bM dP aS (bJ T.F_qf b c rfl (aF (aC 0) (aF (bM dP (aC 1) aS) (aF (aC 2) aL rfl) rfl) rfl) gM)))
  (aX (cG (i:=5) pZ.nd (bP bS (@iA _ _ _ _ (aF aS (aF aS (aF aS (aF aS (aF aS aL rfl) rfl) rfl) rfl) rfl)) (bJ T.F_qf b c rfl (aF (aC 0) (aF (bM dP (aC 1) aS) (aF aS aL rfl) rfl) rfl) gM)))
  (aX (nB (i:=6) pZ.nd aL)
  (aX (gZ Q1 rfl (o6 rfl T.z_range (aF (aC 3) aL rfl)) (cI (i:=7) pZ.nd) (bB (Af (i:=6) (gO rfl (fL (N':=Dg) (inner:=[none,some 7,some 0,some 5,some 1]) (aW uC) xL rfl rfl (by decide +kernel)) (fN 0) (o6 rfl T.z_range (aF (aC 4) aL rfl)) (fun _ _ _ _ _=>(cI (i:=0) P5)) (fun _ _ _ _ _=>(iV (bZ (uS (dY c)) (bJ T.F_qf b c rfl (aF (aC 2) (aF (bM dP (bM dP (bM dP (aC 4) aS) (bM iD aS (aC 1))) (aC 0)) (aF (aC 3) aL rfl) rfl) rfl) gM) aS (cR _)))) (fun _ _ _ _ _=>(iI (aF (aC 1) (aF (aC 0) aL rfl) rfl)))))))
  (bB (bY (iI (aF (aC 3) (aF (aC 4) (aF (zZ C4 rfl T.z_tuple boot_tuple (aF (aC 6) aL rfl)) aL rfl) rfl) rfl)))))))))
theorem Kp(b:aN P w K mg base aQ 3 (a 14) (d 14) ["floor","thing"] (aY K 2 sK)):aN P w K mg base aQ 4 (a 19) (d 19) ["floor","cell"] (aY K 2 l4):=by
 refine dF (g:=Ge) (G:=l4) (N:=BP) (k:=3) rfl rfl rfl T.F_q0.F Lp fun f A c s H E e=>?_
 exact(bB (eS (v4 (nC (bJ T.F_qq b e rfl (aF (aC 0) (aF (aC 1) aL rfl) rfl) dV))) (bB EZ) eU))
theorem KO(b:aN P w K mg base aQ 4 (a 19) (d 19) ["floor","cell"] (aY K 2 l4)):aN P w K mg base aQ 5 (a 20) (d 20) ["floor","cell"] (aY K 2 sL):=by
 refine dF (g:=FV) (G:=sL) (N:=B4) (k:=4) rfl rfl rfl T.F_qn.F LD fun f A c s H E e=>?_
 exact(aX (l6 (bJ T.F_q0 b e rfl (aF (aC 0) (aF (aC 1) aL rfl) rfl) dV))
  (bB (bY (nZ (qX (dJ e)) (aC 1) (bP bS (aC 0) aS) (by with_unfolding_all rfl)))))
theorem KZ(b:aN P w K mg base aQ 4 (a 19) (d 19) ["floor","cell"] (aY K 2 l4))(e:aN P w K mg base aQ 3 (a 15) (d 15) ["solids","one","other"] (aY K 3 rF))(c:aN P w K mg base aQ 1 (a 2) (d 2) ["things"] (aY K 1 eX)):aN P w K mg base aQ 5 (a 21) (d 21) ["floor","one","other"] (aY K 3 pI):=by
 refine dF (g:=Gj) (G:=pI) (N:=Cb) (k:=4) rfl rfl rfl T.F_qx.F LK fun i A h s H E f=>?_
 exact(aX (l6 (bJ T.F_q0 b f rfl (aF (aC 0) (aF (aC 1) aL rfl) rfl) dV))
  (aX (l6 (bJ T.F_q0 b f rfl (aF (aC 0) (aF (aC 2) aL rfl) rfl) dV))
  (bB (bY (bJ T.F_q3 e f rfl (aF (bJ T.F_qs c f rfl (aF (bP bS (aC 0) aS) aL rfl) eJ) (aF (aC 1) (aF (aC 2) aL rfl) rfl) rfl) gM)))))
theorem KU:aN P w K mg base aQ 5 (a 22) (d 22) ["cells","reached_from"] (oU P w K mg base 4 5 nD):=by
 refine IQ (g:=nD) (N:=tK) (k:=4) rfl rfl (by decide) T.F_qt.F sQ fun f A c s H E h e b=>?_
 exact(aX (nB (i:=2) sQ.nd aL)
  (aX (cG (i:=3) sQ.nd (aC 0))
  (aX (v3 900 Q1 (bZ (gH (dY b)) (aC 3) (@iA _ _ _ _ aL) (cR _)) (aX (cG (i:=4) sQ.nd (NQ 1 b (bP bS (aC 3) aS)))
  (aX (v2 (i:=2) (gO rfl (fL (N':=Dl) (inner:=[none,some 4]) (aW qQ) tK rfl rfl (by decide +kernel)) (fN 0) (dZ (aC 3)) (fun _ _ _ _ _=>(cI (i:=0) O8)) (fun _ _ _ _ _=>(iV (bZ (qY (dJ b)) (aC 0) (aC 1) (by with_unfolding_all rfl)))) (fun _ _ _ _ _=>(aC 0))))
  (bB (Ae (i:=3) sQ.nd rfl (fL (N':=Dm) (inner:=[none,some 4]) (aW qQ) tK rfl rfl (by decide +kernel)) (fN 0) (dZ (aC 3)) (fun _ _ _ _ _=>(cI (i:=0) O9)) (fun _ _ _ _ _=>(iV (bZ (mF (dJ b)) (aC 0) (aC 1) (by with_unfolding_all rfl)))) (fun _ _ _ _ _=>(aC 0)))))))
  (bB (bY (aC 2))))))
theorem Kq(b:aN P w K mg base aQ 5 (a 20) (d 20) ["floor","cell"] (aY K 2 sL)):aN P w K mg base aQ 6 (a 23) (d 23) ["floor","cell"] (aY K 2 jK):=by
 refine dF (g:=Gd) (G:=jK) (N:=BQ) (k:=5) rfl rfl rfl T.F_q1.F Lq fun f A c s H E e=>?_
 exact(bB (eS (nC (bJ T.F_qn b e rfl (aF (aC 0) (aF (aC 1) aL rfl) rfl) dV)) (bB EZ) eU))
theorem KW(h:aN P w K mg base aQ 1 (a 2) (d 2) ["things"] (aY K 1 eX))(f:aN P w K mg base aQ 5 (a 22) (d 22) ["cells","reached_from"] (oU P w K mg base 4 5 nD))(c:aN P w K mg base aQ 2 (a 9) (d 9) ["floor"] (aY K 1 dO))(l:aN P w K mg base aQ 3 (a 16) (d 16) ["ground","start"] (aY K 2 kZ))(p:tE)(r:K.In base)(t:Bm mg base):aN P w K mg base aQ 6 (a 24) (d 24) ["floor"] (kM K 1 sN jZ):=by
 refine zL (g:=Gh) (G:=sN) (N:=B9) (k:=5) rfl rfl rfl T.F_qv.F G0 fun u A n s H E o q e=>?_
 exact(aX (cG (i:=1) G0.nd (bJ T.F_qs h e rfl (aF (bJ T.F_qb c e rfl (aF (aC 0) aL rfl) eJ) aL rfl) eJ))
  (bB (bY (EH (GP:=n4) (xf:="ground") (x0:="cell") (j:=1) (g:=nD) f (e.mono (by decide)) rfl T.F_qt.m T.F_qt.F.kp T.F_qt.b p (bJ T.F_qb c e rfl (aF (aC 0) aL rfl) eJ) (q kX _ rfl) rfl (o.trans T.cde0) (PySem.W.codeHd_of_K r T.cdh0) t rfl (DV rfl (by decide +kernel)) rfl rfl rfl (fun _ _ _ _ _=>rfl) (fun _ _ _ _ _ _ _ _ e=>(bJ T.F_qi l e rfl (aF (aC 1) (aF (aC 0) aL rfl) rfl) dV))))))
theorem KY(c:aN P w K mg base aQ 5 (a 22) (d 22) ["cells","reached_from"] (oU P w K mg base 4 5 nD))(e:aN P w K mg base aQ 2 (a 9) (d 9) ["floor"] (aY K 1 dO))(f:aN P w K mg base aQ 3 (a 17) (d 17) ["floor","start"] (aY K 2 lZ))(n:tE)(p:K.In base)(q:Bm mg base):aN P w K mg base aQ 6 (a 25) (d 25) ["floor"] (kM K 1 sJ jZ):=by
 refine zL (g:=FT) (G:=sJ) (N:=Ca) (k:=5) rfl rfl rfl T.F_qw.F LJ fun r A i s H E l o h=>?_
 exact(bB (bY (EH (GP:=n4) (xf:="floor") (x0:="cell") (j:=0) (g:=nD) c (h.mono (by decide)) rfl T.F_qt.m T.F_qt.F.kp T.F_qt.b n (bJ T.F_qb e h rfl (aF (aC 0) aL rfl) eJ) (o lA _ rfl) rfl (l.trans T.cde1) (PySem.W.codeHd_of_K p T.cdh1) q rfl (DV rfl (by decide +kernel)) rfl rfl rfl (fun _ _ _ _ _=>rfl) (fun _ _ _ _ _ _ _ _ h=>(bJ T.F_q6 f h rfl (aF (aC 1) (aF (aC 0) aL rfl) rfl) dV)))))
theorem Ku(b:aN P w K mg base aQ 5 (a 21) (d 21) ["floor","one","other"] (aY K 3 pI)):aN P w K mg base aQ 6 (a 26) (d 26) ["_law_floor_here","_law_chain_here"] (aY K 2 pC):=by
 refine dF (g:=D2) (G:=pC) (N:=BU) (k:=5) rfl rfl rfl T.F_q5.F sO fun f A e s H E c=>?_
 exact(aX (gZ Q1 rfl (EQ rfl T.z_enumerate (aF (aC 1) aL rfl)) (rR rfl (j4 (cI (i:=2) sO.nd) (j4 (cI (i:=3) sO.nd) rS))) (bB (gZ Q1 rfl (EQ rfl T.z_enumerate (aF (aC 1) aL rfl)) (rR rfl (j4 (cI (i:=4) sO.nd) (j4 (cI (i:=5) sO.nd) rS))) (bB (eS (bZ (gH (dY c)) (bJ T.F_qx b c rfl (aF (aC 0) (aF (aC 3) (aF (aC 5) aL rfl) rfl) rfl) gM) (nZ qZ (gN zS rfl T.z_abs boot_abs (aF (bM AL (aC 2) (aC 4)) aL rfl)) aS (cR _)) (cR _)) (bB (bY hZ)) eU)))))
  (bB (bY (nZ (uS (dY c)) (NR rfl T.z_len PySem.boot_len (Ah rfl (dY c) rfl T.z_set boot_set (aF (aC 1) aL rfl))) (gN k4 rfl T.z_len PySem.boot_len (aF (aC 1) aL rfl)) (cR _)))))
theorem KP(f:aN P w K mg base aQ 6 (a 23) (d 23) ["floor","cell"] (aY K 2 jK))(b:aN P w K mg base aQ 1 (a 2) (d 2) ["things"] (aY K 1 eX))(e:aN P w K mg base aQ 2 (a 9) (d 9) ["floor"] (aY K 1 dO))(c:aN P w K mg base aQ 2 (a 10) (d 10) ["solids","one","other"] (aY K 3 j2)):aN P w K mg base aQ 7 (a 27) (d 27) ["floor","cell"] (aY K 2 pG):=by
 refine dF (g:=A8) (G:=pG) (N:=xO) (k:=6) rfl rfl rfl T.F_qo.F GY fun l A j s H E h=>?_
 exact(aX (l6 (bJ T.F_q1 f h rfl (aF (aC 0) (aF (aC 1) aL rfl) rfl) dV))
  (aX (cG (i:=2) GY.nd (bJ T.F_qs b h rfl (aF (bP bS (aC 0) aS) aL rfl) eJ))
  (bB (bY (gO rfl (fL (N':=Dj) (inner:=[none,some 2,some 1]) (aW uF) xO rfl rfl (by decide +kernel)) (fN 0) (dZ (bJ T.F_qb e h rfl (aF (aC 0) aL rfl) eJ)) (fun _ _ _ _ _=>(cI (i:=0) P8)) (fun _ _ _ _ _=>(iV (nC (bJ T.F_qm c h rfl (aF (aC 1) (aF (aC 2) (aF (aC 0) aL rfl) rfl) rfl) gM)))) (fun _ _ _ _ _=>(aC 0)))))))
theorem Pu(c:aN P w K mg base aQ 6 (a 23) (d 23) ["floor","cell"] (aY K 2 jK))(e:aN P w K mg base aQ 3 (a 17) (d 17) ["floor","start"] (aY K 2 lZ)):aN P w K mg base (g8 P w) 7 (a 28) (d 28) ["floor","one","other"] (lW K 3 nQ):=by
 refine Ct (g:=Gg) (G:=nQ) (N:=B8) (k:=6) rfl rfl rfl T.F_qu.F GZ fun h A f s H E b=>?_
 exact(aX (l6 (bJ T.F_q1 c b rfl (aF (aC 0) (aF (aC 1) aL rfl) rfl) dV))
  (aX (l6 (bJ T.F_q1 c b rfl (aF (aC 0) (aF (aC 2) aL rfl) rfl) dV))
  (aX (cG (i:=3) GZ.nd (bJ T.F_q6 e b rfl (aF (aC 0) (aF (aC 1) aL rfl) rfl) dV))
  (aX (eS (bZ (mF (dJ b)) (aC 2) (aC 3) (by with_unfolding_all rfl)) (bB (Ag PySem.F.excBase_ValueError b.hd rfl T.xn_NoWay T.xe_NoWay rfl T.xm_NoWay (AR (.cons (wF (by decide)) (.cons (wE b.gd (iK b) (aC 1)) (.cons (wF (by decide)) (.cons (wE b.gd (iK b) (aC 2)) .nil)))) (by decide)))) eU)
  (bB (bY (bP (tV (dJ b)) (aC 3) (aC 2))))))))
theorem Ky(c:aN P w K mg base aQ 7 (a 27) (d 27) ["floor","cell"] (aY K 2 pG))(e:aN P w K mg base aQ 2 (a 9) (d 9) ["floor"] (aY K 1 dO)):aN P w K mg base aQ 8 (a 29) (d 29) ["floor","cells"] (aY K 2 rH):=by
 refine dF (g:=Bf) (G:=rH) (N:=xH) (k:=7) rfl rfl rfl T.F_q9.F wS fun h A f s H E b=>?_
 exact(aX (Nk (i:=2) wS.nd rfl (iK b) rfl T.z_dict DC.boot_dict (aF (gO rfl (fL (N':=Dc) (inner:=[none]) (aW t8) xH rfl rfl (by decide +kernel)) (fN 0) (dZ (bJ T.F_qb e b rfl (aF (aC 0) aL rfl) eJ)) (fun _ _ _ _ _=>(cI (i:=0) P1)) (fun _ _ _ _ _=>l7) (fun _ _ _ _ _=>(iI (aF (aC 0) (aF aS aL rfl) rfl)))) aL rfl))
  (aX (gZ Q1 rfl (dZ (aC 1)) (cI (i:=3) wS.nd) (bB (gZ Q1 rfl (dZ (bJ T.F_qo c b rfl (aF (aC 0) (aF (aC 3) aL rfl) rfl) dV)) (cI (i:=4) wS.nd) (bB (EY (i:=2) (dJ b) (aC 4) (bM dP (EM (i:=2) (dJ b) (aC 4)) aS))))))
  (bB (bY (aC 2)))))
theorem Kx(f:aN P w K mg base aQ 7 (a 28) (d 28) ["floor","one","other"] (aY K 3 DH))(c:aN P w K mg base (g8 P w) 7 (a 28) (d 28) ["floor","one","other"] (lW K 3 nQ)):aN P w K mg base aQ 8 (a 30) (d 30) ["_law_floor_here","_law_one","_law_other"] (aY K 3 kY):=by
 refine dF (g:=A1) (G:=kY) (N:=BV) (k:=7) rfl rfl rfl T.F_q8.F Lu fun j A e s H E i=>?_
 exact(bB (D6 (fun _ _=>(bB (D5 (D8 c (i.mono (by decide)) rfl T.F_qu.m T.F_qu.F.kp T.F_qu.b rfl (aF (aC 0) (aF (aC 1) (aF (aC 2) aL rfl) rfl) rfl) (jE (jE (jE (fun _ _ h=>Aj h)))))))) (fun _ _ _=>(bB (bY m9))) rfl rfl rfl rfl T.xm_NoWay T.xb_NoWay (HJ T.xn_NoWay (Ex T.xe_NoWay T.xt_NoWay_NoWay) HK)))
theorem Kw(b:aN P w K mg base aQ 8 (a 29) (d 29) ["floor","cells"] (aY K 2 rH)):aN P w K mg base aQ 9 (a 31) (d 31) ["floor","cells"] (aY K 2 rG):=by
 refine dF (g:=Be) (G:=rG) (N:=xG) (k:=8) rfl rfl rfl T.F_q7.F GX fun f A c s H E e=>?_
 exact(aX (cG (i:=2) GX.nd (bJ T.F_q9 b e rfl (aF (aC 0) (aF (aC 1) aL rfl) rfl) dV))
  (bB (bY (gO rfl (fL (N':=Db) (inner:=[none,some 2]) (aW t7) xG rfl rfl (by decide +kernel)) (fN 0) (M6 (aC 2)) (fun _ _ _ _ _=>(cI (i:=0) P0)) (fun _ _ _ _ _=>(iV (bZ uT (bP (tV (dJ e)) (aC 1) (aC 0)) aS (cR _)))) (fun _ _ _ _ _=>(aC 0))))))
theorem Ps(e:aN P w K mg base aQ 6 (a 23) (d 23) ["floor","cell"] (aY K 2 jK))(c:aN P w K mg base aQ 1 (a 2) (d 2) ["things"] (aY K 1 eX))(f:aN P w K mg base aQ 3 (a 16) (d 16) ["ground","start"] (aY K 2 kZ))(j:aN P w K mg base aQ 9 (a 31) (d 31) ["floor","cells"] (aY K 2 rG))(h:aN P w K mg base aQ 2 (a 9) (d 9) ["floor"] (aY K 1 dO)):aN P w K mg base (g8 P w) 10 (a 32) (d 32) ["floor","watchers","one","other"] (lW K 4 nP):=by
 refine Ct (g:=u8) (G:=nP) (N:=xJ) (k:=9) rfl rfl rfl T.F_qd.F wT fun m A l s H E b=>?_
 exact(aX (l6 (bJ T.F_q1 e b rfl (aF (aC 0) (aF (aC 2) aL rfl) rfl) dV))
  (aX (l6 (bJ T.F_q1 e b rfl (aF (aC 0) (aF (aC 3) aL rfl) rfl) dV))
  (aX (cG (i:=4) wT.nd (bJ T.F_qs c b rfl (aF (bJ T.F_q7 j b rfl (aF (aC 0) (aF (aC 1) aL rfl) rfl) dV) aL rfl) eJ))
  (aX (cG (i:=5) wT.nd (bJ T.F_qs c b rfl (aF (gO rfl (fL (N':=De) (inner:=[none,some 4]) (aW uA) xJ rfl rfl (by decide +kernel)) (fN 0) (dZ (bJ T.F_qb h b rfl (aF (aC 0) aL rfl) eJ)) (fun _ _ _ _ _=>(cI (i:=0) P3)) (fun _ _ _ _ _=>(iV (bZ (mF (dJ b)) (aC 0) (aC 1) (by with_unfolding_all rfl)))) (fun _ _ _ _ _=>(aC 0))) aL rfl) eJ))
  (aX (eS (bZ (mF (dJ b)) (aC 2) (aC 5) (by with_unfolding_all rfl)) (bB (Ag PySem.F.excBase_ValueError b.hd rfl T.xn_NoWay T.xe_NoWay rfl T.xm_NoWay (AR (.cons (wE b.gd (iK b) (aC 2)) (.cons (wF (by decide)) .nil)) (by decide)))) eU)
  (aX (cG (i:=6) wT.nd (bJ T.F_qi f b rfl (aF (aC 5) (aF (aC 2) aL rfl) rfl) dV))
  (aX (eS (bZ (mF (dJ b)) (aC 3) (aC 6) (by with_unfolding_all rfl)) (bB (Ag PySem.F.excBase_ValueError b.hd rfl T.xn_NoWay T.xe_NoWay rfl T.xm_NoWay (AR (.cons (wF (by decide)) (.cons (wE b.gd (iK b) (aC 3)) .nil)) (by decide)))) eU)
  (bB (bY (bP (tV (dJ b)) (aC 6) (aC 3)))))))))))
theorem KB(e:aN P w K mg base aQ 10 (a 32) (d 32) ["floor","watchers","one","other"] (aY K 4 DF))(GX_hidden_way:aN P w K mg base (g8 P w) 10 (a 32) (d 32) ["floor","watchers","one","other"] (lW K 4 nP)):aN P w K mg base aQ 11 (a 33) (d 33) ["_law_floor_here","_law_one","_law_other"] (aY K 3 nR):=by
 refine dF (g:=A3) (G:=nR) (N:=BX) (k:=10) rfl rfl rfl T.F_qc.F Ly fun i A c s H E f=>?_
 exact(bB (D6 (fun _ _=>(bB (D5 (Nn Mv rfl T.z_len PySem.boot_len (D8 GX_hidden_way (f.mono (by decide)) rfl T.F_qd.m T.F_qd.F.kp T.F_qd.b rfl (aF (aC 0) (aF (@iA _ _ _ _ aL) (aF (aC 1) (aF (aC 2) aL rfl) rfl) rfl) rfl) (jE (jE (jE (jE (fun _ _ h=>Aj h)))))))))) (fun _ _ _=>(bB (bY m9))) rfl rfl rfl rfl T.xm_NoWay T.xb_NoWay (HJ T.xn_NoWay (Ex T.xe_NoWay T.xt_NoWay_NoWay) HK)))
theorem K0(n:aN P w K mg base aQ 3 (a 18) (d 18) ["_law_script","_law_at","_law_most"] (aY K 3 pA))(l:aN P w K mg base aQ 2 (a 13) (d 13) ["_law_floor_here"] (aY K 1 pD))(j:aN P w K mg base aQ 6 (a 24) (d 24) ["floor"] (kM K 1 sN jZ))(h:aN P w K mg base aQ 6 (a 25) (d 25) ["floor"] (kM K 1 sJ jZ))(e:aN P w K mg base aQ 2 (a 12) (d 12) ["_law_script","_law_k","_law_many"] (aY K 3 gX))(f:aN P w K mg base aQ 8 (a 30) (d 30) ["_law_floor_here","_law_one","_law_other"] (aY K 3 kY))(o:aN P w K mg base aQ 11 (a 33) (d 33) ["_law_floor_here","_law_one","_law_other"] (aY K 3 nR))(p:aN P w K mg base aQ 6 (a 26) (d 26) ["_law_floor_here","_law_chain_here"] (aY K 2 pC))(v:K.In base)(x:Bm mg base):aN P w K mg base aQ 12 (a 34) (d 34) ["_law_script"] (kM K 1 mK jZ):=by
 refine zL (g:=xX) (G:=mK) (N:=n6) (k:=11) rfl rfl rfl T.F_qy.F g7 fun u A q s H E t r c=>?_
 exact(aX (cG (i:=1) g7.nd (bJ T.F_qg n c rfl (aF (aC 0) (aF aS (aF aS aL rfl) rfl) rfl) gM))
  (aX (cG (i:=2) g7.nd (bJ T.F_qh l c rfl (aF (aC 1) aL rfl) eJ))
  (aX (cG (i:=3) g7.nd (EI j r (c.mono (by decide)) rfl T.F_qv.m T.F_qv.F.kp T.F_qv.b (aF (aC 1) aL rfl) eJ))
  (aX (cG (i:=4) g7.nd (EI h r (c.mono (by decide)) rfl T.F_qw.m T.F_qw.F.kp T.F_qw.b (aF (aC 1) aL rfl) eJ))
  (aX (gZ Q1 rfl (dZ (iI (aF (aC 3) (aF (aC 4) aL rfl) rfl))) (cI (i:=5) g7.nd) (aX (cG (i:=6) g7.nd (@iA _ _ _ _ aL))
  (aX (gZ Q1 rfl (dZ (aC 5)) (cI (i:=7) g7.nd) (bB (cG (i:=6) g7.nd (bM dP (aC 6) (aC 7)))))
  (bB (eS (jR (l8 (bZ (gH (dY c)) (gN (zU (iK c)) rfl T.z_sorted boot_sorted (aF (aC 6) aL rfl)) (aC 2) (cR _)) (o7 (bZ (gH (dY c)) (gO rfl (fL (N':=Dn) (inner:=[none]) (aW m7) n6 rfl rfl (by decide +kernel)) (fN 0) (dZ (aC 5)) (fun _ _ _ _ _=>(cI (i:=0) Pa)) (fun _ _ _ _ _=>l7) (fun _ _ _ _ _=>(bP bS (aC 0) aS))) (gN (zU (iK c)) rfl T.z_sorted boot_sorted (aF (gO rfl (fL (N':=Do) (inner:=[none]) (aW m7) n6 rfl rfl (by decide +kernel)) (fN 0) (dZ (aC 5)) (fun _ _ _ _ _=>(cI (i:=0) Pb)) (fun _ _ _ _ _=>l7) (fun _ _ _ _ _=>(gN (Nv rfl (iK c)) rfl T.z_min boot_min (aF (aC 0) aL rfl)))) aL rfl)) (cR _))))) (bB (bY hZ)) eU)))))
  (aX (eS (bZ (gH (dY c)) (aC 4) (aC 3) (cR _)) (bB (bY hZ)) eU)
  (aX (eS (bZ (uS (dY c)) (aC 2) (@iA _ _ _ _ aL) (cR _)) (bB (bY hZ)) eU)
  (aX (cG (i:=8) g7.nd (bP bS (aC 2) (bJ T.F_qf e c rfl (aF (aC 0) (aF aS (aF (gN k4 rfl T.z_len PySem.boot_len (aF (aC 2) aL rfl)) aL rfl) rfl) rfl) gM)))
  (aX (gZ Q1 rfl (dZ (gO rfl (fL (N':=Dp) (inner:=[none,some 2,some 0]) (aW m7) n6 rfl rfl (by decide +kernel)) (fN 0) (o6 rfl T.z_range (aF aS aL rfl)) (fun _ _ _ _ _=>(cI (i:=0) Pc)) (fun _ _ _ _ _=>l7) (fun _ _ _ _ _=>(bP bS (aC 1) (bJ T.F_qf e c rfl (aF (aC 2) (aF (bM dP aS (aC 0)) (aF (gN k4 rfl T.z_len PySem.boot_len (aF (aC 1) aL rfl)) aL rfl) rfl) rfl) gM))))) (cI (i:=9) g7.nd) (aX (cG (i:=10) g7.nd (bJ T.F_q8 f c rfl (aF (aC 1) (aF (aC 8) (aF (aC 9) aL rfl) rfl) rfl) gM))
  (aX (cG (i:=11) g7.nd (bJ T.F_qc o c rfl (aF (aC 1) (aF (aC 8) (aF (aC 9) aL rfl) rfl) rfl) gM))
  (aX (cG (i:=12) g7.nd (nZ (gH (dY c)) (gO rfl (fL (N':=Dq) (inner:=[none,some 8,some 9]) (aW m7) n6 rfl rfl (by decide +kernel)) (fN 0) (dZ (aC 3)) (fun _ _ _ _ _=>(cI (i:=0) Pe)) (fun _ _ _ _ _=>(iV (jR (v5 (bZ (qX (dJ c)) (aC 1) (aC 0) (by with_unfolding_all rfl)) (v6 (bZ (qX (dJ c)) (aC 2) (aC 0) (by with_unfolding_all rfl))))))) (fun _ _ _ _ _=>(aC 0))) (@iA _ _ _ _ aL) (cR _)))
  (aX (eS (jR (l8 (bZ (gH (dY c)) (nZ wC (aC 10) m9 (cR _)) (aC 12) (cR _)) (o7 (bZ (gH (dY c)) (nZ wC (aC 11) m9 (cR _)) (aC 12) (cR _))))) (bB (bY hZ)) eU)
  (bB (eS (bZ wC (aC 10) m9 (cR _)) (aX (cG (i:=13) g7.nd (bJ T.F_q8 f c rfl (aF (aC 1) (aF (aC 9) (aF (aC 8) aL rfl) rfl) rfl) gM))
  (aX (eS (jR (l8 (bZ (gH (dY c)) (bP bS (aC 10) aS) (aC 8) (cR _)) (l8 (bZ (gH (dY c)) (bP bS (aC 10) (vZ v8 aS)) (aC 9) (cR _)) (l8 (bZ O7 (aC 13) m9 (cR _)) (o7 (bZ (gH (dY c)) (gN k4 rfl T.z_len PySem.boot_len (aF (aC 13) aL rfl)) (gN k4 rfl T.z_len PySem.boot_len (aF (aC 10) aL rfl)) (cR _))))))) (bB (bY hZ)) eU)
  (bB (eS (jR (l8 (v4 (nC (bJ T.F_q5 p c rfl (aF (aC 1) (aF (aC 10) aL rfl) rfl) dV))) (o7 (jR (v5 (bZ wC (aC 11) m9 (cR _)) (v6 (bZ uT (gN k4 rfl T.z_len PySem.boot_len (aF (aC 10) aL rfl)) (bM dP (aC 11) aS) (cR _)))))))) (bB (bY hZ)) eU)))) eU)))))))
  (bB (bY hZ)))))))))))
end
end My
namespace My
open PySem.SeqAt L2 DL SD SL EL DC
abbrev C:=Int × Int
def aB(c:C):D:=.tuple [.int c.1,.int c.2]
theorem Iu(i j:Int):cL (.int i) (.int j)=some (.int (i+j)):=id rfl
theorem IW(i j:Int):mS (.int i) (.int j)=some (.bool (decide (j<i))):=id rfl
theorem Kk(i j:Int):bR (.int i) (.int j)=some (.bool (!(i == j))):=id rfl
theorem Ax(l:List D):eH [.list l]=some (.int l.length):=id rfl
theorem j7{i j:Int}(h:mE i j=true):dG (.int i) (.int j)=some (.int (i * j)):=by
 show(if mE i j=true then _ else _)=_
 rw [if_pos h]
theorem zJ{i j:Int}(h:pS i j=true):k9 (.int i) (.int j)=some (.int (i / j)):=by
 show(if pS i j=true then _ else _)=_
 rw [if_pos h]
theorem nG{i j:Int}(h:0<j):iH (.int i) (.int j)=some (.int (i % j)):=by
 show(if decide (0<j)=true then _ else _)=_
 rw [if_pos (decide_eq_true h)]
theorem lP{i j:Int}(b:-18446744073709551616<i)(a:i<18446744073709551616):mE i j=true:=by
 unfold mE;rw [decide_eq_true b,decide_eq_true a];rfl
theorem CJ{i j:Int}(b:-18446744073709551616<j)(a:j<18446744073709551616):mE i j=true:=by
 unfold mE;rw [decide_eq_true b,decide_eq_true a];simp
theorem yB{i j:Int}(b:0<j)(a:j<1073741824):pS i j=true:=by
 unfold pS;rw [decide_eq_true b,decide_eq_true a];rfl
section
variable {α β:Type}
theorem rO{s:D->aA->Option aA}{t:aA->Option Bool}{ge:aA->Option D}(item:α->D)(p:α->Bool)(f:α->D)(I:aA->Prop):∀{xs:List α}{ρ:aA},I ρ->
  (∀ a∈xs,∀ ρ,I ρ->∃ ρ',s (item a) ρ=some ρ'/\I ρ'/\t ρ'=some (p a)/\(p a=true->ge ρ'=some (f a)))->oZ s t ge (xs.map item) ρ=some ((xs.filter p).map f)
 | [],_,_,_=>rfl
 | x::xs,ρ,h0,h=>by
  obtain⟨ρ',i,c,g,e⟩:=h x Qd ρ h0;have b:=rO item p f I c fun y d=>h y (Qg _ d);rw [Qp];unfold oZ;rw [i,Qj,g,Qj]
  cases q:p x with
  | true=>rw [if_pos rfl,e q,Qj,b,List.filter_cons_of_pos q];rfl
  | false=>rw [if_neg QA,b,List.filter_cons_of_neg (by rw [q];exact QA)]
theorem FF{gi:aA->Option (List D)}{s:D->aA->Option aA}{t:aA->Option Bool}{ge:aA->Option D}{inner:List (Option Nat)}{ρ:aA}{xs:List α}(item:α->D)(p:α->Bool)(f:α->D)(I:aA->Prop)(c:gi ρ=some (xs.map item))(b:xs.length<=1000)(d:I (j6 inner ρ))
  (h:∀ a∈xs,∀ ρ,I ρ->∃ ρ',s (item a) ρ=some ρ'/\I ρ'/\t ρ'=some (p a)/\(p a=true->ge ρ'=some (f a))):bX (bW gi s t ge inner) ρ=some (.list ((xs.filter p).map f)):=by
 have q:=rO item p f I d h;unfold bX bW;rw [c,Qj,q,Qj,if_pos (by rw [Ql];exact Qv (QQ _ _) b)];rfl
theorem fZ{gi:aA->Option (List D)}{s:D->aA->Option aA}{t:aA->Option Bool}{ge:aA->Option D}{inner:List (Option Nat)}{ρ:aA}{xs:List α}{out:List D}(item:α->D)(p:α->Bool)(f:α->D)(I:aA->Prop)(d:gi ρ=some (xs.map item))(c:xs.length<=1000)(e:I (j6 inner ρ))
  (h:∀ a∈xs,∀ ρ,I ρ->∃ ρ',s (item a) ρ=some ρ'/\I ρ'/\t ρ'=some (p a)/\(p a=true->ge ρ'=some (f a))) (b:(xs.filter p).map f=out):bX (bW gi s t ge inner) ρ=some (.list out):=by
 rw [<- b];exact FF item p f I d c e h
theorem mB(l:List α):l.filter (fun _=>true)=l:=by induction l with
 | nil=>rfl
 | cons a l b=>simp [b]
theorem pL{s:D->aA->Option aA}{g:aA->Option aK}(item:α->D)(env:β->aA)(step:β->α->β)(P:Nat->β->Prop)(n:Nat):∀(xs:List α) (i:Nat) (b:β),i+xs.length<=n->P i b->
  (∀ a∈xs,∀ i b,i<n->P i b->(∃ ρ1,s (item a) (env b)=some ρ1/\g ρ1=some (.nx (env (step b a))))/\P (i+1) (step b a))->fG s g (xs.map item) (env b)=some (.nx (env (xs.foldl step b)))
 | [],_,b,_,_,_=>rfl
 | x::xs,i,b,hi,hp,h=>by
  rw [QE]at hi;obtain⟨⟨ρ1,f,e⟩,c⟩:=h x Qd i b (by lia) hp;rw [Qp];unfold fG;rw [f,Qj,e,Qj];exact pL item env step P n xs (i+1) _ (by lia) c fun a d=>h a (Qg _ d)
theorem AW{s:D->aA->Option aA}{g:aA->Option aK}(item:α->D)(I:aA->Prop)(p:α->Bool)(d:D):∀(xs:List α) (ρ:aA),I ρ->
  (∀ a∈xs,∀ ρ,I ρ->∃ ρ1,s (item a) ρ=some ρ1/\if p a=true then g ρ1=some (.rt d)else ∃ ρ2,g ρ1=some (.nx ρ2)/\I ρ2)->
  if xs.any p=true then fG s g (xs.map item) ρ=some (.rt d)else ∃ ρ',fG s g (xs.map item) ρ=some (.nx ρ')/\I ρ'
 | [],ρ,h0,_=>by rw [if_neg (by simp)];exact⟨ρ,rfl,h0⟩
 | x::xs,ρ,h0,h=>by
  obtain⟨ρ1,f,b⟩:=h x Qd ρ h0;rw [Qp,JE];unfold fG;rw [f,Qj]
  cases q:p x with
  | true=>
   rw [q,if_pos rfl]at b;rw [Bool.true_or,if_pos rfl,b];rfl
  | false=>
   rw [q,if_neg QA]at b;obtain⟨ρ2,b,c⟩:=b;rw [Bool.false_or,b,Qj];exact AW item I p d xs ρ2 c fun a e=>h a (Qg _ e)
theorem AX{s:D->aA->Option aA}{g:aA->Option aK}(item:α->D)(I:aA->Prop):∀(xs:List α) (ρ:aA),I ρ->
  (∀ a∈xs,∀ ρ,I ρ->∃ ρ1 ρ2,s (item a) ρ=some ρ1/\g ρ1=some (.nx ρ2)/\I ρ2)->∃ ρ',fG s g (xs.map item) ρ=some (.nx ρ')/\I ρ'
 | [],ρ,h0,_=>⟨ρ,rfl,h0⟩
 | x::xs,ρ,h0,h=>by
  obtain⟨ρ1,ρ2,e,d,b⟩:=h x Qd ρ h0;rw [Qp];unfold fG;rw [e,Qj,d,Qj];exact AX item I xs ρ2 b fun a c=>h a (Qg _ c)
end
theorem GO(h:Nat)(a:h<1000):oM [.int h]=some ((List.range h).map fun(k:Nat)=>.int (k:Int)):=by
 show(if -4611686018427387904<=(h:Int)/\(h:Int)<4611686018427387904 then some ((List.range (h:Int).toNat).map fun(k:Nat)=>J4 (0+(k:Int)))else none)=_
 rw [if_pos ⟨by lia,by lia⟩,Y5];congr 2
 funext k
 rw [Int.zero_add]
section
variable {g g1 g2:aA->Option aK}{t u:aA->Option Bool}{ga gb gc:aA->Option D}{gr:aA->Option (List D)}{ρ:aA}{d:D}
theorem Iy:eC d ρ=some d:=id rfl
theorem Dv(f:D->D->Option D):aE f ga gb ρ=(ga ρ).bind fun x=>(gb ρ).bind fun y=>f x y:=id rfl
theorem Ix:eB ga ρ=(ga ρ).bind lG:=id rfl
theorem Iz(b:Bool):lG (.bool b)=some b:=id rfl
end
section
variable {α β:Type}(a:α)(l m:List α)(n:Nat)(f:α->β)
theorem Cc(k:α->Option β):(some a).bind k=k a:=id rfl
end
def r0{c:Type}(a:c->Bool)(step:c->c):Nat->c->Option c
 | 0,_=>none
 | n+1,b=>if a b=true then r0 a step n (step b)else some b
theorem Hz{d:Type}{t:aA->Option Bool}{g:aA->Option aK}(env:d->aA)(a:d->Bool)(step:d->d)(P:Nat->d->Prop)(e:∀ n b,P n b->t ((env b).map frz)=some (a b))
  (f:∀ n b,P (n+1) b->a b=true->g (env b)=some (.nx (env (step b)))/\P n (step b)):∀ n b b',P n b->r0 a step n b=some b'->gB t g n (env b)=some (.nx (env b'))
 | 0,_,_,_,h=>by cases h
 | n+1,b,b',p,h=>by
  unfold r0 at h;unfold gB;rw [e _ b p,Qj];by_cases c:a b=true
  ·rw [if_pos c]at h ⊢;obtain⟨j,i⟩:=f n b p c;rw [j,Qj];exact Hz env a step P e f n _ b' i h
  ·rw [if_neg c]at h ⊢;cases h;rfl
theorem aV{b a:aA->Option aK}{ρ ρ':aA}{r:Option aK}(h:b ρ=some (.nx ρ'))(c:a ρ'=r):aM b a ρ=r:=by
 unfold aM;rw [h];exact c
theorem wO{a b:aA->Option aK}{ρ:aA}{d:D}(h:a ρ=some (.rt d)):aM a b ρ=some (.rt d):=by
 unfold aM;rw [h];rfl
theorem cZ{n:Nat}{g:aA->Option aK}{ds:List D}{d:D}(h:g (dQ n ds)=some (.rt d)):cF n g ds=some d:=by
 unfold cF;rw [h]
theorem iO{gi:aA->Option (List D)}{s:D->aA->Option aA}{g:aA->Option aK}{ρ:aA}{xs:List D}{r:Option aK}(b:gi ρ=some xs)(a:fG s g xs ρ=r):dW gi s g ρ=r:=by
 unfold dW;rw [b];exact a
theorem iY{t:aA->Option Bool}{c a:aA->Option aK}{ρ:aA}{b:Bool}{r:Option aK}(h:t (ρ.map frz)=some b)(e:b=true->c ρ=r)(d:b=false->a ρ=r):cE t c a ρ=r:=by
 unfold cE;rw [h]
 cases b with
 | true=>exact e rfl
 | false=>exact d rfl
theorem cV{a:aA->Option D}{ρ:aA}{d:D}(h:a (ρ.map frz)=some d):bK a ρ=some (.rt d):=by
 unfold bK;rw [h];rfl
theorem cK{i:Nat}{a:aA->Option D}{ρ:aA}{d:D}(h:a ρ=some d):bI i a ρ=some (.nx (ρ.set i (.dat d))):=by
 unfold bI;rw [h];rfl
theorem bD{G:List D->Option D}{a:aA->Option (List D)}{ρ:aA}{ds:List D}{r:Option D}(h:a ρ=some ds)(b:G ds=r):aO G a ρ=r:=by
 unfold aO;rw [h];exact b
theorem GW{a:aA->Option (List D)}{s:D->aA->Option aA}{g:aA->Option aK}{ρ:aA}{n:Nat}{r:Option aK}(e:a ρ=some [.int (n:Nat)])(c:n<1000)(d:fG s g ((List.range n).map fun(k:Nat)=>.int (k:Int)) ρ=r):dW (iM a) s g ρ=r:=by
 show((a ρ).bind oM).bind (fun b=>fG s g b ρ)=r
 rw [e,Qj,GO n c,Qj];exact d
theorem vF{a:aA->Option (List D)}{ρ:aA}{n:Nat}(c:a ρ=some [.int (n:Nat)])(b:n<1000):iM a ρ=some ((List.range n).map fun(k:Nat)=>.int (k:Int)):=by
 show(a ρ).bind oM=_
 rw [c,Qj,GO n b]
theorem oo{f:D->D->Option D}{a gb:aA->Option D}{ρ:aA}{x y:D}{r:Option D}(d:a ρ=some x)(c:gb ρ=some y)(b:f x y=r):aE f a gb ρ=r:=by
 unfold aE;rw [d,Qj,c];exact b
theorem oB{a:aA->Option D}{ρ:aA}{b:Bool}(h:a ρ=some (.bool b)):eB a ρ=some b:=by
 unfold eB;rw [h];rfl
theorem wN{i:Nat}{a:aA->Option D}{ρ:aA}{ds:List D}{d:D}(e:ρ[i]?=some (.own ds))(c:a ρ=some d)(b:ds.length<1000):jW i a ρ=some (.nx (ρ.set i (.own (ds++[d])))):=by
 unfold jW;rw [e]
 show(a ρ).bind _=_
 rw [c,Qj,if_pos b]
theorem kB{a:aA->Option D}{ρ:aA}{d:D}(h:a ρ=some d):jI a ρ=some (.nx ρ):=by
 unfold jI;rw [h];rfl
theorem fR{b:aA->Option D}{a:aA->Option (List D)}{ρ:aA}{d:D}{ds:List D}(h:b ρ=some d)(c:a ρ=some ds):aD b a ρ=some (d::ds):=by
 unfold aD;rw [h,Qj,c];rfl
theorem eF{t:aA->Option Bool}{a:aA->Option aK}{ρ:aA}(h:t (ρ.map frz)=some false):cE t a cM ρ=some (.nx ρ):=by
 unfold cE;rw [h];rfl
theorem oN{t:aA->Option Bool}{ρ:aA}{b:Bool}(h:t ρ=some b):lJ t ρ=some (!b):=by
 unfold lJ;rw [h];rfl
theorem tW{t u:aA->Option Bool}{ρ:aA}{r:Option Bool}(h:t ρ=some true)(a:u ρ=r):gS t u ρ=r:=by
 unfold gS;rw [h];exact a
theorem yA{t u:aA->Option Bool}{ρ:aA}(h:t ρ=some false):gS t u ρ=some false:=by
 unfold gS;rw [h];rfl
theorem Er{n:Nat}{g:aA->Option aK}{ds:List D}{ρ:aA}(h:g (dQ n ds)=some (.nx ρ)):cF n g ds=some .none:=by
 unfold cF;rw [h]
theorem CG{a gb:aA->Option D}{ρ:aA}{r:Option D}(h:a ρ=some (.bool true))(b:gb ρ=r):kN a gb ρ=r:=by
 unfold kN;rw [h];exact b
theorem tY{a gb:aA->Option D}{ρ:aA}{x y:D}(c:a ρ=some x)(b:gb ρ=some y):dS (aD a (aD gb aG)) ρ=some (.tuple [x,y]):=by
 unfold dS;rw [fR c (fR b rfl)];rfl
theorem oJ{t u:aA->Option Bool}{ρ:aA}{r:Option Bool}(h:t ρ=some false)(a:u ρ=r):fX t u ρ=r:=by
 unfold fX;rw [h];exact a
theorem Kn{a gb:aA->Option D}{ρ:aA}(h:a ρ=some (.bool false)):kN a gb ρ=some (.bool false):=by
 unfold kN;rw [h];rfl
theorem fA{a:aA->Option D}{ρ:aA}{d:D}{l:List D}(c:a ρ=some d)(b:m8 d=some l):bO a ρ=some l:=by
 show(a ρ).bind m8=_
 rw [c,Qj,b]
end My
namespace My
open PySem.SeqAt L2 DL SD SL EL DC
abbrev fE:=List Int
def mW(p:fE):List fE->List fE
 | []=>[p]
 | q::r=>if HT.lexLt q p=true then q::mW p r else p::q::r
def iP:List fE->List fE
 | []=>[]
 | p::r=>mW p (iP r)
def fK(k:fE):KD:=(k,fP k)
theorem Fm(p:fE):∀ l:List fE,jU (fK p) (l.map fK)=(mW p l).map fK
 | []=>rfl
 | q::r=>by
  show(if HT.lexLt q p=true then fK q::jU (fK p) (r.map fK)else fK p::fK q::r.map fK)=(if HT.lexLt q p=true then q::mW p r else p::q::r).map fK
  split
  ·rw [Fm p r];rfl
  ·rfl
theorem Bt:∀ l:List fE,gI (l.map fK)=(iP l).map fK
 | []=>rfl
 | p::r=>by
  show jU (fK p) (gI (r.map fK))=(mW p (iP r)).map fK
  rw [Bt r,Fm]
theorem Fn(p:fE):∀ l:List fE,(mW p l).Perm (p::l)
 | []=>.refl _
 | q::r=>by
  unfold mW;split
  ·exact((Fn p r).cons q).trans (.swap _ _ _)
  ·exact .refl _
theorem Bu:∀ l:List fE,(iP l).Perm l
 | []=>.refl _
 | p::r=>(Fn p (iP r)).trans ((Bu r).cons p)
theorem SS(l:List fE):(iP l).Pairwise fun a b=>HT.lexLt b a=false:=by
 have:=sR (l.map fK)
 rw [Bt,Q2]at this;exact this
theorem EF:∀ l:List fE,l.Nodup->dd l=l
 | [],_=>rfl
 | k::r,h=>by
  obtain⟨b,a⟩:=Yu.mp h;unfold dd;rw [if_neg b,EF r a]
theorem FK:∀{k m:fE},k.length=m.length->gA (k.map J4) (m.map J4)=true
 | [],[],_=>rfl
 | x::k,y::m,h=>by
  show(iN (.int x) (.int y) && gA (k.map J4) (m.map J4))=true
  rw [FK (by simpa using h)];rfl
 | [],_::_,h=>by cases h
 | _::_,[],h=>by cases h
theorem Ep:∀ k:fE,gC (k.map J4)=some k
 | []=>rfl
 | x::k=>by
  have:=Ep k
  show(some [x]).bind (fun a=>(gC (k.map J4)).bind fun b=>some (a++b))=_
  rw [this];rfl
theorem GU{d0:fE}(b:d0≠[]):∀{l:List fE},(∀ k∈l,k.length=d0.length)->fB (d0.map J4) (l.map fP)=some (l.map fK)
 | [],_=>rfl
 | k::l,h=>by
  have a:=h k Qd
  have c:jV (d0.map J4) (fP k)=some k:=by
   cases k with
   | nil=>exact absurd (Yl a.symm) b
   | cons x k=>
    show(if gA (d0.map J4) ((x::k).map J4)=true then gC ((x::k).map J4)else none)=_
    rw [if_pos (FK a.symm),Ep]
  show(jV (d0.map J4) (fP k)).bind _=_
  rw [c,Qj,GU b fun k a=>h k (Qg _ a)];rfl
theorem sS{l:List fE}(h:∀ k∈l,k.length=2)(d:l.length<=63):jD [.list (l.map fP)]=some (.list ((iP l).map fP)):=by
 cases l with
 | nil=>rfl
 | cons a b=>
  have c:a.length=2:=h a Qd;have f:=GU (d0:=a) (fun q=>by rw [q]at c;cases c) (l:=a::b) fun k e=>(h k e).trans c.symm
  show(if(b.map fP).length<63 then(fB (a.map J4) ((a::b).map fP)).bind fun l=>some (Zp ((gI l).map (·.2)))else none)=_
  rw [if_pos (by rw [Ql];simp only [QE]at d;lia),f]
  show some (Zp ((gI ((a::b).map fK)).map (·.2)))=_
  rw [Bt,Yk];rfl
def row(c:C):fE:=[c.1,c.2]
def lN(a b:C):Bool:=HT.lexLt (row a) (row b)
theorem mD(a b:C):lN a b=true ↔ a.1<b.1 ∨ (a.1=b.1/\a.2<b.2):=by
 unfold lN row;rw [HT.lexLt_cons];by_cases h:a.1=b.1
 ·rw [if_pos h,HT.lexLt_cons];by_cases c:a.2=b.2
  ·rw [if_pos c];simp [HT.lexLt];lia
  ·rw [if_neg c];simp;lia
 ·rw [if_neg h];simp;lia
def Up(l:List C):Prop:=l.Pairwise fun a b=>lN a b=true
theorem Bz:∀{l m:List C},Up l->Up m->(∀ c,c∈l ↔ c∈m)->l=m
 | [],[],_,_,_=>rfl
 | [],b::m,_,_,h=>nomatch (h b).mpr Qd
 | a::l,[],_,_,h=>nomatch (h a).mp Qd
 | a::l,b::m,h1,h2,h=>by
  obtain⟨g,j⟩:=Q9.mp h1;obtain⟨f,i⟩:=Q9.mp h2
  have d:∀ c:C,lN c c=true->False:=fun c q=>by rw [mD]at q;lia
  have e:a=b:=by
   rcases Qi.mp ((h a).mp Qd)with q | q
   ·exact q
   ·rcases Qi.mp ((h b).mpr Qd)with r | r
    ·exact r.symm
    ·have x:=f a q;have y:=g b r;rw [mD]at x y;lia
  subst e;congr 1;refine Bz j i fun c=>⟨fun q=>?_,fun q=>?_⟩
  ·rcases Qi.mp ((h c).mp (Qg _ q))with r | r
   ·subst r;exact(d _ (g _ q)).elim
   ·exact r
  ·rcases Qi.mp ((h c).mpr (Qg _ q))with r | r
   ·subst r;exact(d _ (f _ q)).elim
   ·exact r
theorem i3{l:List C}(h:Up l):l.Nodup:=h.imp fun{a b} q e=>by subst e;rw [mD]at q;lia
theorem SO{l:List C}(i:l.Nodup):∃ m:List C,iP (l.map row)=m.map row/\Up m/\∀ c,c∈m ↔ c∈l:=by
 obtain⟨m,j⟩:∃ m:List C,m=(iP (l.map row)).map fun r=>(r.getD 0 0,r.getD 1 0):=⟨_,rfl⟩;have mem:∀ r,r∈iP (l.map row) ↔ r∈l.map row:=fun r=>(Bu _).mem_iff
 have e:iP (l.map row)=m.map row:=by
  rw [j,Yk]
  conv=>lhs;rw [<- List.map_id (iP (l.map row))]
  refine YU fun r g=>?_;obtain⟨c,_,rfl⟩:=QT.mp ((mem r).mp g);rfl
 have inj:∀ a b:C,row a=row b->a=b:=fun a b q=>by
  unfold row at q
  injection q with q1 q2
  injection q2 with q2 _
  exact YX q1 q2
 have f:∀ c,c∈m ↔ c∈l:=fun c=>by
  constructor
  ·intro h
   have:row c∈l.map row:=(mem _).mp (by rw [e];exact JO h)
   obtain⟨d,hd,q⟩:=QT.mp this;rw [<- inj _ _ q];exact hd
  ·intro h
   have:row c∈m.map row:=by rw [<- e];exact(mem _).mpr (JO h)
   obtain⟨d,hd,q⟩:=QT.mp this;rw [<- inj _ _ q];exact hd
 refine⟨m,e,?_,f⟩
 have s:=SS (l.map row)
 have n:(iP (l.map row)).Nodup:=(Bu _).nodup_iff.mpr (by
  rw [List.Nodup,Q2]
  exact i.imp fun{a b} q r=>q (inj _ _ r))
 rw [e]at s n;rw [Q2]at s;rw [List.Nodup,Q2]at n
 refine(s.and n).imp fun{a b} h=>?_
 cases q:lN a b with
 | true=>rfl
 | false=>exact absurd (r8 _ _ q h.1) h.2
theorem Ar(l:List C):(l.map row).map fP=l.map aB:=by rw [Yk];rfl
theorem Bw{l m:List C}(a:l.Nodup)(d:l.length<=63)(b:Up m)(h:∀ c,c∈m ↔ c∈l):jD [.list (l.map aB)]=some (.list (m.map aB)):=by
 rw [<- Ar l,sS (fun k e=>by obtain⟨c,_,rfl⟩:=QT.mp e;rfl) (by rw [Ql];exact d)];obtain⟨j,i,g,f⟩:=SO a;rw [i,Ar,Bz g b fun c=>(f c).trans (h c).symm]
def cells(w h:Nat):List C:=(List.range w).flatMap fun(x:Nat)=>(List.range h).map fun(y:Nat)=>((x:Int),(y:Int))
def dU(w h:Nat)(c:C):Bool:=decide (0<=c.1) && decide (c.1<w) && decide (0<=c.2) && decide (c.2<h)
theorem iW{w h:Nat}{c:C}:dU w h c=true ↔ 0<=c.1/\c.1<w/\0<=c.2/\c.2<h:=by
 unfold dU;simp only [Qy,decide_eq_true_eq];constructor
 ·intro q;exact⟨q.1.1.1,q.1.1.2,q.1.2,q.2⟩
 ·intro q;exact⟨⟨⟨q.1,q.2.1⟩,q.2.2.1⟩,q.2.2.2⟩
theorem kT{w h:Nat}{c:C}:c∈cells w h ↔ dU w h c=true:=by
 unfold cells;rw [List.mem_flatMap,iW];constructor
 ·rintro⟨x,g,i⟩
  obtain⟨y,f,rfl⟩:=QT.mp i
  exact⟨Jh _,Jp.mpr (QR.mp g),Jh _,Jp.mpr (QR.mp f)⟩
 ·rintro⟨b,e,a,d⟩
  exact⟨c.1.toNat,QR.mpr ((UQ b).mpr e),QT.mpr ⟨c.2.toNat,QR.mpr ((UQ a).mpr d),YX (JP b) (JP a)⟩⟩
theorem U9(h:Nat)(x:Nat):Up ((List.range h).map fun(y:Nat)=>((x:Int),(y:Int))):=by
 unfold Up;rw [Q2];refine List.pairwise_lt_range.imp fun{a b} q=>?_;rw [mD];dsimp only;lia
theorem p5(w h:Nat):Up (cells w h):=by
 unfold Up cells;rw [List.pairwise_flatMap]
 refine⟨fun x _=>U9 h x,List.pairwise_lt_range.imp fun{a b} q c hc d hd=>?_⟩
 obtain⟨y,_,rfl⟩:=QT.mp hc;obtain⟨z,_,rfl⟩:=QT.mp hd;rw [mD];dsimp only;lia
theorem lB{l:List C}(h:Up l)(p:C->Bool):Up (l.filter p):=List.Pairwise.filter p h
theorem HD(h:Nat):∀ l:List Nat,(l.map fun _=>h).sum=l.length * h
 | []=>by simp
 | _::l=>by rw [Qp,List.sum_cons,HD h l,QE,Nat.succ_mul,Nat.add_comm]
theorem nX(w h:Nat):(cells w h).length=w * h:=by
 unfold cells;rw [List.length_flatMap];simp only [Ql,Yg];rw [HD,Yg]
end My
namespace My
open PySem.SeqAt L2 DL SD SL EL DC
def v9(b a:Int):Nat->Int->Int->Option (List C)
 | 0,_,_=>none
 | n+1,gx,gy=>if gx<b ∨ gy<a then
   (v9 b a n (if(2 * gx+1) * a<=(2 * gy+1) * b then gx+1 else gx) (if(2 * gy+1) * b<=(2 * gx+1) * a then gy+1 else gy)).bind fun r=>
    some ((if(2 * gx+1) * a<=(2 * gy+1) * b then gx+1 else gx,if(2 * gy+1) * b<=(2 * gx+1) * a then gy+1 else gy)::r)
  else some []
def cU(i:Int):Int:=if i<0 then -i else i
def dX(a:Int):Int:=if 0<a then 1 else -1
def yH(a b:Int):Option (List C):=(v9 (cU a) (cU b) 900 0 0).bind fun c=>some ((0,0)::c.map fun g=>(dX a * g.1,dX b * g.2))
def eW(a b:Int):List C:=(yH a b).getD []
def sub(d:C)(g:C):C:=(g.1-d.1,g.2-d.2)
def add(d:C)(g:C):C:=(d.1+g.1,d.2+g.2)
def lK:List C->List C->Bool
 | [],[]=>true
 | a::l,b::m=>a.1 == b.1 && a.2 == b.2 && lK l m
 | _,_=>false
theorem o9:∀{l m:List C},lK l m=true->l=m
 | [],[],_=>rfl
 | a::l,b::m,h=>by
  unfold lK at h;simp only [Qy,beq_iff_eq]at h;rw [o9 h.2,YX h.1.1 h.1.2]
 | [],_::_,h=>by cases h
 | _::_,[],h=>by cases h
def Cs(a b:Int):Bool:=match yH a b with
 | some ((0,0)::st)=>decide (st.length<=8) && lK (eW (-a) (-b)) ((((0,0)::st).reverse).map (sub (a,b))) && lK (eW (-a) b) (((0,0)::st).map fun g=>(-g.1,g.2)) && lK (eW b a) (((0,0)::st).map fun g=>(g.2,g.1))
   && lK ((((0,0)::st).dropLast++[(a,b)])) ((0,0)::st) && ((0,0)::st).all (fun g=>decide (0<=dX a * g.1) && decide (dX a * g.1<=cU a) && decide (0<=dX b * g.2) && decide (dX b * g.2<=cU b))
 | _=>false
def oO:List Int:=[-4,-3,-2,-1,0,1,2,3,4]
theorem NB:(oO.all fun a=>oO.all fun b=>Cs a b)=true:=by decide +kernel
theorem uN{a:Int}(h:-4<=a)(h':a<=4):a∈oO:=by
 have k:∀ n:Fin 9,((n.val:Int)-4)∈oO:=by decide
 have e:(((a+4).toNat:Nat):Int)-4=a:=by lia
 have:=k ⟨(a+4).toNat,by lia⟩
 rw [e]at this;exact this
structure DK(a b:Int):Prop where
 some:yH a b=some (eW a b)
 len:(eW a b).length<=9
 first:∃ st,eW a b=(0,0)::st
 back:eW (-a) (-b)=(eW a b).reverse.map (sub (a,b))
 mir:eW (-a) b=(eW a b).map fun g=>(-g.1,g.2)
 flip:eW b a=(eW a b).map fun g=>(g.2,g.1)
 last:(eW a b).dropLast++[(a,b)]=eW a b
 box:∀ g∈eW a b,0<=dX a * g.1/\dX a * g.1<=cU a/\0<=dX b * g.2/\dX b * g.2<=cU b
theorem N4{a b:Int}(j:-4<=a)(f:a<=4)(i:-4<=b)(d:b<=4):DK a b:=by
 have c:=QM.mp (QM.mp NB a (uN j f)) b (uN i d);unfold Cs at c
 split at c
 ·rename_i st e
  have r:eW a b=(0,0)::st:=by unfold eW;rw [e];rfl
  simp only [Qy,decide_eq_true_eq]at c;obtain⟨⟨⟨⟨⟨p,o⟩,n⟩,m⟩,l⟩,k⟩:=c
  refine⟨by rw [e,r],by rw [r,QE];lia,⟨st,r⟩,by rw [r];exact o9 o,by rw [r];exact o9 n,by rw [r];exact o9 m,by rw [r];exact o9 l,fun g h=>?_⟩
  rw [r]at h
  have:=QM.mp k g h
  simp only [Qy,decide_eq_true_eq]at this
  exact⟨this.1.1.1,this.1.1.2,this.1.2,this.2⟩
 ·cases c
def eQ(g h:C):Bool := !(g.1 == h.1) && !(g.2 == h.2)
def gQ(S:C->Bool):List C->Bool
 | g::h::r=>(!eQ g h || !(S (g.1,h.2) && S (h.1,g.2))) && gQ S (h::r)
 | _=>true
theorem q9(S:C->Bool)(g h:C)(r:List C):gQ S (g::h::r)=((!eQ g h || !(S (g.1,h.2) && S (h.1,g.2))) && gQ S (h::r)):=rfl
theorem Hv(S:C->Bool):∀(l:List C) (g h:C),gQ S (l++[g,h])=(gQ S (l++[g]) && gQ S [g,h])
 | [],g,h=>by simp [gQ]
 | [a],g,h=>by simp [gQ]
 | a::b::l,g,h=>by
  have c:=Hv S (b::l) g h;rw [Yy,Yy]at c;rw [Yy,Yy,Yy,Yy,q9,q9,c,Bool.and_assoc]
theorem Nb(g h:C):eQ g h=eQ h g:=by
 unfold eQ;rw [Q6];simp only [Qy,Q8,beq_eq_false_iff_ne,ne_eq]
 constructor <;> (rintro⟨a,b⟩;exact⟨fun q=>a q.symm,fun q=>b q.symm⟩)
theorem Hw(S:C->Bool):∀ l:List C,gQ S l.reverse=gQ S l
 | []=>rfl
 | [a]=>rfl
 | a::b::l=>by
  have c:=Hw S (b::l);rw [List.reverse_cons]at c;rw [List.reverse_cons,List.reverse_cons,QL,List.singleton_append,Hv,c,q9,UE];congr 1
  show((!eQ b a || !(S (b.1,a.2) && S (a.1,b.2))) && true)=_
  rw [Bool.and_true,Nb b a,UE (S (b.1,a.2))]
def line(a b:C):List C:=(eW (b.1-a.1) (b.2-a.2)).map (add a)
def clear(S:C->Bool)(a b:C):Bool:=(line a b).dropLast.all (fun c => !S c) && gQ S (line a b)
def bT(S:C->Bool)(a b:C):Bool := !S b && clear S a b
structure hJ(a b:C):Prop where
 x0:-4<=b.1-a.1
 x1:b.1-a.1<=4
 y0:-4<=b.2-a.2
 y1:b.2-a.2<=4
theorem hJ.ok{a b:C}(n:hJ a b):DK (b.1-a.1) (b.2-a.2):=N4 n.x0 n.x1 n.y0 n.y1
theorem hJ.symm{a b:C}(n:hJ a b):hJ b a:=by
 obtain⟨f,e,d,c⟩:=n
 exact⟨by lia,by lia,by lia,by lia⟩
theorem Az{a b:C}(n:hJ a b):(line a b).dropLast++[b]=line a b:=by
 have:=n.ok.last
 unfold line
 conv=>rhs;rw [<- this,QZ]
 rw [List.map_dropLast.symm];congr 1
 show [b]=[(a.1+(b.1-a.1),a.2+(b.2-a.2))]
 congr 1;exact YX (by dsimp only;lia) (by dsimp only;lia)
theorem N2{a b:C}(n:hJ a b):∃ st,line a b=a::st:=by
 obtain⟨st,e⟩:=n.ok.first;unfold line;rw [e]
 exact⟨st.map (add a),by rw [Qp];congr 1;exact YX (by show a.1+0=a.1;lia) (by show a.2+0=a.2;lia)⟩
theorem Bq{S:C->Bool}{a b:C}(n:hJ a b):bT S a b=((line a b).all (fun c => !S c) && gQ S (line a b)):=by
 unfold bT clear
 conv=>rhs;rw [<- Az n,List.all_append,Az n]
 simp only [List.all_cons,List.all_nil,Bool.and_true];rw [<- Bool.and_assoc,UE (!S b)]
theorem N5{a b:C}(n:hJ a b):line b a=(line a b).reverse:=by
 unfold line
 have d:a.1-b.1=-(b.1-a.1):=by lia
 have c:a.2-b.2=-(b.2-a.2):=by lia
 rw [d,c,n.ok.back,Yk,List.map_reverse];congr 1;refine YU fun g _=>?_;exact YX (by show b.1+(g.1-(b.1-a.1))=a.1+g.1;lia) (by show b.2+(g.2-(b.2-a.2))=a.2+g.2;lia)
theorem G2{S:C->Bool}{a b:C}(n:hJ a b):bT S a b=bT S b a:=by
 rw [Bq n,Bq n.symm,N5 n,Hw,List.all_reverse]
def uQ:List C:=[(0,0),(1,0),(-1,0),(0,1),(0,-1)]
theorem Pg:(uQ.all fun d=>(eW d.1 d.2).dropLast.all (fun g=>g.1 == 0 && g.2 == 0) && lK (eW d.1 d.2) (if d.1 == 0 && d.2 == 0 then [(0,0)]else [(0,0),d]))=true:=by decide +kernel
theorem Ev{S:C->Bool}{a b:C}(h:cU (b.1-a.1)+cU (b.2-a.2)<2)(hs:S a=false):clear S a b=true:=by
 have hd:((b.1-a.1,b.2-a.2):C)∈uQ:=by
  unfold cU at h
  have:(b.1-a.1=0/\b.2-a.2=0) ∨ (b.1-a.1=1/\b.2-a.2=0) ∨ (b.1-a.1=-1/\b.2-a.2=0) ∨ (b.1-a.1=0/\b.2-a.2=1) ∨ (b.1-a.1=0/\b.2-a.2=-1):=by
   split at h <;> split at h <;> lia
  unfold uQ
  rcases this with⟨p,q⟩ | ⟨p,q⟩ | ⟨p,q⟩ | ⟨p,q⟩ | ⟨p,q⟩ <;> rw [p,q] <;> decide
 have c:=QM.mp Pg _ hd;rw [Qy]at c;have e:=o9 c.2;have i:=c.1;have d:add a (0,0)=a:=YX (by show a.1+0=a.1;lia) (by show a.2+0=a.2;lia);unfold clear line;dsimp only at e;by_cases z:((b.1-a.1 == 0) && (b.2-a.2 == 0))=true
 ·rw [if_pos z]at e;rw [e]
  simp [gQ]
 ·rw [if_neg z]at e;rw [e]
  have g:eQ (add a (0,0)) (add a (b.1-a.1,b.2-a.2))=false:=by
   rw [d];unfold eQ add;dsimp only;have f:=hd;unfold uQ at f;simp only [Qi,Ju,or_false,Prod.mk.injEq]at f
   rcases f with⟨p,q⟩ | ⟨p,q⟩ | ⟨p,q⟩ | ⟨p,q⟩ | ⟨p,q⟩ <;> rw [p,q] <;> simp
  rw [d]at g;simp only [Qp,List.map_nil,List.dropLast,gQ,d]
  simp [hs,g]
end My
namespace My
def eL:List Nat:=[110,101,115,119]
def iC(x:Nat):C:=if x=110 then(0,-1)else if x=101 then(1,0)else if x=115 then(0,1)else(-1,0)
def t6(x:Nat):Nat:=if x=110 then 115 else if x=101 then 119 else if x=115 then 110 else 101
def bL(a:C)(x:Nat):C:=(a.1+(iC x).1,a.2+(iC x).2)
theorem BC{x:Nat}(h:x∈eL):x=110 ∨ x=101 ∨ x=115 ∨ x=119:=by
 unfold eL at h
 simpa using h
theorem He{x:Nat}(h:x∈eL)(a:C):t6 x∈eL/\bL (bL a x) (t6 x)=a:=by
 obtain⟨p,q⟩:=a;rcases BC h with rfl | rfl | rfl | rfl
 ·exact⟨by decide,YX (show p+0+0=p by lia) (show q + -1+1=q by lia)⟩
 ·exact⟨by decide,YX (show p+1 + -1=p by lia) (show q+0+0=q by lia)⟩
 ·exact⟨by decide,YX (show p+0+0=p by lia) (show q+1 + -1=q by lia)⟩
 ·exact⟨by decide,YX (show p + -1+1=p by lia) (show q+0+0=q by lia)⟩
def vis:C->List Nat->List C
 | s,[]=>[s]
 | s,x::u=>s::vis (bL s x) u
def fin:C->List Nat->C
 | s,[]=>s
 | s,x::u=>fin (bL s x) u
theorem uZ:∀(s:C) (u:List Nat) (x:Nat),fin s (u++[x])=bL (fin s u) x
 | _,[],_=>rfl
 | s,y::u,x=>uZ (bL s y) u x
theorem sV:∀(s:C) (u:List Nat) (x:Nat),vis s (u++[x])=vis s u++[bL (fin s u) x]
 | _,[],_=>rfl
 | s,y::u,x=>congrArg (s::·) (sV (bL s y) u x)
theorem H7:∀(s:C) (u:List Nat),(vis s u).length=u.length+1
 | _,[]=>rfl
 | s,y::u=>by show(vis (bL s y) u).length+1=_;rw [H7];rfl
theorem H0:∀(s:C) (u:List Nat),∃ l,vis s u=l++[fin s u]
 | s,[]=>⟨[],rfl⟩
 | s,y::u=>by
  obtain⟨l,e⟩:=H0 (bL s y) u
  exact⟨s::l,congrArg (s::·) e⟩
theorem El(s:C)(u:List Nat):fin s u∈vis s u:=by
 obtain⟨l,e⟩:=H0 s u;rw [e];exact Qu _ (Qm.mpr rfl)
theorem S8(s:C)(u:List Nat):s∈vis s u:=by
 cases u <;> exact Qd
structure Pt(G:List C)(s:C)(u:List Nat)(c:C):Prop where
 w:∀ x∈u,x∈eL
 e:fin s u=c
 i:∀ x∈vis s u,x∈G
theorem Pt.nil{G:List C}{s:C}(h:s∈G):Pt G s [] s:=⟨fun _ h=>(nomatch h),rfl,fun x a=>by rw [Qm.mp a];exact h⟩
theorem Pt.snoc{G:List C}{s a:C}{u:List Nat}{x:Nat}(p:Pt G s u a)(c:x∈eL)(h:bL a x∈G):Pt G s (u++[x]) (bL a x):=by
 refine⟨fun y b=>?_,by rw [uZ,p.e],fun y b=>?_⟩
 ·rcases Qx.mp b with b | b
  ·exact p.w y b
  ·rw [Qm.mp b];exact c
 ·rw [sV,p.e]at b;rcases Qx.mp b with b | b
  ·exact p.i y b
  ·rw [Qm.mp b];exact h
theorem Pt.unsnoc{G:List C}{s c:C}{u:List Nat}{x:Nat}(p:Pt G s (u++[x]) c):Pt G s u (fin s u)/\c=bL (fin s u) x/\x∈eL/\c∈G:=by
 refine⟨⟨fun y a=>p.w y (QG _ a),rfl,fun y a=>p.i y (by rw [sV];exact QG _ a)⟩,by rw [<- p.e,uZ],p.w x (Qu _ (Qm.mpr rfl)),?_⟩
 rw [<- p.e];exact p.i _ (El _ _)
theorem Pt.start{G:List C}{s c:C}{u:List Nat}(p:Pt G s u c):s∈G:=p.i s (S8 s u)
theorem Pt.stop{G:List C}{s c:C}{u:List Nat}(p:Pt G s u c):c∈G:=by rw [<- p.e];exact p.i _ (El s u)
def back(u:List Nat):List Nat:=(u.map t6).reverse
theorem HZ:∀(s:C) (u:List Nat),(∀ x∈u,x∈eL)->fin (fin s u) (back u)=s/\vis (fin s u) (back u)=(vis s u).reverse
 | s,[],_=>⟨rfl,rfl⟩
 | s,x::u,h=>by
  obtain⟨a,c⟩:=HZ (bL s x) u fun y b=>h y (Qg _ b)
  have e:back (x::u)=back u++[t6 x]:=by unfold back;simp
  have o:=(He (h x Qd) s).2;constructor
  ·show fin (fin (bL s x) u) (back (x::u))=s
   rw [e,uZ,a,o]
  ·show vis (fin (bL s x) u) (back (x::u))=(s::vis (bL s x) u).reverse
   rw [e,sV,a,c,o,List.reverse_cons]
theorem Pt.back{G:List C}{s c:C}{u:List Nat}(p:Pt G s u c):Pt G c (back u) s:=by
 obtain⟨d,b⟩:=HZ s u p.w;rw [p.e]at d b
 refine⟨fun x a=>?_,d,fun x a=>p.i x ?_⟩
 ·unfold My.back at a;rw [List.mem_reverse]at a;obtain⟨y,f,rfl⟩:=QT.mp a
  exact(He (p.w y f) (0,0)).1
 ·rw [b,List.mem_reverse]at a;exact a
theorem Av(u:List Nat):u=[] ∨ ∃ v x,u=v++[x]:=by
 rcases List.eq_nil_or_concat u with h | ⟨v,x,h⟩
 ·exact .inl h
 ·exact .inr ⟨v,x,by simpa using h⟩
structure Lv(G:List C)(s:C)(k:Nat)(K:List C)(g:C->List Nat)(R:List C):Prop where
 st:s∈G
 b:∀ c∈K,Pt G s (g c) c
 c:∀ c∈K,∀ u,Pt G s u c->(g c).length<=u.length
 d:∀ c,(∃ u,Pt G s u c/\u.length<=k)->c∈K
 e:∀ c∈R,c∈K/\(g c).length=k
 f:∀ c∈K,(g c).length<=k
 r:∀ c∈K,(g c).length=k->c∈R
structure Md(G:List C)(k:Nat)(K:List C)(g:C->List Nat)(P:C->Nat->Prop)(K':List C)(g':C->List Nat)(Fa:List C)(s:C):Prop where
 up:∀ c∈K,c∈K'/\g' c=g c
 nw:∀ c∈K',c∉K->Pt G s (g' c) c/\(g' c).length=k+1
 fa:∀ c,c∈Fa ↔ c∈K'/\c∉K
 cl:∀ a x,P a x->bL a x∈G->bL a x∈K'
theorem Lv.zero{G:List C}{s:C}(h:s∈G)(g:C->List Nat)(b:g s=[]):Lv G s 0 [s] g [s]:=by
 refine⟨h,fun c a=>?_,fun c a u _=>?_,fun c ⟨u,p,d⟩=>?_,fun c a=>?_,fun c a=>?_,fun c a _=>a⟩
 ·rw [Qm.mp a,b];exact Pt.nil h
 ·rw [Qm.mp a,b];exact QY _
 ·have:u=[]:=List.length_eq_zero_iff.mp (by lia)
  subst this;rw [<- p.e];exact Qm.mpr rfl
 ·exact⟨a,by rw [Qm.mp a,b];rfl⟩
 ·rw [Qm.mp a,b];exact Qk _
theorem Md.start{G:List C}{s:C}{k:Nat}{K R:List C}{g:C->List Nat}:Md G k K g (fun _ _=>False) K g [] s:=
 ⟨fun c h=>⟨h,rfl⟩,fun c h n=>absurd h n,fun c=>by simp,fun _ _ h=>h.elim⟩
theorem Md.old{G:List C}{s a:C}{x k:Nat}{K c Fa:List C}{g g':C->List Nat}{P:C->Nat->Prop}(m:Md G k K g P c g' Fa s)(h:bL a x∈G->bL a x∈c):Md G k K g (fun b y=>P b y ∨ (b=a/\y=x)) c g' Fa s:=
 ⟨m.up,m.nw,m.fa,fun b y p d=>by
  rcases p with p | ⟨rfl,rfl⟩
  ·exact m.cl b y p d
  ·exact h d⟩
def jY(g:C->List Nat)(c:C)(v:List Nat):C->List Nat:=fun x=>if x=c then v else g x
theorem Md.add{G:List C}{s a:C}{x k:Nat}{K j Fa R:List C}{g g':C->List Nat}{P:C->Nat->Prop}(l:Lv G s k K g R)(m:Md G k K g P j g' Fa s)(n:a∈R)(t:x∈eL)(v:bL a x∈G)(u:bL a x∉j):
  Md G k K g (fun b y=>P b y ∨ (b=a/\y=x)) (j++[bL a x]) (jY g' (bL a x) (g' a++[x])) (Fa++[bL a x]) s:=by
 have f:bL a x∉K:=fun z=>u (m.up _ z).1;have o:=(l.e a n).1;have A:g' a=g a:=(m.up a o).2;have w:(g a).length=k:=(l.e a n).2
 refine⟨fun c d=>⟨QG _ (m.up c d).1,?_⟩,fun c d q=>?_,fun c=>?_,fun b y p r=>?_⟩
 ·unfold jY;rw [if_neg (fun z=>f (by rw [<- z];exact d))]
  exact(m.up c d).2
 ·unfold jY;by_cases e:c=bL a x
  ·rw [if_pos e,A,e]
   exact⟨(l.b a o).snoc t v,by rw [Qf,w];rfl⟩
  ·rw [if_neg e];rcases Qx.mp d with d | d
   ·exact m.nw c d q
   ·exact absurd (Qm.mp d) e
 ·rw [Qx,Qx,m.fa,Qm];constructor
  ·rintro(⟨h,i⟩ | rfl)
   ·exact⟨.inl h,i⟩
   ·exact⟨.inr rfl,f⟩
  ·rintro⟨h | h,i⟩
   ·exact .inl ⟨h,i⟩
   ·exact .inr h
 ·rcases p with p | ⟨rfl,rfl⟩
  ·exact QG _ (m.cl b y p r)
  ·exact Qu _ (Qm.mpr rfl)
theorem Lv.next{G:List C}{s:C}{k:Nat}{K y Fa R:List C}{g g':C->List Nat}(l:Lv G s k K g R){P:C->Nat->Prop}(m:Md G k K g P y g' Fa s)(F:∀ a∈R,∀ x∈eL,P a x):Lv G s (k+1) y g' Fa:=by
 have old:∀ c,c∈K->(g' c).length<=k:=fun c i=>by rw [(m.up c i).2];exact l.f c i
 refine⟨l.st,fun c i=>?_,fun c i u p=>?_,fun c ⟨u,p,j⟩=>?_,fun c i=>?_,fun c i=>?_,fun c i e=>?_⟩
 ·by_cases h:c∈K
  ·rw [(m.up c h).2];exact l.b c h
  ·exact(m.nw c i h).1
 ·by_cases h:c∈K
  ·rw [(m.up c h).2];exact l.c c h u p
  ·rw [(m.nw c i h).2];by_cases j:u.length<=k
   ·exact absurd (l.d c ⟨u,p,j⟩) h
   ·lia
 ·rcases Av u with rfl | ⟨v,x,rfl⟩
  ·exact(m.up c (l.d c ⟨[],p,QY _⟩)).1
  ·obtain⟨A,o,t,n⟩:=p.unsnoc;rw [Qf]at j
   have B:v.length<=k:=by simpa using j
   have q:=l.d _ ⟨v,A,B⟩;by_cases E:(g (fin s v)).length=k
   ·rw [o]at n ⊢;exact m.cl _ x (F _ (l.r _ q E) x t) n
   ·have:(g (fin s v)).length<k:=by have:=l.f _ q;lia
    have z:=(l.b _ q).snoc t (by rw [<- o];exact n);rw [o]
    exact(m.up _ (l.d _ ⟨_,z,by rw [Qf];exact this⟩)).1
 ·obtain⟨w,H⟩:=(m.fa c).mp i
  exact⟨w,(m.nw c w H).2⟩
 ·by_cases h:c∈K
  ·have:=old c h;lia
  ·rw [(m.nw c i h).2];exact Qk _
 ·refine(m.fa c).mpr ⟨i,fun h=>?_⟩
  have:=old c h
  lia
theorem Lv.all{G:List C}{s:C}{k:Nat}{K:List C}{g:C->List Nat}(l:Lv G s k K g []):∀(u:List Nat) (c:C),Pt G s u c->c∈K:=by
 intro u;generalize hn:u.length=n
 induction n generalizing u with
 | zero=>
  intro c p;exact l.d c ⟨u,p,by lia⟩
 | succ n j=>
  intro c p;rcases Av u with rfl | ⟨v,x,rfl⟩
  ·exact l.d c ⟨[],p,QY _⟩
  ·obtain⟨i,e,m,o⟩:=p.unsnoc;have a:=j v (by simpa using hn) _ i;have q:=l.f _ a
   have:(g (fin s v)).length≠k:=fun z=>(nomatch l.r _ a z)
   have h:=(l.b _ a).snoc m (by rw [<- e];exact o);rw [e];exact l.d _ ⟨_,h,by rw [Qf];show _+1<=k;lia⟩
theorem Ei{p q:C->Bool}(d:∀ c,q c=true->p c=true)(l:List C):(l.filter q).length<=(l.filter p).length:=by
 induction l with
 | nil=>exact Qk _
 | cons b l a=>
  rw [Ys,Ys]
  cases e:q b with
  | true=>rw [d b e];simpa using a
  | false=>
   cases p b with
   | true=>simp;lia
   | false=>simpa using a
theorem Ej{p q:C->Bool}(f:∀ c,q c=true->p c=true){l:List C}(h:∃ x∈l,p x=true/\q x=false):(l.filter q).length<(l.filter p).length:=by
 obtain⟨x,d,i,g⟩:=h
 induction l with
 | nil=>cases d
 | cons a l b=>
  rw [Ys,Ys];rcases Qi.mp d with e | d
  ·subst e;rw [i,g]
   have:=Ei f l
   simp;lia
  ·have b:=b d
   cases e:q a with
   | true=>rw [f a e];simpa using b
   | false=>
    cases p a with
    | true=>simp;lia
    | false=>simpa using b
end My
namespace My
inductive Cn(e:C->C->Bool)(O:List C)(s:C):List C->C->Prop
 | one:s∈O->Cn e O s [s] s
 | snoc {l:List C}{a x:C}:Cn e O s l a->x∈O->e a x=true->Cn e O s (l++[x]) x
section
variable {e:C->C->Bool}{O:List C}{s:C}
theorem Cn.mem{l:List C}{c:C}(h:Cn e O s l c):∀ x∈l,x∈O:=by
 induction h with
 | one h=>intro x a;rw [Qm.mp a];exact h
 | snoc _ h _ b=>
  intro x a;rcases Qx.mp a with a | a
  ·exact b x a
  ·rw [Qm.mp a];exact h
theorem Cn.pos{l:List C}{c:C}(h:Cn e O s l c):1<=l.length:=by
 cases h with
 | one=>exact Qk _
 | snoc=>rw [Qf,QF];lia
theorem Cn.last{l:List C}{c:C}(h:Cn e O s l c):∃ p,l=p++[c]:=by
 cases h with
 | one=>exact⟨[],rfl⟩
 | snoc=>exact⟨_,rfl⟩
theorem Cn.hd{l:List C}{c:C}(h:Cn e O s l c):∃ m,l=s::m:=by
 induction h with
 | one=>exact⟨[],rfl⟩
 | snoc _ _ _ a=>obtain⟨m,rfl⟩:=a;exact⟨_,rfl⟩
theorem Cn.stop{l:List C}{c:C}(h:Cn e O s l c):c∈O:=by
 obtain⟨p,rfl⟩:=h.last;exact h.mem c (by simp)
theorem Cn.start{l:List C}{c:C}(h:Cn e O s l c):s∈O:=by
 obtain⟨m,rfl⟩:=h.hd;exact h.mem s Qd
theorem Cn.join{l m:List C}{a c:C}(h:Cn e O s l a)(g:Cn e O a m c):∀ q,m=a::q->Cn e O s (l++q) c:=by
 induction g with
 | one=>intro q d;injection d with _ d;subst d;rw [QO];exact h
 | @snoc m b x _ hx he ih=>
  intro q d;rcases m with _ | ⟨i,m⟩
  ·rename_i f;exact absurd f.pos (by simp)
  ·rw [Yy]at d
   injection d with e1 e2
   subst e2;rw [<- QL]
   exact(ih m (by rw [e1])).snoc hx he
theorem Aw{p q:List C}{a b:C}(h:p++[a]=q++[b]):p=q/\a=b:=by
 have:=List.append_inj' h rfl
 exact⟨this.1,by simpa using this.2⟩
theorem Cn.unsnoc{p:List C}{c x:C}(h:Cn e O s (p++[x]) c):c=x/\(p=[] ∨ ∃ a,Cn e O s p a/\e a x=true):=by
 generalize hl:p++[x]=l at h
 cases h with
 | one=>
  have:=Aw (p:=p) (q:=[]) hl
  exact⟨this.2.symm,.inl this.1⟩
 | @snoc l a y h hx he=>
  obtain⟨rfl,rfl⟩:=Aw hl
  exact⟨rfl,.inr ⟨a,h,he⟩⟩
theorem Cn.split:∀(m:List C) {p:List C}{a c:C},Cn e O s (p++a::m) c->Cn e O s (p++[a]) a/\Cn e O a (a::m) c:=by
 intro m
 induction h:m.length generalizing m with
 | zero=>
  intro p a c d
  have:m=[]:=Yl h
  subst this;obtain⟨rfl,_⟩:=d.unsnoc
  exact⟨d,.one d.stop⟩
 | succ n f=>
  intro p a c d
  obtain⟨q,x,rfl⟩:∃ q x,m=q++[x]:=by
   rcases List.eq_nil_or_concat m with rfl | ⟨q,x,g⟩
   ·cases h
   ·exact⟨q,x,by simpa using g⟩
  rw [<- Yy,<- QL]at d;obtain⟨rfl,z⟩:=d.unsnoc;rcases z with z | ⟨b,j,i⟩
  ·exact absurd z (by simp)
  ·have:=f q (by simpa using h) j
   exact⟨this.1,this.2.snoc d.stop i⟩
theorem Cn.rev(f:∀ a∈O,∀ b∈O,e a b=e b a){l:List C}{c:C}(h:Cn e O s l c):Cn e O c l.reverse s:=by
 induction h with
 | one h=>exact .one h
 | @snoc l a x h hx he ih=>
  rw [List.reverse_append];have g:Cn e O x ([x]++[a]) a:=(Cn.one hx).snoc h.stop (by rw [<- f a h.stop x hx];exact he);obtain⟨m,d⟩:=ih.hd
  have:=g.join ih m d
  rw [d]
  simpa using this
def Sh(e:C->C->Bool)(O:List C)(s:C)(l:List C)(c:C):Prop:=Cn e O s l c/\∀ m,Cn e O s m c->l.length<=m.length
theorem Sh.near{l:List C}{c:C}(h:Sh e O s l c){p k q:List C}{a b:C}(d:l=p++a::(k++b::q)):(e a b=true ↔ k=[])/\a≠b:=by
 obtain⟨n,m⟩:=h;rw [d]at n;obtain⟨r,o⟩:=Cn.split _ n;rw [<- Yy]at o;obtain⟨j,i⟩:=Cn.split _ o
 refine⟨⟨fun f=>?_,fun z=>?_⟩,fun z=>?_⟩
 ·have g:=(r.snoc i.start f).join i q rfl
  have:=m _ g
  rw [d]at this;simp only [Qf,QE,Y9]at this;exact Yl (by lia)
 ·subst z;have j:Cn e O a ([a]++[b]) b:=j;obtain⟨_,z⟩:=j.unsnoc;rcases z with z | ⟨w,u,f⟩
  ·cases z
  ·have:=u.last
   obtain⟨v,t⟩:=this
   have:=Aw (p:=[]) t
   rw [this.2];exact f
 ·subst z;have g:=r.join i q rfl
  have:=m _ g
  rw [d]at this;simp only [Qf,QE,Y9]at this;lia
structure Cv(e:C->C->Bool)(O:List C)(s:C)(k:Nat)(K:List C)(g:C->List C)(R:List C):Prop where
 nd:K.Nodup
 m:∀ c∈K,c∈O
 b:∀ c∈K,Sh e O s (g c) c/\(g c).length<=k+1
 r:∀ c,c∈R ↔ c∈K/\(g c).length=k+1
 d:∀ l c,Cn e O s l c->l.length<=k+1->c∈K
structure Cw(e:C->C->Bool)(O:List C)(K:List C)(g:C->List C)(P:C->Prop)(K':List C)(g':C->List C)(Fa:List C):Prop where
 k:K'=K++Fa
 nd:K'.Nodup
 m:∀ c∈Fa,c∈O
 old:∀ c∈K,g' c=g c
 new:∀ c∈Fa,∃ a∈K,P a/\e a c=true/\g' c=g a++[c]
 all:∀ a,P a->∀ x∈O,e a x=true->x∈K'
theorem Cv.zero(h:s∈O):Cv e O s 0 [s] (fun _=>[s]) [s]:=by
 refine⟨by simp,fun c a=>by rw [Qm.mp a];exact h,fun c a=>?_,fun c=>?_,fun l c a d=>?_⟩
 ·rw [Qm.mp a]
  exact⟨⟨.one h,fun m b=>b.pos⟩,Qk _⟩
 ·exact⟨fun z=>⟨z,rfl⟩,fun z=>z.1⟩
 ·cases a with
  | one=>exact List.mem_singleton_self _
  | snoc f _ _=>
   have:=f.pos
   rw [Qf,QF]at d;lia
theorem Cw.start{K:List C}{g:C->List C}(h:K.Nodup):Cw e O K g (fun _=>False) K g []:=
 ⟨by simp,h,fun c a=>(nomatch a),fun _ _=>rfl,fun c a=>(nomatch a),fun _ z=>z.elim⟩
def gD(g':C->List C)(a:C)(g:C->List C)(b:List C):C->List C:=fun x=>if x∈b then g a++[x]else g' x
theorem Cw.step{K K' Fa:List C}{g g':C->List C}{P:C->Prop}{a:C}{fo:List C}(w:Cw e O K g P K' g' Fa)(q:a∈K)(i:∀ x,x∈fo ↔ x∈O/\x∉K'/\e a x=true)(p:fo.Nodup):
  Cw e O K g (fun b=>P b ∨ b=a) (K'++fo) (gD g' a g fo) (Fa++fo):=by
 have j:∀ c∈K',c∉fo:=fun c d z=>((i c).mp z).2.1 d
 have f:∀ c∈K,c∈K':=fun c d=>by rw [w.k];exact QG _ d
 refine⟨by rw [w.k,QL],Yn.mpr ⟨w.nd,p,fun x h y o z=>j x h (by rw [z];exact o)⟩,fun c d=>?_,fun c d=>?_,fun c d=>?_,fun b l x h n=>?_⟩
 ·rcases Qx.mp d with d | d
  ·exact w.m c d
  ·exact((i c).mp d).1
 ·unfold gD;rw [if_neg (j c (f c d))];exact w.old c d
 ·rcases Qx.mp d with d | d
  ·obtain⟨b,u,t,s,r⟩:=w.new c d
   refine⟨b,u,.inl t,s,?_⟩
   unfold gD;rw [if_neg (j c (by rw [w.k];exact Qu _ d))];exact r
  ·refine⟨a,q,.inr rfl,((i c).mp d).2.2,?_⟩
   unfold gD;rw [if_pos d]
 ·rcases l with l | rfl
  ·exact QG _ (w.all b l x h n)
  ·by_cases z:x∈K'
   ·exact QG _ z
   ·exact Qu _ ((i x).mpr ⟨h,z,n⟩)
theorem Cv.next{k:Nat}{K q R Fa:List C}{g g':C->List C}{P:C->Prop}(v:Cv e O s k K g R)(w:Cw e O K g P q g' Fa)(o:∀ a,P a ↔ a∈R):Cv e O s (k+1) q g' Fa:=by
 have t:∀ c∈Fa,c∉K:=fun c f z=>by
  have:=w.nd
  rw [w.k,Yn]at this;exact this.2.2 c z c f rfl
 have h:∀ c∈Fa,Cn e O s (g' c) c/\(g' c).length=k+2:=fun c f=>by
  obtain⟨a,i,p,B,A⟩:=w.new c f;have E:=(v.r a).mp ((o a).mp p);rw [A]
  exact⟨((v.b a i).1.1).snoc (w.m c f) B,by rw [Qf,QF];lia⟩
 refine⟨w.nd,fun c f=>?_,fun c f=>?_,fun c=>⟨fun f=>⟨by rw [w.k];exact Qu _ f,(h c f).2⟩,fun⟨f,j⟩=>?_⟩,fun l c f j=>?_⟩
 ·rw [w.k]at f;rcases Qx.mp f with f | f
  ·exact v.m c f
  ·exact w.m c f
 ·rw [w.k]at f;rcases Qx.mp f with f | f
  ·rw [w.old c f]
   exact⟨(v.b c f).1,by have:=(v.b c f).2;lia⟩
  ·obtain⟨i,p⟩:=h c f
   refine⟨⟨i,fun m u=>?_⟩,by lia⟩
   by_cases z:m.length<=k+1
   ·exact absurd (v.d m c u z) (t c f)
   ·lia
 ·rw [w.k]at f;rcases Qx.mp f with f | f
  ·rw [w.old c f]at j
   have:=(v.b c f).2
   lia
  ·exact f
 ·by_cases z:l.length<=k+1
  ·rw [w.k];exact QG _ (v.d l c f z)
  ·cases f with
   | one=>simp at z
   | @snoc l a x i hx he=>
    rw [Qf,QF]at j z;have n:=v.d l a i (by lia);by_cases y:(g a).length=k+1
    ·exact w.all a ((o a).mpr ((v.r a).mpr ⟨n,y⟩)) c hx he
    ·have:=(v.b a n)
     rw [w.k];exact QG _ (v.d _ c (this.1.1.snoc hx he) (by rw [Qf,QF];lia))
theorem Cv.all{k:Nat}{K:List C}{g:C->List C}(v:Cv e O s k K g []):∀(l:List C) (c:C),Cn e O s l c->c∈K:=by
 intro l c h
 induction h with
 | one h=>exact v.d _ _ (.one h) (by simp)
 | @snoc l a x h hx he ih=>
  have f:=v.b a ih
  have:(g a).length≠k+1:=fun z=>(nomatch (v.r a).mpr ⟨ih,z⟩)
  exact v.d _ x (f.1.1.snoc hx he) (by rw [Qf,QF];lia)
end
open PySem.SeqAt L2 DL SD SL EL DC
def dH(ns:List Int):D:=.list (ns.map J4)
theorem vK:∀ ns:List Int,J8 (ns.map J4)=true/\J9 (ns.map J4)=0
 | []=>⟨rfl,rfl⟩
 | _::r=>⟨by simp [J8,Zw,(vK r).1],by simp [J9,ZZ,(vK r).2]⟩
theorem TZ(ns:List Int):Zq (dH ns)=true:=by
 simp [Zq,dH,Zw,ZZ,(vK ns).1,(vK ns).2]
theorem ME{ns:List Int}{i:Int}(b:0<=i)(a:i<ns.length):∃ r,bH (dH ns) (.int i)=some (.int r):=by
 show ∃ r,L2.atI (ns.map J4) i=some (.int r)
 unfold L2.atI L2.ixN;rw [Ql,if_pos b,if_pos a]
 have:i.toNat<ns.length:=by lia
 exact⟨ns[i.toNat],by simp [this]⟩
theorem Ny(ns:List Int)(l:ns.length<=63)(k:Int):∃ r,sF [dH ns,.int k]=some (.int r):=by
 cases ns with
 | nil=>
  have e:iG (dH []) (.list [])=some (.bool true):=rfl;have m:dG (.int 7) (.int k)=some (.int (7 * k)):=j7 (lP (by decide) (by decide))
  exact⟨7 * k,cZ (wO (iY (b:=true) rfl (fun _=>cV (oo rfl rfl m)) fun z=>by cases z))⟩
 | cons n ns=>
  have c:(0:Int)<((n::ns).length:Int):=by rw [QE];lia
  have e:iG (dH (n::ns)) (.list [])=some (.bool false):=by
   unfold iG;rw [TZ];rfl
  have d:eH [dH (n::ns)]=some (.int ((n::ns).length:Int)):=by
   show some (J4 (((n::ns).map J4).length:Int))=_
   rw [Ql]
  obtain⟨r,j⟩:=ME (ns:=n::ns) (i:=k % ((n::ns).length:Int)) (UP _ (by lia)) (Jy _ c)
  have a:((n::ns).length:Int)<1073741824:=by lia
  generalize ((n::ns).length:Int)=L at *;generalize dH (n::ns)=S at *;have h:=nG (i:=k) c;have g:=zJ (i:=k) (yB c a);have f:dG (.int 6553) (.int (k / L))=some (.int (6553 * (k / L))):=j7 (lP (by decide) (by decide))
  exact⟨r+6553 * (k / L),cZ (aV (eF (oB (oo rfl rfl e))) (cV (oo (oo rfl (oo rfl (bD rfl d) h) j) (oo rfl (oo rfl (bD rfl d) g) f) rfl)))⟩
def dr(ns:List Int)(k m:Int):Int:=match gX [dH ns,.int k,.int m]with
 | some (.int r)=>r
 | _=>0
theorem nA(ns:List Int)(q:ns.length<=63)(k m:Int)(d:0<m):gX [dH ns,.int k,.int m]=some (.int (dr ns k m))/\0<=dr ns k m/\dr ns k m<m:=by
 have key:∃ r,gX [dH ns,.int k,.int m]=some (.int r)/\0<=r/\r<m:=by
  obtain⟨c,s⟩:=Ny ns q k;obtain⟨u,b⟩:∃ u,u=((c % 2147483563) * 69069+104723 * (k+1)) % 2147483563:=⟨_,rfl⟩
  have p:0<=u:=by rw [b];exact UP _ (by decide)
  have o:u<2147483563:=by rw [b];exact Jy _ (by decide)
  obtain⟨v,a⟩:∃ v,v=(u * u+u / 3) % 2147483399:=⟨_,rfl⟩
  have n:0<=v:=by rw [a];exact UP _ (by decide)
  have l:v<2147483399:=by rw [a];exact Jy _ (by decide)
  have B:iH (.int ((c % 2147483563) * 69069+104723 * (k+1))) (.int 2147483563)=some (.int u):=by rw [b];exact nG (by decide)
  have E:iH (.int c) (.int 2147483563)=some (.int (c % 2147483563)):=nG (by decide);have A:dG (.int (c % 2147483563)) (.int 69069)=some (.int (c % 2147483563 * 69069)):=j7 (CJ (by decide) (by decide));have z:dG (.int 104723) (.int (k+1))=some (.int (104723 * (k+1))):=j7 (lP (by decide) (by decide));have y:dG (.int u) (.int u)=some (.int (u * u)):=j7 (lP (Int.lt_of_lt_of_le (by decide) p) (Int.lt_trans o (by decide)));have f:∀ i j:Int,0<j->j<1073741824->k9 (.int i) (.int j)=some (.int (i / j)):=fun i j h e=>zJ (yB h e)
  have x:iH (.int (u * u+u / 3)) (.int 2147483399)=some (.int v):=by rw [a];exact nG (by decide)
  have w:dG (.int v) (.int v)=some (.int (v * v)):=j7 (lP (Int.lt_of_lt_of_le (by decide) n) (Int.lt_trans l (by decide)))
  refine⟨(v * v+v / 7) % 2147483647 / 11 % m,?_,UP _ (Int.ne_of_gt d),Jy _ d⟩
  exact cZ (aV (cK (oo (oo (oo (oo (bD rfl s) rfl E) rfl A) (oo rfl rfl z) rfl) rfl B)) (aV (cK (oo (oo (oo rfl rfl y) (oo rfl rfl (f _ _ (by decide) (by decide))) rfl) rfl x)) (cV (oo (oo (oo (oo (oo rfl rfl w) (oo rfl rfl (f _ _ (by decide) (by decide))) rfl) rfl (nG (by decide))) rfl (f _ _ (by decide) (by decide))) rfl (nG d)))))
 obtain⟨r,g,e,t⟩:=key
 have:dr ns k m=r:=by unfold dr;rw [g]
 rw [this]
 exact⟨g,e,t⟩
def mI(w h:Nat)(W:C->Bool):D:=.tuple (((cells w h).filter W).map aB)
def aZ(w h:Nat)(W:C->Bool):D:=.tuple [.int w,.int h,mI w h W]
theorem MV(w h:Nat)(p:Nat->Nat->Bool):((List.range w).flatMap fun(x:Nat)=>((List.range h).filter (p x)).map fun(y:Nat)=>((x:Int),(y:Int)))=(cells w h).filter fun c=>p c.1.toNat c.2.toNat:=by
 unfold cells;rw [List.filter_flatMap];congr 1
 funext x
 rw [List.filter_map];rfl
theorem zI{i:Nat}{a:aA->Option D}{ρ:aA}{ds es:List D}(d:ρ[i]?=some (.own ds))(c:a ρ=some (.list es))(b:ds.length+es.length<=1000):lU i a ρ=some (.nx (ρ.set i (.own (ds++es)))):=by
 unfold lU;rw [d]
 show(a ρ).bind _=_
 rw [c]
 show(if ds.length+es.length<=1000 then _ else _)=_
 rw [if_pos b]
theorem zM{b:Type}(f:Nat->List b):∀(l:List Nat) (acc:List b),l.foldl (fun a x=>a++f x) acc=acc++l.flatMap f
 | [],acc=>by simp
 | x::l,acc=>by rw [YM,zM f l,List.flatMap_cons,QL]
theorem AV{c:Type}(f:Nat->List c)(g:Nat->Sl):∀(l:List Nat) (acc:List c) (s:Sl),l.foldl (fun(b:List c × Sl) x=>(b.1++f x,g x)) (acc,s)=(l.foldl (fun a x=>a++f x) acc,l.foldl (fun _ x=>g x) s)
 | [],acc,s=>rfl
 | x::l,acc,s=>by rw [YM,YM,YM];exact AV f g l _ _
def Am(q:Int):Int:=if q=0 then 2 else if q=1 then 3 else if q=2 then 3 else if q=3 then 5 else 9
theorem Ri(q:Int)(b:0<=q)(a:q<5):bH (.list [.int 2,.int 3,.int 3,.int 5,.int 9]) (.int q)=some (.int (Am q))/\0<Am q:=by
 obtain⟨n,rfl⟩:=Int.eq_ofNat_of_zero_le b;rcases n with _ | _ | _ | _ | _ | n
 ·exact⟨rfl,by decide⟩
 ·exact⟨rfl,by decide⟩
 ·exact⟨rfl,by decide⟩
 ·exact⟨rfl,by decide⟩
 ·exact⟨rfl,by decide⟩
 ·exact absurd a (by lia)
theorem MZ(ns:List Int)(o:ns.length<=63)(a:Int)(m:Nat)(O:0<m)(l:m<=5):∃(w h:Nat) (W:C->Bool),pA [dH ns,.int a,.int m]=some (aZ w h W)/\1<=w/\w<=m/\1<=h/\h<=m:=by
 have z:(0:Int)<m:=Jp.mpr O;obtain⟨e1,F,E⟩:=nA ns o a m z;obtain⟨e2,X,U⟩:=nA ns o (a+1) m z;obtain⟨e3,I,H⟩:=nA ns o (a+2) 5 (by decide);obtain⟨e4,G⟩:=Ri _ I H;generalize dr ns a m=dw at *;generalize dr ns (a+1) m=dh at *;generalize Am (dr ns (a+2) 5)=g at *;have one:∀{x:Int},0<=x->x<m->∃ w:Nat,1+x=w/\1<=w/\w<=m:=fun{x} g1 g2=>⟨(1+x).toNat,by lia,by lia,by lia⟩;obtain⟨w,K,B,u⟩:=one F E;obtain⟨h,Q,T,A⟩:=one X U;clear one;have r:w<=5:=Qv u l;have q:h<=5:=Qv A l
 refine⟨w,h,fun c=>dr ns (a+3+8 * (c.1.toNat:Int)+(c.2.toNat:Int)) g == 0,?_,B,u,T,A⟩
 refine cZ ?_;unfold A2;rw [show dQ 8 [dH ns,.int a,.int m]=[.dat (dH ns),.dat (.int a),.dat (.int m),.no,.no,.no,.no,.no]from rfl];refine aV (cK (d:=.int (w:Int)) (oo rfl (bD rfl e1) (by rw [<- K];rfl))) (aV (cK (d:=.int (h:Int)) (oo rfl (bD rfl e2) (by rw [<- Q];rfl))) (aV (cK (oo rfl (bD rfl e3) e4)) (aV (ρ':=[.dat (dH ns),.dat (.int a),.dat (.int m),.dat (.int w),.dat (.int h),.dat (.int g),.own [],.no]) rfl ?_)));obtain⟨f,p⟩:∃ f:Nat->List C,f=fun(x:Nat)=>((List.range h).filter fun(y:Nat)=>dr ns (a+3+8 * (x:Int)+(y:Int)) g == 0).map fun(y:Nat)=>((x:Int),(y:Int)):=⟨_,rfl⟩
 have Y:∀ x,(f x).length<=5:=fun x=>by
  rw [p,Ql];refine Qv (QQ _ _) ?_;rw [Yg];exact q
 refine aV (GW (n:=w) rfl (Yh r (by decide)) (pL (fun(k:Nat)=>.int (k:Int)) (fun(b:List C × Sl)=>[.dat (dH ns),.dat (.int a),.dat (.int m),.dat (.int w),.dat (.int h),.dat (.int g),.own (b.1.map aB),b.2])
  (fun b x=>(b.1++f x,.dat (.int (x:Int)))) (fun i b=>b.1.length<=5 * i) 5 (List.range w) 0 ([],.no) (by rw [Yg,JK];exact r) (Qk _) fun x hx i b hi N=>?_)) ?_
 ·obtain⟨j,s7⟩:=b;have M:j.length<=5 * i:=N;have S:=Y x
  refine⟨⟨[.dat (dH ns),.dat (.int a),.dat (.int m),.dat (.int w),.dat (.int h),.dat (.int g),.own (j.map aB),.dat (.int (x:Int))],rfl,?_⟩,by show(j++f x).length<=5 * (i+1);rw [Qf];lia⟩
  refine(zI (ds:=j.map aB) (es:=(f x).map aB) rfl ?_ (by rw [Ql,Ql];lia)).trans ?_
  ·have:=FF (gi:=iM (aD (eV 4) aG)) (s:=bC 0) (t:=eB (aE iG (aO gX (aD (eV 2) (aD (aE cL (aE cL (aE cL (eV 4) (eC (.int 3))) (aE dG (eC (.int 8)) (eV 1))) (eV 0)) (aD (eV 3) aG)))) (eC (.int 0))))
    (ge:=dS (aD (eV 1) (aD (eV 0) aG))) (inner:=[none,some 7,some 0,some 5,some 1]) (xs:=List.range h) (ρ:=[.dat (dH ns),.dat (.int a),.dat (.int m),.dat (.int w),.dat (.int h),.dat (.int g),.own (j.map aB),.dat (.int (x:Int))])
    (fun(k:Nat)=>.int (k:Int)) (fun(y:Nat)=>dr ns (a+3+8 * (x:Int)+(y:Int)) g == 0) (fun(y:Nat)=>aB ((x:Int),(y:Int)))
    (fun ρ=>∃ v,ρ=[v,.dat (.int (x:Int)),.dat (dH ns),.dat (.int g),.dat (.int a)]) (vF (n:=h) rfl (Yh q (by decide))) (by rw [Yg];exact Qv q (by decide)) ⟨.no,rfl⟩ (by
     rintro y hy ρ ⟨v,rfl⟩;have e:=(nA ns o (a+3+8 * (x:Int)+(y:Int)) g G).1;have J:dG (.int 8) (.int (x:Int))=some (.int (8 * (x:Int))):=j7 (lP (by decide) (by decide))
     exact⟨[.dat (.int (y:Int)),.dat (.int (x:Int)),.dat (dH ns),.dat (.int g),.dat (.int a)],rfl,⟨_,rfl⟩,oB (oo (bD (fR rfl (fR (oo (oo rfl (oo rfl rfl J) rfl) rfl rfl) rfl)) e) rfl rfl),fun _=>rfl⟩)
   refine this.trans ?_;rw [p,Yk];rfl
  ·show some (aK.nx _)=some (aK.nx _)
   rw [QZ];rfl
 ·refine cV ?_;rw [AV,zM]
  have Z:(List.range w).flatMap f=(cells w h).filter fun c=>dr ns (a+3+8 * (c.1.toNat:Int)+(c.2.toNat:Int)) g == 0:=by
   rw [p];exact MV w h fun x y=>dr ns (a+3+8 * (x:Int)+(y:Int)) g == 0
  rw [JC,Z];rfl
end My
namespace My
open PySem.SeqAt L2 DL SD SL EL DC
theorem vJ:∀ l:List C,J8 (l.map aB)=true/\J9 (l.map aB)<=1
 | []=>⟨rfl,QY _⟩
 | c::l=>by
  obtain⟨b,a⟩:=vJ l
  refine⟨by rw [Qp,J8,b];rfl,?_⟩
  rw [Qp,J9];exact Nat.max_le.mpr ⟨Qk _,a⟩
theorem p3(l:List C):Zq (.list (l.map aB))=true:=by
 obtain⟨a,b⟩:=vJ l
 have:ZZ (.list (l.map aB))<=64:=by show J9 (l.map aB)+1<=64;lia
 simp [Zq,Zw,a,this]
theorem TY(l:List C):Zq (.tuple (l.map aB))=true:=by
 obtain⟨a,b⟩:=vJ l
 have:ZZ (.tuple (l.map aB))<=64:=by show J9 (l.map aB)+1<=64;lia
 simp [Zq,Zw,a,this]
theorem wU(c:C):Zq (aB c)=true:=id rfl
theorem zF(a b:C):ZO (aB a) (aB b)=(a == b):=by
 show((a.1 == b.1) && ((a.2 == b.2) && true))=_
 rw [Bool.and_true];obtain⟨x,y⟩:=a;obtain⟨u,v⟩:=b;rfl
theorem uW:∀ l m:List C,ZA (l.map aB) (m.map aB)=decide (l=m)
 | [],[]=>rfl
 | [],_::_=>rfl
 | _::_,[]=>rfl
 | a::l,b::m=>by
  show(ZO (aB a) (aB b) && ZA (l.map aB) (m.map aB))=_
  rw [uW l m,zF]
  by_cases d:a=b <;> by_cases c:l=m <;> simp [d,c]
theorem IL(l m:List C):iG (.list (l.map aB)) (.list (m.map aB))=some (.bool (decide (l=m))):=by
 unfold iG;rw [p3,p3]
 show some (Zf (ZA (l.map aB) (m.map aB)))=_
 rw [uW]
theorem AB(l m:List C):bR (.list (l.map aB)) (.list (m.map aB))=some (.bool (!decide (l=m))):=by
 unfold bR;rw [p3,p3]
 show some (Zf (!PyData.eqvAll (l.map aB) (m.map aB)))=_
 rw [uW]
theorem Du(l:List C)(c:C):((l.map aB).any fun y=>ZO y (aB c))=l.contains c:=by
 induction l with
 | nil=>rfl
 | cons a l b=>rw [Qp,JE,b,zF,List.contains_cons,Bool.beq_comm]
theorem IY(neg:Bool)(c:C)(l:List C):fW neg (aB c) (.tuple (l.map aB))=some (.bool (if neg then !l.contains c else l.contains c)):=by
 show(if(Zq (aB c) && Zq (.tuple (l.map aB)))=true then _ else _)=_
 rw [wU,TY,JQ,if_pos rfl,Du]
theorem CA(neg:Bool)(c:C)(l:List C):fW neg (aB c) (.list (l.map aB))=some (.bool (if neg then !l.contains c else l.contains c)):=by
 show(if(Zq (aB c) && Zq (.list (l.map aB)))=true then _ else _)=_
 rw [wU,p3,JQ,if_pos rfl,Du]
def bF(w h:Nat)(W:C->Bool)(c:C):Bool:=dU w h c && W c
theorem Bh(w h:Nat)(W:C->Bool)(c:C):((cells w h).filter W).contains c=bF w h W c:=by
 rw [Q6,Qr,QB,kT];unfold bF;rw [Qy]
theorem CB(neg:Bool)(c:C)(w h:Nat)(W:C->Bool):fW neg (aB c) (mI w h W)=some (.bool (if neg then !bF w h W c else bF w h W c)):=by
 unfold mI;rw [IY,Bh]
theorem HA(i:Int):pH [.int i]=some (.bool true):=cZ (cV rfl)
theorem NF(c:C):sM [aB c]=some (.bool true):=cZ (aV (eF rfl) (cV (CG (bD rfl (HA c.1)) (bD rfl (HA c.2)))))
theorem Nw(w h:Nat)(W:C->Bool)(c:C):sK [aZ w h W,aB c]=some (.bool (dU w h c)):=by
 refine cZ (aV (eF (oN (oB (bD rfl (NF c))))) (cV ?_))
 show((if decide (0<=c.1)=true then some (Zf (decide (c.1<w)))else some (.bool false)).bind fun x=>(lG x).bind fun k=>if k=true then(if decide (0<=c.2)=true then some (Zf (decide (c.2<h)))else some (.bool false))else some (.bool false))=_
 unfold dU
 cases decide (0<=c.1) <;> cases decide (c.1<w) <;> cases decide (0<=c.2) <;> cases decide (c.2<h) <;> rfl
theorem Ap{w h:Nat}{W:C->Bool}{c:C}(a:dU w h c=true):l4 [aZ w h W,aB c]=some .none:=by
 have q:=Nw w h W c;rw [a]at q;exact Er (eF (oN (oB (bD rfl q))))
theorem SM{w h:Nat}{W:C->Bool}{c:C}(a:dU w h c=true):sL [aZ w h W,aB c]=some (.bool (W c)):=by
 have q:=CB false c w h W;unfold bF at q;rw [a,JD]at q;exact cZ (aV (kB (bD rfl (Ap a))) (cV (oo rfl rfl q)))
theorem nI{w h:Nat}{W:C->Bool}{c:C}(b:dU w h c=true)(a:W c=false):jK [aZ w h W,aB c]=some .none:=by
 have q:=SM (W:=W) b;rw [a]at q;exact Er (eF (oB (bD rfl q)))
end My
namespace My
open PySem.SeqAt L2 DL SD SL EL DC
theorem Rg(w h:Nat)(g:0<h):((List.range (w * h)).map fun(i:Nat)=>(((i / h:Nat):Int),((i % h:Nat):Int)))=cells w h:=by
 refine Bz ?_ (p5 w h) fun c=>?_
 ·unfold Up;rw [Q2];refine List.pairwise_lt_range.imp fun{a b} q=>?_;rw [mD];dsimp only;have j:a / h<=b / h:=Nat.div_le_div_right (YE q);rcases Nat.lt_or_eq_of_le j with e | e
  ·exact .inl (Jp.mpr e)
  ·right
   have r:=Nat.div_add_mod a h;have s:=Nat.div_add_mod b h;rw [e]at r
   exact⟨by rw [e],Jp.mpr (by lia)⟩
 ·rw [kT,iW,QT];constructor
  ·rintro⟨i,p,rfl⟩
   have:=QR.mp p
   have j:i / h<w:=(Nat.div_lt_iff_lt_mul g).mpr this;have e:i % h<h:=Nat.mod_lt _ g
   exact⟨Jh _,Jp.mpr j,Jh _,Jp.mpr e⟩
  ·rintro⟨l,o,f,k⟩
   refine⟨c.1.toNat * h+c.2.toNat,QR.mpr ?_,?_⟩
   ·have this:c.1.toNat+1<=w:=(UQ l).mpr o;have n:=Nat.mul_le_mul_right h this;rw [Nat.succ_mul]at n;exact QD (Nat.add_lt_add_left ((UQ f).mpr k) _) n
   ·have e:c.2.toNat<h:=(UQ f).mpr k
    have d:(c.1.toNat * h+c.2.toNat) / h=c.1.toNat:=by
     rw [Nat.mul_comm,Nat.mul_add_div g,Nat.div_eq_of_lt e,Nat.add_zero]
    have m:(c.1.toNat * h+c.2.toNat) % h=c.2.toNat:=by
     rw [Nat.mul_comm,Nat.mul_add_mod,Nat.mod_eq_of_lt e]
    rw [d,m];exact YX (JP l) (JP f)
theorem Ou{w h:Nat}{W:C->Bool}(g:w<=5)(c:0<h)(b:h<=5):sG [aZ w h W]=some (.list ((cells w h).map aB)):=by
 have a:w * h<=25:=Jm g b
 have m:dG (.int w) (.int h)=some (.int ((w * h:Nat):Int)):=by rw [j7 (lP (Int.lt_of_lt_of_le (by decide) (Jh _)) (Int.lt_of_le_of_lt (Int.ofNat_le.mpr g) (by decide)))];rfl
 refine cZ (cV (fZ (xs:=List.range (w * h)) (fun(k:Nat)=>.int (k:Int)) (fun _=>true) (fun(i:Nat)=>aB (((i / h:Nat):Int),((i % h:Nat):Int))) (fun e=>∃ f,e=[f,.dat (aZ w h W)]) (vF (n:=w * h) ?_ (Yh a (by decide))) (by rw [Yg];exact Qv a (by decide)) ⟨_,rfl⟩ ?_ ?_))
 ·exact fR (oo rfl rfl m) rfl
 ·rintro i _ e ⟨f,rfl⟩
  have d:k9 (.int (i:Int)) (.int h)=some (.int ((i / h:Nat):Int)):=by rw [zJ (yB (Jp.mpr c) (Int.lt_of_le_of_lt (Int.ofNat_le.mpr b) (by decide)))];rfl
  have q:iH (.int (i:Int)) (.int h)=some (.int ((i % h:Nat):Int)):=by rw [nG (Jp.mpr c)];rfl
  exact⟨[.dat (.int (i:Int)),.dat (aZ w h W)],rfl,⟨_,rfl⟩,rfl,fun _=>tY (oo rfl rfl d) (oo rfl rfl q)⟩
 ·rw [mB,<- Rg w h c,Yk];rfl
theorem Mz{w h:Nat}{W:C->Bool}(m:w<=5)(c:h<=5):sH [aZ w h W]=some (.list ((cells w h).map aB)):=by
 obtain⟨f,g⟩:∃ f:Nat->List C,f=fun(x:Nat)=>(List.range h).map fun(y:Nat)=>((x:Int),(y:Int)):=⟨_,rfl⟩;refine cZ ?_;unfold A4;rw [show dQ 3 [aZ w h W]=[.dat (aZ w h W),.no,.no]from rfl];refine aV (ρ':=[.dat (aZ w h W),.own [],.no]) rfl ?_
 refine aV (GW (n:=w) rfl (Yh m (by decide)) (pL (fun(k:Nat)=>.int (k:Int)) (fun(b:List C × Sl)=>[.dat (aZ w h W),.own (b.1.map aB),b.2])
  (fun b x=>(b.1++f x,.dat (.int (x:Int)))) (fun i b=>b.1.length<=5 * i) 5 (List.range w) 0 ([],.no) (by rw [Yg,JK];exact m) (Qk _) fun x r i b s o=>?_)) ?_
 ·obtain⟨a,p⟩:=b;have d:a.length<=5 * i:=o
  have e:(f x).length<=5:=by rw [g,Ql,Yg];exact c
  refine⟨⟨[.dat (aZ w h W),.own (a.map aB),.dat (.int (x:Int))],rfl,?_⟩,by show(a++f x).length<=5 * (i+1);rw [Qf];exact Nat.add_le_add d e⟩
  refine(zI (ds:=a.map aB) (es:=(f x).map aB) rfl (fZ (xs:=List.range h) (fun(k:Nat)=>.int (k:Int)) (fun _=>true) (fun(y:Nat)=>aB ((x:Int),(y:Int))) (fun j=>∃ l,j=[l,.dat (.int (x:Int))]) (vF (n:=h) rfl (Yh c (by decide))) (by rw [Yg];exact Qv c (by decide)) ⟨.no,rfl⟩ ?_ ?_) (by rw [Ql,Ql];lia)).trans ?_
  ·rintro y q j ⟨l,rfl⟩
   exact⟨[.dat (.int (y:Int)),.dat (.int (x:Int))],rfl,⟨_,rfl⟩,rfl,fun _=>rfl⟩
  ·rw [mB,g,Yk];rfl
  ·show some (aK.nx _)=some (aK.nx _)
   rw [QZ];rfl
 ·refine cV ?_;rw [AV,zM,JC,g];rfl
theorem wK:∀ l:List C,nL (l.map aB)=some (l.map row)
 | []=>rfl
 | c::l=>by
  show(eA [.int c.1,.int c.2]).bind (fun b=>(nL (l.map aB)).bind fun a=>some (b::a))=_
  rw [wK l];rfl
theorem kW{a b:C}(q:row a=row b):a=b:=by
 unfold row at q
 injection q with q1 q2
 injection q2 with q2 _
 exact YX q1 q2
theorem Pn{l:List C}(h:l.Nodup):(l.map row).Nodup:=by
 rw [List.Nodup,Q2];exact h.imp fun{a b} q r=>q (kW r)
theorem OD(l:List C)(c:C):(l.map row).contains (row c)=l.contains c:=by
 rw [Q6,Qr,Qr,QT];constructor
 ·rintro⟨d,hd,e⟩;rw [<- kW e];exact hd
 ·intro h;exact⟨c,h,rfl⟩
theorem pT{w h:Nat}{W:C->Bool}(d:w<=5)(a:h<=5):dO [aZ w h W]=some (.list (((cells w h).filter fun c => !W c).map aB)):=by
 have g:(cells w h).length<=25:=by rw [nX];exact Jm d a
 have lf:=QQ W (cells w h);have l:=QQ (fun c => !W c) (cells w h)
 have f:oS [.list ((cells w h).map aB)]=some ((cells w h).map row):=by
  show(if _ then _ else _)=_
  rw [if_pos (by rw [Ql];lia),wK]
 have e:oS [mI w h W]=some (((cells w h).filter W).map row):=by
  show(if _ then _ else _)=_
  rw [if_pos (by rw [Ql];lia),wK]
 have j:((cells w h).map row).filter (fun k => !(((cells w h).filter W).map row).contains k)=((cells w h).filter fun c => !W c).map row:=by
  rw [List.filter_map];congr 1;refine Yz fun c i=>?_
  show(!(((cells w h).filter W).map row).contains (row c))=_
  rw [OD,Bh];unfold bF;rw [kT.mp i,JD]
 have b:=lB (p5 w h) fun c => !W c;refine cZ (cV ?_);unfold zD Ai qJ;rw [fR (bD rfl (Mz (W:=W) d a)) rfl,Qj,f,Qj,show aD (aE bH (eV 0) (eC (.int 2))) aG (List.map frz (dQ 1 [aZ w h W]))=some [mI w h W]from rfl,Qj,e,Qj];rw [if_pos (by rw [Ql];lia),Qj,j,EF _ (Pn (i3 b)),Ar];exact Bw (i3 b) (by lia) b fun c=>Iff.rfl
def eK(l:List C):D:=.dict (l.map fun c=>(aB c,.bool true))
theorem j3(c:C):cH (aB c)=some (row c):=id rfl
theorem Gn(l:List C)(c:C):fH (l.map fun c=>(aB c,Zf true)) (row c)=l.contains c:=by
 unfold fH;rw [List.any_map]
 induction l with
 | nil=>rfl
 | cons a l b=>
  rw [JE,b,List.contains_cons];congr 1
  show(cH (aB a) == some (row c))=_
  rw [j3,Q6,beq_iff_eq,beq_iff_eq];constructor
  ·intro q;exact(kW (QJ q)).symm
  ·intro q;rw [q]
theorem MW(l:List C):dE (l.map fun c=>(aB c,Zf true))=true:=by
 unfold dE;rw [List.all_map,QM];intro c _;rfl
theorem vC(neg:Bool)(c:C)(l:List C):cX neg (aB c) (eK l)=some (.bool (if neg then !l.contains c else l.contains c)):=by
 show(cH (aB c)).bind (fun k=>if dE (l.map fun c=>(aB c,Zf true))=true then some (Zf (if neg then !fH (l.map fun c=>(aB c,Zf true)) k else fH (l.map fun c=>(aB c,Zf true)) k))else none)=_
 rw [j3,Qj,MW,if_pos rfl,Gn]
theorem Hh:∀ l:List C,jH (l.map fun c=>ZB [aB c,.bool true])=some (l.map fun c=>(row c,.bool true))
 | []=>rfl
 | c::l=>by
  show(q8 (.tuple [aB c,.bool true])).bind (fun p=>(jH (l.map fun c=>ZB [aB c,.bool true])).bind fun a=>some (p::a))=_
  rw [Hh l];rfl
theorem RK(l:List C)(c:C)(h:c∉l):gU (l.map fun c=>(aB c,Zf true)) (row c) (.bool true)=(l++[c]).map fun c=>(aB c,Zf true):=by
 unfold gU;rw [Gn,if_neg (by rw [Qr];exact h),QZ];rfl
theorem ET:∀(l acc:List C),(acc++l).Nodup->(l.map fun c=>(row c,Zf true)).foldl (fun kvs p=>gU kvs p.1 p.2) (acc.map fun c=>(aB c,Zf true))=(acc++l).map fun c=>(aB c,Zf true)
 | [],acc,_=>by rw [QO];rfl
 | c::l,acc,h=>by
  have a:c∉acc:=by
   rw [Yn]at h;exact fun q=>h.2.2 c q c Qd rfl
  rw [Qp,YM]
  show(l.map _).foldl _ (gU _ (row c) (.bool true))=_
  rw [RK acc c a,ET l (acc++[c]) (by rw [QL];exact h),QL];rfl
theorem sC{l:List C}{d:D}(hd:m8 d=some (l.map aB))(b:l.length<=1000)(f:l.Nodup):eX [d]=some (eK l):=by
 refine cZ (cV (bD (ds:=[.list (l.map fun c=>ZB [aB c,.bool true])]) ?_ ?_))
 ·have e:=fZ (gi:=bO (eV 0)) (s:=bC 0) (t:=eT) (ge:=dS (aD (eV 0) (aD (eC (.bool true)) aG))) (inner:=[none]) (ρ:=(dQ 1 [d]).map frz) (xs:=l) aB (fun _=>true) (fun c=>ZB [aB c,.bool true]) (fun ρ=>∃ a,ρ=[a]) (fA rfl hd) b ⟨_,rfl⟩ (by
   rintro c _ ρ ⟨a,rfl⟩
   exact⟨[.dat (aB c)],rfl,⟨_,rfl⟩,rfl,fun _=>rfl⟩) (by rw [mB])
  exact fR e rfl
 ·show(if _ then _ else _)=_
  rw [if_pos (by rw [Ql];exact b),Hh,Qj]
  have:=ET l [] (by simpa using f)
  rw [JC]at this;unfold iB eK;rw [<- this];rfl
theorem FN{w h:Nat}{W:C->Bool}(c:w<=5)(a:h<=5):eX [mI w h W]=some (eK ((cells w h).filter W)):=by
 have b:(cells w h).length<=25:=by rw [nX];exact Jm c a
 have lf:=QQ W (cells w h);exact sC rfl (by lia) (i3 (lB (p5 w h) W))
def dI(w h:Nat)(W:C->Bool):D:=eK ((cells w h).filter W)
theorem Gs(neg:Bool)(c:C)(w h:Nat)(W:C->Bool):cX neg (aB c) (dI w h W)=some (.bool (if neg then !bF w h W c else bF w h W c)):=by
 unfold dI;rw [vC,Bh]
end My
namespace My
open PySem.SeqAt L2 DL SD SL EL DC
structure WS where
 gx:Int
 gy:Int
 cs:List C
 s9:Sl
 s10:Sl
def xW(a b:C)(f e d c:Int)(s:WS):aA:=[.dat (aB a),.dat (aB b),.dat (.int f),.dat (.int e),.dat (.int d),.dat (.int c),.dat (.int s.gx),.dat (.int s.gy),.own (s.cs.map aB),s.s9,s.s10]
def vS(b a:Int)(s:WS):Bool:=decide (s.gx<b) || decide (s.gy<a)
def oI(b a:Int)(s:WS):Int:=if(2 * s.gx+1) * a<=(2 * s.gy+1) * b then s.gx+1 else s.gx
def qO(b a:Int)(s:WS):Int:=if(2 * s.gy+1) * b<=(2 * s.gx+1) * a then s.gy+1 else s.gy
def wZ(a:C)(c b e d:Int)(s:WS):WS:=⟨oI c b s,qO c b s,s.cs++[(a.1+e * oI c b s,a.2+d * qO c b s)],.dat (.int ((2 * s.gx+1) * b)),.dat (.int ((2 * s.gy+1) * c))⟩
theorem Fx(a:C)(d b i f:Int):∀(n:Nat) (s:WS) (st:List C),v9 d b n s.gx s.gy=some st->∃ s',r0 (vS d b) (wZ a d b i f) n s=some s'/\s'.cs=s.cs++st.map fun g=>(a.1+i * g.1,a.2+f * g.2)
 | 0,_,_,h=>by cases h
 | n+1,s,st,h=>by
  unfold v9 at h;unfold r0;by_cases c:s.gx<d ∨ s.gy<b
  ·rw [if_pos c]at h;obtain⟨r,e,h⟩:=aJ h;cases h;rw [if_pos (by unfold vS;rw [UL,decide_eq_true_eq,decide_eq_true_eq];exact c)];obtain⟨s',k,j⟩:=Fx a d b i f n (wZ a d b i f s) r e
   refine⟨s',k,?_⟩
   rw [j]
   show(s.cs++[_])++_=_
   rw [QL];rfl
  ·rw [if_neg c]at h;cases h;rw [if_neg (by unfold vS;rw [UL,decide_eq_true_eq,decide_eq_true_eq];exact c)]
   exact⟨s,rfl,by simp⟩
theorem NG{a b:C}(n:hJ a b):sI [aB a,aB b]=some (.list ((line a b).map aB)):=by
 have O:=n.ok;obtain⟨u,e,h⟩:=aJ O.some
 have p:∀ x,-100<dX x/\dX x<100:=fun x=>by unfold dX;split <;> decide
 have G:=p (b.1-a.1);have F:=p (b.2-a.2);clear p;obtain⟨K,J,I,H⟩:=n
 have t:∀ x,-4<=x->x<=4->0<=cU x/\cU x<100:=fun x h W=>by unfold cU;split <;> lia
 have Q:=t _ K J;have N:=t _ I H;clear t
 have E:u.length<=8:=by
  have:=O.len
  rw [<- QJ h,QE,Ql]at this;lia
 have q:∀ x y:Int,(if decide (x<y)=true then some (J4 1)else some (.int (-1)))=some (.int (dX (y-x))):=fun x y=>by
  unfold dX;by_cases c:x<y
  ·rw [if_pos (decide_eq_true c),if_pos (by lia)]
  ·rw [if_neg (by simpa using c),if_neg (by lia)]
 have B:=q a.1 b.1;have A:=q a.2 b.2;clear q;obtain⟨v,M,r⟩:=Fx a (cU (b.1-a.1)) (cU (b.2-a.2)) (dX (b.1-a.1)) (dX (b.2-a.2)) 900 ⟨0,0,[a],.no,.no⟩ u e
 have j:line a b=v.cs:=by
  rw [r];unfold line;rw [<- QJ h,Qp,Yk]
  show _::_=_::_
  congr 1;exact YX (by show a.1+0=a.1;lia) (by show a.2+0=a.2;lia)
 rw [j];refine cZ ?_;unfold A6;refine aV (cK (d:=.int (cU (b.1-a.1))) rfl) (aV (cK (d:=.int (cU (b.2-a.2))) rfl) (aV (cK B) (aV (cK A) (aV (cK rfl) (aV (cK rfl) (aV (ρ':=xW a b (cU (b.1-a.1)) (cU (b.2-a.2)) (dX (b.1-a.1)) (dX (b.2-a.2)) ⟨0,0,[a],.no,.no⟩) rfl ?_))))));generalize cU (b.1-a.1)=f at *;generalize cU (b.2-a.2)=g at *;generalize dX (b.1-a.1)=m at *;generalize dX (b.2-a.2)=l at *;clear B A;have o:∀ k,-100<k/\k<100->∀ i:Int,dG (.int k) (.int i)=some (.int (k * i)):=fun k h i=>j7 (lP (by lia) (by lia));have w:∀ k,0<=k/\k<100->∀ i:Int,dG (.int i) (.int k)=some (.int (i * k)):=fun k h i=>j7 (CJ (by lia) (by lia));refine aV (Hz (xW a b f g m l) (vS f g) (wZ a f g m l) (fun n s=>s.cs.length+n<=901) (fun n s S=>?_) (fun n s S U=>⟨?_,?_⟩) 900 ⟨0,0,[a],.no,.no⟩ v (by show 1+900<=901;decide) M) (cV rfl)
 ·show(if decide (s.gx<f)=true then some true else some (decide (s.gy<g)))=some (decide (s.gx<f) || decide (s.gy<g))
  cases decide (s.gx<f) <;> rfl
 ·have T:(s.cs.map aB).length<1000:=by rw [Ql];lia
  refine aV (cK (oo (oo (oo rfl rfl (o 2 (by decide) s.gx)) rfl rfl) rfl (w g N _))) (aV (cK (oo (oo (oo rfl rfl (o 2 (by decide) s.gy)) rfl rfl) rfl (w f Q _))) ?_);refine aV (ρ':=[.dat (aB a),.dat (aB b),.dat (.int f),.dat (.int g),.dat (.int m),.dat (.int l),.dat (.int (oI f g s)),.dat (.int s.gy),.own (s.cs.map aB),.dat (.int ((2 * s.gx+1) * g)),.dat (.int ((2 * s.gy+1) * f))]) ?_ ?_
  ·unfold oI;by_cases c:(2 * s.gx+1) * g<=(2 * s.gy+1) * f
   ·rw [if_pos c]
    exact iY (b:=true) (congrArg some (decide_eq_true c)) (fun _=>rfl) fun z=>by cases z
   ·rw [if_neg c];exact eF (congrArg some (decide_eq_false c))
  refine aV (ρ':=[.dat (aB a),.dat (aB b),.dat (.int f),.dat (.int g),.dat (.int m),.dat (.int l),.dat (.int (oI f g s)),.dat (.int (qO f g s)),.own (s.cs.map aB),.dat (.int ((2 * s.gx+1) * g)),.dat (.int ((2 * s.gy+1) * f))]) ?_ ?_
  ·unfold qO;by_cases c:(2 * s.gy+1) * f<=(2 * s.gx+1) * g
   ·rw [if_pos c]
    exact iY (b:=true) (congrArg some (decide_eq_true c)) (fun _=>rfl) fun z=>by cases z
   ·rw [if_neg c];exact eF (congrArg some (decide_eq_false c))
  refine(wN (ds:=s.cs.map aB) (d:=aB (a.1+m * oI f g s,a.2+l * qO f g s)) rfl ?_ T).trans ?_
  ·unfold dS;rw [fR (oo rfl (oo rfl rfl (o m G _)) rfl) (fR (oo rfl (oo rfl rfl (o l F _)) rfl) rfl)];rfl
  ·unfold xW wZ;rw [QZ];rfl
 ·show(s.cs++[_]).length+n<=901
  rw [Qf,QF];lia
end My
namespace My
open PySem.SeqAt L2 DL SD SL EL DC
abbrev Cp:=C × C
def iF(p:Cp):D:=.tuple [aB p.1,aB p.2]
def jB(p q:C):Cp:=if lN q p=true then(q,p)else(p,q)
def lQ(p:Cp):Cp:=jB (p.1.1,p.2.2) (p.2.1,p.1.2)
def lR(l:List C):List Cp:=((l.zip l.tail).filter fun p=>eQ p.1 p.2).map lQ
theorem T9(S:C->Bool)(p q:C):(S (jB p q).1 && S (jB p q).2)=(S p && S q):=by
 unfold jB;split
 ·exact UE _ _
 ·rfl
theorem GF(S:C->Bool):∀ l:List C,(lR l).all (fun p => !(S p.1 && S p.2))=gQ S l
 | []=>rfl
 | [a]=>rfl
 | a::b::l=>by
  have c:=GF S (b::l);unfold lR at c ⊢;rw [q9]
  show((((a,b)::(b::l).zip (b::l).tail).filter fun p=>eQ p.1 p.2).map lQ).all _=_
  rw [Ys];dsimp only
  cases eQ a b with
  | true=>
   rw [if_pos rfl,Qp,List.all_cons,c];congr 1
   show(!(S (jB (a.1,b.2) (b.1,a.2)).1 && S (jB (a.1,b.2) (b.1,a.2)).2))=_
   rw [T9];rfl
  | false=>rw [if_neg QA,c];rfl
theorem SV(p q:C):jD [.list [aB p,aB q]]=some (.list [aB (jB p q).1,aB (jB p q).2]):=by
 have:=sS (l:=[row p,row q]) (by intro k a;rcases Qi.mp a with rfl | a;rfl;rcases Qi.mp a with rfl | a;rfl;cases a) (by show 2<=63;decide)
 refine this.trans ?_
 show some (Zp ((if HT.lexLt (row q) (row p)=true then [row q,row p]else [row p,row q]).map fP))=_
 unfold jB lN
 split <;> rfl
theorem HB:∀ l m:List C,List.zipWith (fun x y=>ZB [x,y]) (l.map aB) (m.map aB)=(l.zip m).map iF
 | [],_=>rfl
 | _::_,[]=>rfl
 | a::l,b::m=>by rw [Qp,Qp,List.zipWith_cons_cons,HB l m];rfl
theorem NJ(l:List C):cutD (l.map aB) (some 1) none=l.tail.map aB:=by
 cases l with
 | nil=>rfl
 | cons a l=>
  unfold DL.cutD
  have b:HT.sIx ((a::l).map aB).length 0 (some 1)=1:=by
   have:=HT.sIx_nat ((a::l).map aB).length 0 1
   rw [show((1:Nat):Int)=1 from rfl]at this;rw [this,Ql,QE];lia
  rw [b,HT.sIx_none];simp;exact List.take_of_length_le (by simp)
theorem NI(l:List C):cutD (l.map aB) none (some (-1))=l.dropLast.map aB:=by
 unfold DL.cutD;rw [HT.sIx_none]
 have a:HT.sIx (l.map aB).length (l.map aB).length (some (-1))=l.length-1:=by
  unfold HT.sIx;simp;lia
 rw [a,List.drop_zero,Nat.sub_zero,List.dropLast_eq_take,List.map_take]
theorem MI(l:List C)(r:l.length<=500):pF [.list (l.map aB)]=some (.list ((lR l).map iF)):=by
 have o:(l.zip l.tail).length<=500:=by rw [List.length_zip];lia
 refine cZ ?_;unfold A5;rw [show dQ 4 [.list (l.map aB)]=[.dat (.list (l.map aB)),.no,.no,.no]from rfl];refine aV (ρ':=[.dat (.list (l.map aB)),.own [],.no,.no]) rfl ?_
 have g:qM (aD (eV 0) (aD (qK (eV 0) (oE (eC (.int 1))) qP) aG)) [.dat (.list (l.map aB)),.own [],.no,.no]=some ((l.zip l.tail).map iF):=by
  show some (List.zipWith (fun x y=>ZB [x,y]) (l.map aB) (cutD (l.map aB) (some 1) none))=_
  rw [NJ,HB]
 refine aV (iO g (pL iF (fun(b:List Cp × Sl × Sl)=>[.dat (.list (l.map aB)),.own (b.1.map iF),b.2.1,b.2.2]) (fun b p=>(if eQ p.1 p.2=true then b.1++[lQ p]else b.1,.dat (aB p.1),.dat (aB p.2))) (fun i b=>b.1.length<=i) 500 (l.zip l.tail) 0 ([],.no,.no) (by lia) (Qk _) fun p _ i b s k=>?_)) ?_
 ·obtain⟨a,n,m⟩:=b;have j:a.length<=i:=k
  have f:(a.map iF).length<1000:=by rw [Ql];lia
  refine⟨⟨[.dat (.list (l.map aB)),.own (a.map iF),.dat (aB p.1),.dat (aB p.2)],rfl,?_⟩,?_⟩
  ·have t:gS (eB (aE bR (aE bH (eV 2) (eC (.int 0))) (aE bH (eV 3) (eC (.int 0))))) (eB (aE bR (aE bH (eV 2) (eC (.int 1))) (aE bH (eV 3) (eC (.int 1))))) [.dat (.list (l.map aB)),.dat (.list (a.map iF)),.dat (aB p.1),.dat (aB p.2)]=some (eQ p.1 p.2):=by
    show(if(!(p.1.1 == p.2.1))=true then some (!(p.1.2 == p.2.2))else some false)=some (!(p.1.1 == p.2.1) && !(p.1.2 == p.2.2))
    cases p.1.1 == p.2.1 <;> rfl
   dsimp only
   cases q:eQ p.1 p.2 with
   | true=>
    rw [q]at t
    refine(iY (b:=true) t (fun _=>wN (ds:=a.map iF) (d:=iF (lQ p)) rfl (bD (fR (bD rfl (SV (p.1.1,p.2.2) (p.2.1,p.1.2))) rfl) rfl) f) fun z=>by cases z).trans ?_
    rw [if_pos rfl,QZ];rfl
   | false=>
    rw [q]at t;exact eF t
  ·show(if eQ p.1 p.2=true then a++[lQ p]else a).length<=i+1
   split
   ·rw [Qf,QF];lia
   ·lia
 ·have e:∀(c:List Cp) (b:List Cp × Sl × Sl),(c.foldl (fun(b:List Cp × Sl × Sl) p=>(if eQ p.1 p.2=true then b.1++[lQ p]else b.1,Sl.dat (aB p.1),Sl.dat (aB p.2))) b).1=b.1++(c.filter fun p=>eQ p.1 p.2).map lQ:=by
   intro c
   induction c with
   | nil=>intro b;simp
   | cons z c h=>
    intro b;rw [YM,h,Ys];dsimp only
    cases eQ z.1 z.2 with
    | true=>rw [if_pos rfl,if_pos rfl,Qp,QL];rfl
    | false=>rw [if_neg QA,if_neg QA]
  refine cV ?_
  show some (Zp (((l.zip l.tail).foldl (fun(b:List Cp × Sl × Sl) p=>(if eQ p.1 p.2=true then b.1++[lQ p]else b.1,Sl.dat (aB p.1),Sl.dat (aB p.2))) ([],.no,.no)).1.map iF))=_
  rw [e];rfl
theorem Br{w h:Nat}{W:C->Bool}{a b:C}(n:hJ a b):j2 [dI w h W,aB a,aB b]=some (.bool (clear (bF w h W) a b)):=by
 have E:(line a b).length<=9:=by unfold line;rw [Ql];exact n.ok.len
 have F:(line a b).dropLast.length<=9:=by rw [List.length_dropLast];lia
 refine cZ ?_;unfold A9;rw [show dQ 7 [dI w h W,aB a,aB b]=[.dat (dI w h W),.dat (aB a),.dat (aB b),.no,.no,.no,.no]from rfl];refine aV (cK (bD rfl (NG n))) ?_;have d:∀ c,cX false (aB c) (dI w h W)=some (.bool (bF w h W c)):=fun c=>Gs false c w h W
 have m:=AW (s:=bC 4) (g:=cE (eB (aE (cX false) (eV 4) (eV 0))) (bK (eC (.bool false))) cM) aB (fun f=>∃ e,f=[.dat (dI w h W),.dat (aB a),.dat (aB b),.dat (.list ((line a b).map aB)),e,.no,.no]) (bF w h W) (.bool false) (line a b).dropLast [.dat (dI w h W),.dat (aB a),.dat (aB b),.dat (.list ((line a b).map aB)),.no,.no,.no] ⟨_,rfl⟩ (by
  rintro c _ f ⟨e,rfl⟩
  refine⟨[.dat (dI w h W),.dat (aB a),.dat (aB b),.dat (.list ((line a b).map aB)),.dat (aB c),.no,.no],rfl,?_⟩
  cases q:bF w h W c with
  | true=>rw [if_pos rfl];exact iY (b:=true) (oB (oo rfl rfl (by rw [d,q]))) (fun _=>rfl) fun z=>by cases z
  | false=>rw [if_neg QA];exact⟨_,eF (oB (oo rfl rfl (by rw [d,q]))),⟨_,rfl⟩⟩)
 have x:bO (qK (eV 3) qP (oE (mU lI (eC (.int 1))))) [.dat (dI w h W),.dat (aB a),.dat (aB b),.dat (.list ((line a b).map aB)),.no,.no,.no]=some ((line a b).dropLast.map aB):=by
  show some (cutD ((line a b).map aB) none (some (-1)))=_
  rw [NI]
 unfold clear;by_cases j:(line a b).dropLast.any (bF w h W)=true
 ·rw [if_pos j]at m
  refine(wO (iO x m)).trans ?_
  have:(line a b).dropLast.all (fun c => !bF w h W c)=false:=by
   rw [Jw];simp only [Bool.not_not];rw [j];rfl
  rw [this];rfl
 ·rw [if_neg j]at m;obtain⟨o,A,e,rfl⟩:=m;refine aV (iO x A) ?_
  have B:(line a b).dropLast.all (fun c => !bF w h W c)=true:=by
   rw [Jw];simp only [Bool.not_not];rw [YH]at j;rw [j];rfl
  rw [B,JD,<- GF]
  have l:=AW (s:=j1 2 (fS (bC 5) (fS (bC 6) j0))) (g:=cE (gS (eB (aE (cX false) (eV 5) (eV 0))) (eB (aE (cX false) (eV 6) (eV 0)))) (bK (eC (.bool false))) cM) iF (fun f=>∃ t r,f=[.dat (dI w h W),.dat (aB a),.dat (aB b),.dat (.list ((line a b).map aB)),e,t,r]) (fun p=>bF w h W p.1 && bF w h W p.2) (.bool false) (lR (line a b)) [.dat (dI w h W),.dat (aB a),.dat (aB b),.dat (.list ((line a b).map aB)),e,.no,.no] ⟨_,_,rfl⟩ (by
   rintro p _ f ⟨t,r,rfl⟩
   refine⟨[.dat (dI w h W),.dat (aB a),.dat (aB b),.dat (.list ((line a b).map aB)),e,.dat (aB p.1),.dat (aB p.2)],rfl,?_⟩
   cases k:bF w h W p.1 <;> cases u:bF w h W p.2
   ·exact⟨_,eF (yA (oB (oo rfl rfl (by rw [d,k])))),⟨_,_,rfl⟩⟩
   ·exact⟨_,eF (yA (oB (oo rfl rfl (by rw [d,k])))),⟨_,_,rfl⟩⟩
   ·exact⟨_,eF (tW (oB (oo rfl rfl (by rw [d,k]))) (oB (oo rfl rfl (by rw [d,u])))),⟨_,_,rfl⟩⟩
   ·show cE _ _ _ _=_
    exact iY (b:=true) (tW (oB (oo rfl rfl (by rw [d,k]))) (oB (oo rfl rfl (by rw [d,u])))) (fun _=>rfl) fun z=>by cases z)
  have v:bO (aO pF (aD (eV 3) aG)) [.dat (dI w h W),.dat (aB a),.dat (aB b),.dat (.list ((line a b).map aB)),e,.no,.no]=some ((lR (line a b)).map iF):=
   fA (bD rfl (MI _ (by lia))) rfl
  by_cases i:(lR (line a b)).any (fun p=>bF w h W p.1 && bF w h W p.2)=true
  ·rw [if_pos i]at l
   refine(wO (iO v l)).trans ?_
   have:(lR (line a b)).all (fun p => !(bF w h W p.1 && bF w h W p.2))=false:=by
    rw [Jw];simp only [Bool.not_not];rw [i];rfl
   rw [this]
  ·rw [if_neg i]at l;obtain⟨o,y,t,r,rfl⟩:=l;refine aV (iO v y) ?_
   have:(lR (line a b)).all (fun p => !(bF w h W p.1 && bF w h W p.2))=true:=by
    rw [Jw];simp only [Bool.not_not];rw [YH]at i;rw [i];rfl
   rw [this];exact cV rfl
theorem pQ{w h:Nat}(c:w<=5)(e:h<=5){a b:C}(g:dU w h a=true)(f:dU w h b=true):hJ a b:=by
 obtain⟨s,r,o,m⟩:=iW.mp g;obtain⟨l,k,j,i⟩:=iW.mp f
 have d:∀{n:Nat}{x y:Int},n<=5->0<=x->x<n->0<=y->y<n->-4<=y-x/\y-x<=4:=fun A z v u t=>by lia
 have p:=d c s r l k;have q:=d e o m j i
 exact⟨p.1,p.2,q.1,q.2⟩
section
variable {w h:Nat}{W:C->Bool}(hw:w<=5)(hh:h<=5)
include hw hh
theorem jJ{c:C}(a:dU w h c=true):bF w h W c=W c:=by unfold bF;rw [a,JD]
theorem Nu{a:C}(i:dU w h a=true)(j:W a=false):pG [aZ w h W,aB a]=some (.list (((cells w h).filter fun b=>bT (bF w h W) a b).map aB)):=by
 have m:eX [mI w h W]=some (dI w h W):=FN hw hh;refine cZ ?_;unfold A8;rw [show dQ 3 [aZ w h W,aB a]=[.dat (aZ w h W),.dat (aB a),.no]from rfl];refine aV (kB (bD rfl (nI i j))) (aV (cK (bD rfl m)) ?_);refine cV (fZ (xs:=(cells w h).filter fun c => !W c) aB (fun b=>clear (bF w h W) a b) aB (fun f=>∃ g,f=[g,.dat (dI w h W),.dat (aB a)]) (fA (bD rfl (pT hw hh)) rfl) (Qv (QQ _ _) (by rw [nX];exact Qv (Jm hw hh) (by decide))) ⟨_,rfl⟩ ?_ ?_)
 ·rintro b d f ⟨g,rfl⟩;have e:=Br (w:=w) (h:=h) (W:=W) (pQ hw hh i (kT.mp (QB.mp d).1))
  exact⟨[.dat (aB b),.dat (dI w h W),.dat (aB a)],rfl,⟨_,rfl⟩,oB (bD rfl e),fun _=>rfl⟩
 ·rw [List.filter_filter];congr 1;refine Yz fun b d=>?_;unfold bT;rw [jJ hw hh (kT.mp d),UE]
theorem No{a b:C}(d:dU w h a=true)(c:dU w h b=true):rF [dI w h W,aB a,aB b]=some (.bool (bT (bF w h W) a b)):=by
 have e:=Br (w:=w) (h:=h) (W:=W) (pQ hw hh d c);have i:=Gs true b w h W;unfold bT
 cases q:bF w h W b with
 | true=>rw [q]at i;exact cZ (cV (Kn (oo rfl rfl i)))
 | false=>rw [q]at i;exact cZ (cV (CG (oo rfl rfl i) (bD rfl e)))
theorem TU{a b:C}(d:dU w h a=true)(c:dU w h b=true):pI [aZ w h W,aB a,aB b]=some (.bool (bT (bF w h W) a b)):=by
 have m:eX [mI w h W]=some (dI w h W):=FN hw hh;exact cZ (aV (kB (bD rfl (Ap d))) (aV (kB (bD rfl (Ap c))) (cV (bD (fR (bD rfl m) rfl) (No hw hh d c)))))
end
end My
namespace My
open PySem.SeqAt L2 DL SD SL EL DC
theorem x8(a b:C):bR (aB a) (aB b)=some (.bool (!(a == b))):=by
 unfold bR;rw [wU,wU,zF];rfl
theorem Vf{w h:Nat}(a:w<=5)(b:h<=5)(W:C->Bool):((cells w h).filter W).length<=25:=
 Qv (QQ _ _) (by rw [nX];exact Jm a b)
theorem HG{a gb:aA->Option D}{ρ:aA}{l m:List C}(c:a ρ=some (.list (l.map aB)))(b:gb ρ=some (.list (m.map aB)))(e:l=m):eB (aE bR a gb) ρ=some false:=by
 subst e;simp only [Ix,Dv,c,b,Cc,AB,decide_true,Yw,Iz]
theorem TC{t:aA->Option Bool}{a:aA->Option aK}{ρ:aA}(h:t (ρ.map frz)=some false):cE t a cM ρ=some (.nx ρ):=by
 unfold cE;rw [h];rfl
def Nx(g:aA->Option aK)(ρ:aA)(I:aA->Prop):Prop:=∃ ρ2,g ρ=some (.nx ρ2)/\I ρ2
section
variable {g g1 g2 rest:aA->Option aK}{ρ ρ':aA}{I:aA->Prop}{t:aA->Option Bool}
theorem At{d:Type}{gi:aA->Option (List D)}{s:D->aA->Option aA}{r:Option aK}(item:d->D)(J:aA->Prop)(xs:List d)(k:gi ρ=some (xs.map item))(m:J ρ)
  (h:∀ a∈xs,∀ ρ,J ρ->∃ ρ1,s (item a) ρ=some ρ1/\Nx g ρ1 J) (j:∀ ρ',J ρ'->rest ρ'=r):aM (dW gi s g) rest ρ=r:=by
 obtain⟨ρ',e,i⟩:=AX item J xs ρ m fun a l ρ c=>by
  obtain⟨ρ1,o,b,n,f⟩:=h a l ρ c
  exact⟨ρ1,b,o,n,f⟩
 exact aV (iO k e) (j ρ' i)
end
theorem vT{a:aA->Option D}{ρ:aA}{d:D}(h:a ρ=some d):aD a aG ρ=some [d]:=by
 unfold aD;rw [h];rfl
end My
namespace My
open PySem.SeqAt L2 DL SD SL EL DC
def aI(w h:Nat)(W:C->Bool):List C:=(cells w h).filter fun c => !W c
theorem cJ{w h:Nat}{W:C->Bool}{c:C}:c∈aI w h W ↔ dU w h c=true/\W c=false:=by
 unfold aI;rw [QB,kT,Q8]
theorem sU(w h:Nat)(W:C->Bool):Up (aI w h W):=lB (p5 w h) _
theorem j8{w h:Nat}(a:w<=5)(b:h<=5)(W:C->Bool):(aI w h W).length<=25:=
 Qv (QQ _ _) (by rw [nX];exact Jm a b)
theorem PD{w h:Nat}{W:C->Bool}(a:w<=5)(g:0<h)(b:h<=5):pD [aZ w h W]=some (.list ((aI w h W).map aB)):=by
 refine cZ (cV (fZ (xs:=cells w h) aB (fun c => !bF w h W c) aB (fun d=>∃ e,d=[e,.dat (aZ w h W)]) (fA (bD rfl (Ou a g b)) rfl) (by rw [nX];exact Qv (Jm a b) (by decide)) ⟨_,rfl⟩ ?_ ?_))
 ·rintro c _ d ⟨e,rfl⟩
  exact⟨[.dat (aB c),.dat (aZ w h W)],rfl,⟨_,rfl⟩,oB (oo rfl rfl (CB true c w h W)),fun _=>rfl⟩
 ·unfold aI;congr 1;refine Yz fun c f=>?_;rw [jJ a b (kT.mp f)]
def bG(l:List C)(f:C->D):List (D × D):=l.map fun c=>(aB c,f c)
abbrev fV(l:List C)(f:C->Int):List (D × D):=bG l fun c=>.int (f c)
theorem Au(a c:C):(cH (aB a) == some (row c))=(a == c):=by
 rw [j3,Q6,beq_iff_eq,beq_iff_eq]
 exact⟨fun q=>kW (QJ q),fun q=>by rw [q]⟩
theorem vB(l:List C)(f:C->D)(c:C):fH (bG l f) (row c)=l.contains c:=by
 unfold fH bG;rw [List.any_map]
 induction l with
 | nil=>rfl
 | cons a l b=>
  rw [JE,b,List.contains_cons];congr 1
  show(cH (aB a) == some (row c))=_
  rw [Au,Q6,beq_iff_eq,beq_iff_eq]
  exact⟨Eq.symm,Eq.symm⟩
theorem kP(l:List C)(f:C->D):dE (bG l f)=true:=by
 unfold dE bG;rw [List.all_map,QM];intro c _;rfl
theorem A7{l:List C}(f:C->D){c:C}(h:c∈l):getD (bG l f) (row c)=some (f c):=by
 unfold getD bG
 induction l with
 | nil=>cases h
 | cons a l b=>
  rw [Qp,Ja,Au];by_cases e:a=c
  ·subst e;simp
  ·rw [beq_eq_false_iff_ne.mpr e];exact b ((Qi.mp h).resolve_left fun z=>e z.symm)
def oA(f:C->Int)(c:C):C->Int:=fun x=>if x=c then f c+1 else f x
theorem RJ{l:List C}(f:C->Int){c:C}(h:c∈l):gU (fV l f) (row c) (.int (f c+1))=fV l (oA f c):=by
 unfold gU;rw [vB,if_pos (Qr.mpr h)];unfold fV bG;rw [Yk];refine YU fun a _=>?_
 show(if(cH (aB a) == some (row c))=true then(aB a,J4 (f c+1))else(aB a,.int (f a)))=_
 rw [Au];unfold oA;dsimp only;by_cases e:a=c
 ·rw [if_pos (beq_iff_eq.mpr e),if_pos e]
 ·rw [if_neg (by simpa using e),if_neg e]
theorem AM(f:C->D):∀ l:List C,jH (l.map fun c=>ZB [aB c,f c])=some (l.map fun c=>(row c,f c))
 | []=>rfl
 | c::l=>by
  show(q8 (.tuple [aB c,f c])).bind (fun p=>(jH (l.map fun c=>ZB [aB c,f c])).bind fun a=>some (p::a))=_
  rw [AM f l];rfl
theorem GI(l:List C)(f:C->D)(c:C)(h:c∉l):gU (bG l f) (row c) (f c)=bG (l++[c]) f:=by
 unfold gU;rw [vB,if_neg (by rw [Qr];exact h)];unfold bG;rw [QZ];rfl
theorem Ad(f:C->D):∀(l acc:List C),(acc++l).Nodup->(l.map fun c=>(row c,f c)).foldl (fun kvs p=>gU kvs p.1 p.2) (bG acc f)=bG (acc++l) f
 | [],acc,_=>by rw [QO];rfl
 | c::l,acc,h=>by
  have a:c∉acc:=by
   rw [Yn]at h;exact fun q=>h.2.2 c q c Qd rfl
  rw [Qp,YM]
  show(l.map _).foldl _ (gU _ (row c) (f c))=_
  rw [GI acc f c a,Ad f l (acc++[c]) (by rw [QL];exact h),QL];rfl
theorem Oi(l:List C)(f:C->D):qR (.dict (bG l f))=some (l.map aB):=by
 show(if((bG l f).all fun e=>xY e.1)=true then some ((bG l f).map (·.1))else none)=_
 unfold bG;rw [if_pos (by rw [List.all_map,QM];intro c _;rfl),Yk];rfl
theorem vG{l:List C}(f:C->D){c:C}(h:c∈l):kJ (.dict (bG l f)) (aB c)=some (f c):=by
 show((cH (aB c)).bind fun k=>if dE (bG l f)=true then getD (bG l f) k else none)=_
 rw [j3,Qj,kP,if_pos rfl,A7 f h]
theorem OR{a:aA->Option D}{ρ:aA}{d:D}{l:List D}(c:a ρ=some d)(b:qR d=some l):tQ a ρ=some l:=by
 unfold tQ;rw [c];exact b
def qS(b:(C->Int) × Sl)(o:C):(C->Int) × Sl:=(oA b.1 o,.dat (aB o))
theorem GD(c:C):∀(l:List C) (b:(C->Int) × Sl),(l.foldl qS b).1 c=b.1 c+(l.count c:Nat)
 | [],b=>by simp
 | o::l,b=>by
  rw [YM,GD c l]
  show oA b.1 o c+_=_
  unfold oA;rw [List.count_cons];by_cases e:c=o
  ·subst e;simp;lia
  ·rw [if_neg e,if_neg (by simpa using fun z=>e z.symm)];simp
section
variable (fld:C->List C)
def y9(b:(C->Int) × Sl × Sl)(a:C):(C->Int) × Sl × Sl:=(((fld a).foldl qS (b.1,b.2.2)).1,.dat (aB a),((fld a).foldl qS (b.1,b.2.2)).2)
theorem HC(c:C):∀(l:List C) (b:(C->Int) × Sl × Sl),(l.foldl (y9 fld) b).1 c=b.1 c+((l.map fun a=>(fld a).count c).sum:Nat)
 | [],b=>by simp
 | a::l,b=>by
  rw [YM,HC c l]
  show((fld a).foldl qS (b.1,b.2.2)).1 c+_=_
  rw [GD];simp;lia
end
theorem RM{i:Nat}{gk a:aA->Option D}{ρ:aA}{l:List C}{f:C->Int}{c:C}(j:ρ[i]?=some (.ownD (fV l f)))(h:a ρ=some (.int (f c+1)))(g:gk ρ=some (aB c))(e:c∈l)(d:l.length<1000)(b:oK i ρ=true):
  lV i gk a ρ=some (.nx (ρ.set i (.ownD (fV l (oA f c))))):=by
 unfold lV;rw [j]
 show(a ρ).bind _=_
 rw [h,Qj,g,Qj,j3,Qj,kP,if_pos (by rw [b];simp [fV,bG,d]),RJ f e]
theorem RQ{i:Nat}{gk:aA->Option D}{ρ:aA}{l:List C}{f:C->Int}{c:C}(d:ρ[i]?=some (.ownD (fV l f)))(b:gk ρ=some (aB c))(a:c∈l):j5 i gk ρ=some (.int (f c)):=by
 unfold j5;rw [d]
 show(gk ρ).bind _=_
 rw [b,Qj,j3,Qj,kP,if_pos rfl,A7 (fun c=>.int (f c)) a]
end My
namespace My
open PySem.SeqAt L2 DL SD SL EL DC
section
variable {w h:Nat}{W:C->Bool}(hw:w<=5)(hh:h<=5)
include hw hh
theorem MY{a:C}:∀ c∈(cells w h).filter (fun b=>bT (bF w h W) a b),c∈aI w h W:=fun c d=>by
 rw [QB,kT]at d;refine cJ.mpr ⟨d.1,?_⟩
 have:=d.2
 unfold bT at this;rw [jJ hw hh d.1,Qy,Q8]at this;exact this.1
theorem MX{a c:C}(e:dU w h c=true):((cells w h).filter fun b=>bT (bF w h W) a b).count c=if bT (bF w h W) a c=true then 1 else 0:=by
 have d:=i3 (lB (p5 w h) fun b=>bT (bF w h W) a b);by_cases s:bT (bF w h W) a c=true
 ·rw [if_pos s,List.Nodup.count d,if_pos (QB.mpr ⟨kT.mpr e,s⟩)]
 ·rw [if_neg s,List.Nodup.count d,if_neg (fun z=>s (QB.mp z).2)]
theorem Su{cs:List C}(m:∀ a∈cs,a∈aI w h W)(I:cs.length<=900):∃ f:C->Int,(∀ c∈aI w h W,f c=(cs.countP fun a=>bT (bF w h W) a c:Nat))/\rH [aZ w h W,.list (cs.map aB)]=some (.dict (fV (aI w h W) f)):=by
 obtain⟨O,p⟩:∃ O,O=aI w h W:=⟨_,rfl⟩;obtain⟨g,k⟩:∃ g:C->List C,g=fun a=>(cells w h).filter fun b=>bT (bF w h W) a b:=⟨_,rfl⟩
 have E:dO [aZ w h W]=some (.list (O.map aB)):=by rw [p];exact pT hw hh
 have M:O.length<=25:=by rw [p];exact j8 hw hh W
 have B:O.Nodup:=by rw [p];exact i3 (sU w h W)
 have z:∀ a∈cs,pG [aZ w h W,aB a]=some (.list ((g a).map aB)):=fun a u=>by
  obtain⟨K,J⟩:=cJ.mp (m a u);rw [k];exact Nu hw hh K J
 have x:∀ a,∀ c∈g a,c∈O:=fun a c m=>by rw [k]at m;rw [p];exact MY hw hh c m
 have y:∀ a,(g a).length<=25:=fun a=>by rw [k];exact Qv (QQ _ _) (by rw [nX];exact Jm hw hh)
 refine⟨(cs.foldl (y9 g) ((fun _=>0),.no,.no)).1,fun c r=>?_,cZ ?_⟩
 ·rw [HC];have i:=(cJ.mp r).1;rw [k,Int.zero_add];refine congrArg (fun n:Nat=>(n:Int)) ?_;clear m I z x y k
  induction cs with
  | nil=>rfl
  | cons a cs G=>
   rw [Qp,List.sum_cons,G,List.countP_cons,MX hw hh i];lia
 ·unfold Bf;rw [show dQ 5 [aZ w h W,.list (cs.map aB)]=[.dat (aZ w h W),.dat (.list (cs.map aB)),.no,.no,.no]from rfl,<- p]
  have A:wP 2 (aD (bX (bW (bO (aO dO (aD (eV 0) aG))) (bC 0) eT (dS (aD (eV 0) (aD (eC (.int 0)) aG))) [none])) aG) [.dat (aZ w h W),.dat (.list (cs.map aB)),.no,.no,.no]=some (.nx [.dat (aZ w h W),.dat (.list (cs.map aB)),.ownD (fV O fun _=>0),.no,.no]):=by
   have F:=fZ (gi:=bO (aO dO (aD (eV 0) aG))) (s:=bC 0) (t:=eT) (ge:=dS (aD (eV 0) (aD (eC (.int 0)) aG))) (inner:=[none]) (ρ:=[.dat (aZ w h W),.dat (.list (cs.map aB)),.no,.no,.no]) (xs:=O) aB (fun _=>true) (fun c=>ZB [aB c,.int 0]) (fun ρ=>∃ v,ρ=[v]) (fA (bD rfl E) rfl) (by lia) ⟨_,rfl⟩ (by
    rintro c _ ρ ⟨v,rfl⟩
    exact⟨[.dat (aB c)],rfl,⟨_,rfl⟩,rfl,fun _=>rfl⟩) (by rw [mB])
   unfold wP;rw [vT F]
   show(if _ then _ else _)=_
   rw [if_pos (by rw [Ql];lia),AM (fun _=>.int 0),Qj]
   have:=Ad (fun _=>.int 0) O [] (by simpa using B)
   rw [JC]at this;unfold iB;rw [show([]:List (D × D))=fV [] fun _=>0 from rfl,this];rfl
  refine aV A (aV (iO (fA (d:=.list (cs.map aB)) rfl rfl) (pL aB (fun(b:(C->Int) × Sl × Sl)=>[.dat (aZ w h W),.dat (.list (cs.map aB)),.ownD (fV O b.1),b.2.1,b.2.2]) (y9 g) (fun _ _=>True) 900 cs 0 ((fun _=>0),.no,.no) (by lia) trivial fun a u i b _ _=>⟨⟨[.dat (aZ w h W),.dat (.list (cs.map aB)),.ownD (fV O b.1),.dat (aB a),b.2.2],rfl,?_⟩,trivial⟩)) ?_)
  ·refine(iO (fA (bD rfl (z a u)) rfl) (pL aB (fun(b:(C->Int) × Sl)=>[.dat (aZ w h W),.dat (.list (cs.map aB)),.ownD (fV O b.1),.dat (aB a),b.2]) qS (fun _ _=>True) 25 (g a) 0 (b.1,b.2.2) (by have:=y a;lia) trivial fun o H i q _ _=>⟨⟨[.dat (aZ w h W),.dat (.list (cs.map aB)),.ownD (fV O q.1),.dat (aB a),.dat (aB o)],rfl,?_⟩,trivial⟩)).trans rfl
   have j:=x a o H
   refine(RM (l:=O) (f:=q.1) (c:=o) rfl ?_ rfl j (by lia) rfl).trans rfl
   have e:=RQ (i:=2) (gk:=eV 4) (ρ:=[.dat (aZ w h W),.dat (.list (cs.map aB)),.ownD (fV O q.1),.dat (aB a),.dat (aB o)]) (f:=q.1) rfl rfl j;simp only [Dv,e,Iy,Cc,Iu]
  ·exact cV rfl
theorem MC{cs:List C}(j:∀ a∈cs,a∈aI w h W)(i:cs.length<=900):rG [aZ w h W,.list (cs.map aB)]=some (.list (((aI w h W).filter fun c=>cs.any fun a=>bT (bF w h W) a c).map aB)):=by
 obtain⟨f,l,k⟩:=Su hw hh j i;have m:=j8 hw hh W;refine cZ ?_;unfold Be;rw [show dQ 3 [aZ w h W,.list (cs.map aB)]=[.dat (aZ w h W),.dat (.list (cs.map aB)),.no]from rfl];refine aV (cK (bD rfl k)) ?_;refine cV (fZ (xs:=aI w h W) aB (fun c=>decide (0<f c)) aB (fun e=>∃ g,e=[g,.dat (.dict (fV (aI w h W) f))]) (OR (d:=.dict (fV (aI w h W) f)) rfl (Oi _ fun c=>.int (f c))) (by lia) ⟨_,rfl⟩ ?_ ?_)
 ·rintro c b e ⟨g,rfl⟩
  exact⟨[.dat (aB c),.dat (.dict (fV (aI w h W) f))],rfl,⟨_,rfl⟩,oB (oo (oo rfl rfl (vG (fun c=>.int (f c)) b)) rfl rfl),fun _=>rfl⟩
 ·refine congrArg (List.map aB) (Yz fun c b=>?_);rw [l c b,Q6,decide_eq_true_eq,List.any_eq_true];rw [show(0<((cs.countP fun a=>bT (bF w h W) a c:Nat):Int)) ↔ 0<cs.countP fun a=>bT (bF w h W) a c from by lia,List.countP_pos_iff]
end
end My
namespace My
open PySem.SeqAt L2 DL SD SL EL DC TB TX
def ws(x:Nat):Str:=⟨#[x]⟩
def fQ(u:List Nat):Str:=⟨u.toArray⟩
theorem HL:kD=eL.map fun x=>(ws x,aB (iC x)):=by
 have d:(Zu "n")=ws 110:=by decide
 have c:(Zu "e")=ws 101:=by decide
 have b:(Zu "s")=ws 115:=by decide
 have a:(Zu "w")=ws 119:=by decide
 unfold kD;rw [d,c,b,a];rfl
theorem PC{x:Nat}(h:x∈eL):(eL.map fun x=>(ws x,aB (iC x))).lookup (ws x)=some (aB (iC x)):=by
 rcases BC h with rfl | rfl | rfl | rfl <;> rfl
theorem TD{tb:List (Str × D)}{a:aA->Option D}{ρ:aA}{x:Str}{d:D}(c:a ρ=some (.str x))(b:tb.lookup x=some d):oF tb a ρ=some d:=by
 unfold oF;rw [c];exact b
theorem MJ{a:C}{x:Nat}(h:x∈eL):pE [aB a,.str (ws x)]=some (aB (bL a x)):=by
 have b:=PC h;rw [<- HL]at b;refine cZ (cV ?_);have t:oF kD (eV 1) ((dQ 2 [aB a,.str (ws x)]).map frz)=some (aB (iC x)):=TD rfl b;exact tY (oo rfl (oo t rfl rfl) rfl) (oo rfl (oo t rfl rfl) rfl)
def nb(G:List C)(a:C):List Nat:=eL.filter fun x=>G.contains (bL a x)
def x5(a:C)(x:Nat):D:=.tuple [.str (ws x),aB (bL a x)]
theorem Tc(G:List C)(a:C):pJ [eK G,aB a]=some (.list ((nb G a).map (x5 a))):=by
 refine cZ (cV (fZ (xs:=eL) (fun x=>.str (ws x)) (fun x=>G.contains (bL a x)) (x5 a) (fun c=>∃ d,c=[d,.dat (aB a),.dat (eK G)]) ?_ (by decide) ⟨_,rfl⟩ ?_ rfl))
 ·show some (kD.map fun e=>PyData.str e.1)=_
  rw [HL,Yk];rfl
 ·rintro x f c ⟨d,rfl⟩;have b:=MJ (a:=a) f
  exact⟨[.dat (.str (ws x)),.dat (aB a),.dat (eK G)],rfl,⟨_,rfl⟩,oB (oo (bD rfl b) rfl (vC false (bL a x) G)),fun _=>tY rfl (bD rfl b)⟩
theorem AY{b:Type}{s:D->aA->Option aA}{g:aA->Option aK}(item:b->D)(I:List b->aA->Prop):∀(xs pre:List b) (ρ:aA),I pre ρ->
  (∀ a∈xs,∀ pre ρ,I pre ρ->∃ ρ1 ρ2,s (item a) ρ=some ρ1/\g ρ1=some (.nx ρ2)/\I (pre++[a]) ρ2)->∃ ρ',fG s g (xs.map item) ρ=some (.nx ρ')/\I (pre++xs) ρ'
 | [],pre,ρ,h0,_=>⟨ρ,rfl,by rw [QO];exact h0⟩
 | x::xs,pre,ρ,h0,h=>by
  obtain⟨ρ1,ρ2,f,e,c⟩:=h x Qd pre ρ h0;rw [Qp];unfold fG;rw [f,Qj,e,Qj]
  have:=AY item I xs (pre++[x]) ρ2 c fun a d=>h a (Qg _ d)
  rw [QL]at this;exact this
theorem BD{t:aA->Option Bool}{g:aA->Option aK}(I:Nat->aA->Prop)(a:aA->Prop)(h:∀ m ρ,I m ρ->(t (ρ.map frz)=some false/\a ρ) ∨ (t (ρ.map frz)=some true/\∃ ρ' m',g ρ=some (.nx ρ')/\m'<m/\I m' ρ')):
  ∀(n m:Nat) (ρ:aA),m<n->I m ρ->∃ ρ',gB t g n ρ=some (.nx ρ')/\a ρ'
 | 0,m,ρ,hn,_=>absurd hn (YD _)
 | n+1,m,ρ,hn,i=>by
  unfold gB;rcases h m ρ i with⟨e,d⟩ | ⟨e,ρ',m',c,lt,b⟩
  ·rw [e];exact⟨ρ,rfl,d⟩
  ·rw [e,Qj,if_pos rfl,c,Qj];exact BD I a h n m' ρ' (by lia) b
theorem Md.weak{G:List C}{s:C}{k:Nat}{K d Fa:List C}{g g':C->List Nat}{P c:C->Nat->Prop}(m:Md G k K g P d g' Fa s)(h:∀ b y,c b y->bL b y∈G->P b y):Md G k K g c d g' Fa s:=
 ⟨m.up,m.nw,m.fa,fun b y p a=>m.cl b y (h b y p a) a⟩
def fD(g:C->List Nat):C->D:=fun c=>.str (fQ (g c))
theorem Iv(u:List Nat)(x:Nat)(h:u.length<=1000):nY (.str (fQ u)) (.str (ws x))=some (.str (fQ (u++[x]))):=by
 show(if decide ((fQ u).length+(ws x).length<=1000000)=true then some (PyData.str (fQ u++ws x))else none)=_
 have e:(fQ u).length=u.length:=by unfold fQ Str.length;simp
 have a:(ws x).length=1:=rfl;rw [e,a,if_pos (decide_eq_true (by lia))]
 have:fQ u++ws x=fQ (u++[x]):=by
  show(⟨u.toArray++#[x]⟩:Str)=⟨(u++[x]).toArray⟩
  simp
 rw [this]
theorem Lb{K:List C}{g:C->List Nat}{b:C}(v:List Nat)(h:b∉K):gU (bG K (fD g)) (row b) (.str (fQ v))=bG (K++[b]) (fD (jY g b v)):=by
 have e:bG K (fD g)=bG K (fD (jY g b v)):=by
  unfold bG;refine YU fun c a=>?_;unfold fD jY;rw [if_neg (fun z=>h (by rw [<- z];exact a))]
 have d:PyData.str (fQ v)=fD (jY g b v) b:=by unfold fD jY;rw [if_pos rfl]
 rw [e,d];exact GI K _ b h
theorem tS(neg:Bool)(K:List C)(f:C->D)(b:C):cX neg (aB b) (.dict (bG K f))=some (.bool (if neg then !K.contains b else K.contains b)):=by
 show(cH (aB b)).bind (fun k=>if dE (bG K f)=true then some (Zf (if neg then !fH (bG K f) k else fH (bG K f) k))else none)=_
 rw [j3,Qj,kP,if_pos rfl,vB]
def left(G K:List C):Nat:=(G.filter fun c => !K.contains c).length
theorem NW{G K:List C}{b:C}(e:b∈G)(d:b∉K):left G (K++[b])<left G K:=by
 refine Ej (fun c a=>?_) ⟨b,e,?_,?_⟩
 ·rw [Q8,<- YH,Qr]at a ⊢;exact fun z=>a (QG _ z)
 ·rw [Q8,<- YH,Qr];exact d
 ·rw [Bool.not_eq_false',Qr];exact Qu _ (Qm.mpr rfl)
section
variable {G:List C}{s:C}
def gW(G:List C)(s:C)(K:List C)(g:C->List Nat)(R:List C)(a s5 s6 s7:Sl):aA:=[.dat (eK G),.dat (aB s),.ownD (bG K (fD g)),.dat (.list (R.map aB)),a,s5,s6,s7]
def BB:aA->Option aK:=cE (eB (aE (cX true) (eV 7) (eV 2))) (aM (lV 2 (eV 7) (aE nY (j5 2 (eV 5)) (eV 6))) (jW 4 (eV 7))) cM
structure Bd(G K' Fa:List C)(n:Nat):Prop where
 k:K'.length+left G K'<=26
 f:Fa.length+left G K'<=n
inductive Cd(G:List C)(s:C)(k:Nat)(K:List C)(g:C->List Nat)(P:C->Nat->Prop)(f:List C->(C->List Nat)->List C->Option aK)(n:Nat)(o:Option aK):Prop
 | mk (K2:List C) (g2:C->List Nat) (Fa2:List C) (e:o=f K2 g2 Fa2) (m:Md G k K g P K2 g2 Fa2 s) (b:Bd G K2 Fa2 n):Cd G s k K g P f n o
theorem Pz{k:Nat}{K K' R Fa:List C}{g g':C->List Nat}{P:C->Nat->Prop}{a:C}{x:Nat}(l:Lv G s k K g R)(m:Md G k K g P K' g' Fa s)(n:a∈R)(r:x∈nb G a)(E:k<=60)(o:Bd G K' Fa 30):
  Cd G s k K g (fun b y=>P b y ∨ (b=a/\y=x)) (fun K g Fa=>some (.nx (gW G s K g R (.own (Fa.map aB)) (.dat (aB a)) (.dat (.str (ws x))) (.dat (aB (bL a x)))))) 30 (BB (gW G s K' g' R (.own (Fa.map aB)) (.dat (aB a)) (.dat (.str (ws x))) (.dat (aB (bL a x))))):=by
 obtain⟨t,j⟩:=QB.mp r;have j:=Qr.mp j;have A:=(m.up a (l.e a n).1).1
 have v:(g' a).length<=1000:=by rw [(m.up a (l.e a n).1).2,(l.e a n).2];lia
 have h:=tS true K' (fD g') (bL a x);by_cases c:bL a x∈K'
 ·rw [Qr.mpr c]at h
  exact⟨K',g',Fa,eF (oB (oo rfl rfl h)),m.old fun _=>c,o⟩
 ·rw [show K'.contains (bL a x)=false from by rw [Um];exact fun z=>c (Qr.mp z)]at h;have B:=NW j c;have H:=o.k;have F:=o.f
  refine⟨K'++[bL a x],jY g' (bL a x) (g' a++[x]),Fa++[bL a x],iY (b:=true) (oB (oo rfl rfl h)) (fun _=>?_) fun z=>(by cases z),m.add l n t j c,⟨by rw [Qf,QF];lia,by rw [Qf,QF];lia⟩⟩
  have u:decide ((bG K' (fD g')).length<1000)=true:=decide_eq_true (by unfold bG;rw [Ql];lia);generalize er:gW G s K' g' R (.own (Fa.map aB)) (.dat (aB a)) (.dat (.str (ws x))) (.dat (aB (bL a x)))=ρ
  have own:j5 2 (eV 5) ρ=some (.str (fQ (g' a))):=by
   subst er
   show(cH (aB a)).bind (fun p=>if dE (bG K' (fD g'))=true then getD (bG K' (fD g')) p else none)=_
   rw [j3,Qj,kP,if_pos rfl,A7 (fD g') A];rfl
  have w:=oo (gb:=eV 6) own (by subst er;rfl) (Iv (g' a) x v);subst er
  have pt:lV 2 (eV 7) (aE nY (j5 2 (eV 5)) (eV 6)) (gW G s K' g' R (.own (Fa.map aB)) (.dat (aB a)) (.dat (.str (ws x))) (.dat (aB (bL a x))))=some (.nx (gW G s (K'++[bL a x]) (jY g' (bL a x) (g' a++[x])) R (.own (Fa.map aB)) (.dat (aB a)) (.dat (.str (ws x))) (.dat (aB (bL a x))))):=by
   show((aE nY (j5 2 (eV 5)) (eV 6) _).bind fun d=>(some (aB (bL a x))).bind fun q=>(cH q).bind fun p=>if(dE (bG K' (fD g')) && decide ((bG K' (fD g')).length<1000) && oK 2 _)=true then some (aK.nx _)else none)=_
   rw [w,Qj,Qj,j3,Qj,kP,Lb _ c,u];rfl
  refine aV pt ((wN (i:=4) (ds:=Fa.map aB) (d:=aB (bL a x)) rfl rfl (by rw [Ql];lia)).trans ?_);rw [QZ];rfl
def CY:aA->Option aK:=dW (bO (aO pJ (aD (eV 0) (aD (eV 5) aG)))) (j1 2 (fS (bC 6) (fS (bC 7) j0))) BB
inductive tI(G:List C)(s:C)(k:Nat)(K:List C)(g:C->List Nat)(R:List C)(P:C->Nat->Prop)(q:Sl->Prop)(ρ:aA):Prop
 | mk (K':List C) (g':C->List Nat) (Fa:List C) (s5 s6 s7:Sl) (er:ρ=gW G s K' g' R (.own (Fa.map aB)) s5 s6 s7) (h5:q s5) (m:Md G k K g P K' g' Fa s) (b:Bd G K' Fa 30):tI G s k K g R P q ρ
theorem Kf{k:Nat}{K R:List C}{g:C->List Nat}{s5 s6 s7:Sl}(l:Lv G s k K g R)(O:k<=60)(S:Bd G K [] 30):
  ∃ ρ',fG (bC 5) CY (R.map aB) (gW G s K g R (.own []) s5 s6 s7)=some (.nx ρ')/\tI G s k K g R (fun b y=>b∈([]++R)/\y∈eL) (fun _=>True) ρ':=by
 refine AY aB (fun c f=>tI G s k K g R (fun b y=>b∈c/\y∈eL) (fun _=>True) f) R [] _ ⟨K,g,[],s5,s6,s7,rfl,trivial,(Md.start (R:=R)).weak fun b y p _=>(nomatch p.1),S⟩ fun a T c f h=>?_;obtain⟨z,v,Fa,Z,j,i,rfl,_,m,r⟩:=h
 obtain⟨H,X,M⟩:=AY (s:=j1 2 (fS (bC 6) (fS (bC 7) j0))) (g:=BB) (x5 a) (fun F f=>tI G s k K g R (fun b y=>(b∈c/\y∈eL) ∨ (b=a/\y∈F)) (fun t=>t=.dat (aB a)) f) (nb G a) []
  (gW G s z v R (.own (Fa.map aB)) (.dat (aB a)) j i) ⟨z,v,Fa,_,j,i,rfl,rfl,m.weak fun b y p _=>p.elim id fun q=>(nomatch q.2),r⟩ fun x N F f h=>by
   obtain⟨w,u,Fa2,I,E,B,rfl,rfl,n,d⟩:=h;obtain⟨Y,U,A,W,J,o⟩:=Pz l n T N O d
   refine⟨gW G s w u R (.own (Fa2.map aB)) (.dat (aB a)) (.dat (.str (ws x))) (.dat (aB (bL a x))),_,rfl,W,Y,U,A,_,_,_,rfl,rfl,J.weak fun b y p _=>?_,o⟩
   rcases p with p | ⟨p,q⟩
   ·exact .inl (.inl p)
   ·rcases Qx.mp q with q | q
    ·exact .inl (.inr ⟨p,q⟩)
    ·exact .inr ⟨p,Qm.mp q⟩
 obtain⟨w,u,Fa2,I,E,B,rfl,rfl,n,d⟩:=M
 refine⟨gW G s z v R (.own (Fa.map aB)) (.dat (aB a)) j i,_,rfl,iO (fA (bD rfl (Tc G a)) rfl) X,w,u,Fa2,_,E,B,rfl,trivial,n.weak fun b y p Q=>?_,d⟩
 rcases Qx.mp p.1 with q | q
 ·exact .inl ⟨q,p.2⟩
 ·have e:=Qm.mp q;subst e;exact .inr ⟨rfl,by rw [JC];exact QB.mpr ⟨p.2,Qr.mpr Q⟩⟩
theorem NX{k:Nat}{K K' Fa:List C}{g g':C->List Nat}{P:C->Nat->Prop}(m:Md G k K g P K' g' Fa s):left G K'<=left G K/\(Fa≠[]->left G K'<left G K):=by
 have sub:∀ c,(!K'.contains c)=true->(!K.contains c)=true:=fun c a=>by
  rw [Q8,<- YH,Qr]at a ⊢;exact fun z=>a (m.up c z).1
 refine⟨Ei sub G,fun e=>?_⟩
 obtain⟨c,a⟩:=List.exists_mem_of_ne_nil _ e;obtain⟨d,b⟩:=(m.fa c).mp a;refine Ej sub ⟨c,(m.nw c d b).1.stop,?_,?_⟩
 ·rw [Q8,<- YH,Qr];exact b
 ·rw [Bool.not_eq_false',Qr];exact d
inductive WI(G:List C)(s:C)(m:Nat)(ρ:aA):Prop
 | mk (K:List C) (g:C->List Nat) (R:List C) (s4 s5 s6 s7:Sl) (k:Nat) (er:ρ=gW G s K g R s4 s5 s6 s7) (lv:Lv G s k K g R) (hm:m=2 * left G K+(if R=[]then 0 else 1)) (hk:k+m<=55) (hK:K.length+left G K<=26):WI G s m ρ
inductive WD(G:List C)(s:C)(ρ:aA):Prop
 | mk (K:List C) (g:C->List Nat) (s4 s5 s6 s7:Sl) (k:Nat) (er:ρ=gW G s K g [] s4 s5 s6 s7) (lv:Lv G s k K g []) (hk:k<=100):WD G s ρ
def Ml:aA->Option aK:=aM (jX 4 aG) (aM (dW (bO (eV 3)) (bC 5) CY) (oP 4 (bI 3 (eV 4))))
theorem T6(m:Nat)(ρ:aA)(o:WI G s m ρ):(eB (aE bR (eV 3) (dM aG)) (ρ.map frz)=some false/\WD G s ρ) ∨ (eB (aE bR (eV 3) (dM aG)) (ρ.map frz)=some true/\∃ ρ' m',Ml ρ=some (.nx ρ')/\m'<m/\WI G s m' ρ'):=by
 obtain⟨K,g,R,p,s5,s6,s7,k,rfl,d,t,z,w⟩:=o;have b:=AB R [];by_cases c:R=[]
 ·subst c;exact .inl ⟨oB (oo rfl rfl b),K,g,p,s5,s6,s7,k,rfl,d,by lia⟩
 ·rw [decide_eq_false c]at b;rw [if_neg c]at t;obtain⟨ρ',e,f,n,Fa,j,i,h,rfl,_,l,u⟩:=Kf (s5:=s5) (s6:=s6) (s7:=s7) d (by lia) ⟨w,by rw [Y9];lia⟩;obtain⟨le,lt⟩:=NX l
  have y:2 * left G f+(if Fa=[]then 0 else 1)<m:=by
   split
   ·lia
   ·rename_i q;have:=lt q;lia
  exact .inr ⟨oB (oo rfl rfl b),gW G s f n Fa (.dat (.list (Fa.map aB))) j i h,_,aV (ρ':=gW G s K g R (.own []) s5 s6 s7) rfl (aV (iO (fA rfl rfl) e) rfl),y,f,n,Fa,_,j,i,h,k+1,rfl,d.next l fun a v x r=>⟨by rw [JC];exact v,r⟩,rfl,by lia,u.k⟩
theorem Hx(hs:s∈G)(e:G.length<=25):∃ K g,(∀ u c,Pt G s u c->c∈K)/\(∀ c∈K,Pt G s (g c) c/\(∀ u,Pt G s u c->(g c).length<=u.length)/\(g c).length<=100)/\kZ [eK G,aB s]=some (.dict (bG K (fD g))):=by
 have o:left G [s]<=25:=Qv (QQ _ _) e;obtain⟨ρ',i,K,g,n,m,l,j,k,rfl,a,h⟩:=BD (WI G s) (WD G s) T6 900 (2 * left G [s]+1) (gW G s [s] (fun _=>[]) [s] .no .no .no .no) (by lia) ⟨[s],_,[s],_,_,_,_,0,rfl,Lv.zero hs _ rfl,by simp,by lia,by rw [QF];lia⟩
 refine⟨K,g,fun u c p=>a.all u c p,fun c d=>⟨a.b c d,a.c c d,Qv (a.f c d) h⟩,cZ ?_⟩
 exact aV (ρ':=[.dat (eK G),.dat (aB s),.ownD (bG [s] (fD fun _=>[])),.no,.no,.no,.no,.no]) rfl (aV rfl (aV i (cV rfl)))
end
end My
namespace My
open PySem.SeqAt L2 DL SD SL EL DC TB TX EX
def tP:List Int:=[0,1,2,3,4]
theorem To:(tP.all fun a=>tP.all fun b=>kU (aB (a,b)))=true:=by decide +kernel
theorem wI{w h:Nat}(e:w<=5)(f:h<=5){c:C}(a:dU w h c=true):kU (aB c)=true:=by
 obtain⟨d,k,b,j⟩:=iW.mp a
 have m:∀ i:Int,0<=i->i<5->i∈tP:=fun i l g=>by
  unfold tP;simp only [Qi,Ju,or_false];lia
 have:=QM.mp (QM.mp To c.1 (m _ d (by lia))) c.2 (m _ b (by lia))
 exact this
def Wy(G:List C)(a b:C):Option (List Nat)->Prop
 | some u=>Pt G a u b/\(∀ v,Pt G a v b->u.length<=v.length)/\u.length<=100
 | none=>∀ u,¬ Pt G a u b
theorem DY{n:Nat}{g:aA->Option aK}{ds:List D}{d:D}(h:g (dQ n ds)=some (.rt d)):lL n g ds=some (.inl d):=by
 unfold lL;rw [h]
theorem A0{n:Nat}{g:aA->Option aK}{ds:List D}{x:Str}{ρ:aA}(h:g (dQ n ds)=some (.ex x ρ)):lL n g ds=some (.inr x):=by
 unfold lL;rw [h]
theorem As{a b:aA->Option aK}{ρ ρ':aA}{x:Str}(h:a ρ=some (.ex x ρ')):aM a b ρ=some (.ex x ρ'):=by
 unfold aM;rw [h];rfl
section
variable {w h:Nat}{W:C->Bool}(hw:w<=5)(hh:h<=5)
def Hd(w h:Nat)(W:C->Bool)(cs:List C):List C:=(aI w h W).filter fun c => !(cs.any fun a=>bT (bF w h W) a c)
include hw hh
theorem OH{cs:List C}(H:∀ a∈cs,a∈aI w h W)(G:cs.length<=900){one d:C}(q:one∈aI w h W)(o:d∈aI w h W):
  ∃ r,nP [aZ w h W,.list (cs.map aB),aB one,aB d]=some (match r with | some u=>.inl (.str (fQ u)) | none=>.inr "NoWay")/\Wy (Hd w h W cs) one d r:=by
 have y:=j8 hw hh W;have A:dO [aZ w h W]=some (.list ((aI w h W).map aB)):=pT hw hh;have v:=MC hw hh H G;have s:=sU w h W;obtain⟨e,f⟩:∃ e,e=(aI w h W).filter fun c=>cs.any fun a=>bT (bF w h W) a c:=⟨_,rfl⟩;rw [<- f]at v;have E:eX [.list (e.map aB)]=some (eK e):=sC rfl (by rw [f];exact Qv (QQ _ _) (by lia)) (by rw [f];exact i3 (lB s _));have m:(Hd w h W cs).length<=25:=Qv (QQ _ _) y;have B:eX [.list ((Hd w h W cs).map aB)]=some (eK (Hd w h W cs)):=sC rfl (by lia) (i3 (lB s _))
 have F:bX (bW (bO (aO dO (aD (eV 0) aG))) (bC 0) (eB (aE (cX true) (eV 0) (eV 1))) (eV 0) [none,some 4]) [.dat (aZ w h W),.dat (.list (cs.map aB)),.dat (aB one),.dat (aB d),.dat (eK e),.no,.no]=some (.list ((Hd w h W cs).map aB)):=by
  refine fZ (xs:=aI w h W) aB (fun c => !e.contains c) aB (fun ρ=>∃ t,ρ=[t,.dat (eK e)]) (fA (bD rfl A) rfl) (by lia) ⟨_,rfl⟩ ?_ ?_
  ·rintro c _ ρ ⟨t,rfl⟩
   exact⟨[.dat (aB c),.dat (eK e)],rfl,⟨_,rfl⟩,oB (oo rfl rfl (vC true c e)),fun _=>rfl⟩
  ·unfold Hd;refine congrArg (List.map aB) (Yz fun c n=>?_);refine congrArg (fun b => !b) ?_;rw [f,Q6,Qr,QB]
   exact⟨fun z=>z.2,fun z=>⟨n,z⟩⟩
 have i:=vC true one (Hd w h W cs)
 have start:u8 (dQ 7 [aZ w h W,.list (cs.map aB),aB one,aB d])=(aM (cE (eB (aE (cX true) (eV 2) (eV 5))) (pX "NoWay" (lO [(mZ (eV 2)),mY])) cM)
   (aM (bI 6 (aO kZ (aD (eV 5) (aD (eV 2) aG)))) (aM (cE (eB (aE (cX true) (eV 3) (eV 6))) (pX "NoWay" (lO [mY,(mZ (eV 3))])) cM) (bK (aE kJ (eV 6) (eV 3)))))) [.dat (aZ w h W),.dat (.list (cs.map aB)),.dat (aB one),.dat (aB d),.dat (eK e),.dat (eK (Hd w h W cs)),.no]:=by
  unfold u8;rw [show dQ 7 [aZ w h W,.list (cs.map aB),aB one,aB d]=[.dat (aZ w h W),.dat (.list (cs.map aB)),.dat (aB one),.dat (aB d),.no,.no,.no]from rfl];exact aV (kB (bD rfl (nI (cJ.mp q).1 (cJ.mp q).2))) (aV (kB (bD rfl (nI (cJ.mp o).1 (cJ.mp o).2))) (aV (cK (bD (fR (bD rfl v) rfl) E)) (aV (cK (bD (fR F rfl) B)) rfl)))
 by_cases l:one∈Hd w h W cs
 ·rw [Qr.mpr l]at i;obtain⟨K,g,J,I,x⟩:=Hx l m;have k:=tS true K (fD g) d;by_cases j:d∈K
  ·rw [Qr.mpr j]at k
   refine⟨some (g d),DY (start.trans (aV (eF (oB (oo rfl rfl i))) (aV (cK (bD rfl x)) (aV (eF (oB (oo rfl rfl k))) (cV (oo rfl rfl (vG (fD g) j))))))),I d j⟩
  ·rw [show K.contains d=false from by rw [Um];exact fun z=>j (Qr.mp z)]at k
   refine⟨none,A0 (ρ:=[.dat (aZ w h W),.dat (.list (cs.map aB)),.dat (aB one),.dat (aB d),.dat (eK e),.dat (eK (Hd w h W cs)),.dat (.dict (bG K (fD g)))]) (start.trans (aV (eF (oB (oo rfl rfl i))) (aV (cK (bD rfl x)) (As (iY (b:=true) (oB (oo rfl rfl k)) (fun _=>?_) fun z=>by cases z))))),fun u p=>j (J u _ p)⟩
   show(((if kU (aB d)=true then some ()else none).bind fun _=>some ()).bind fun _=>some (aK.ex "NoWay" _))=_
   rw [wI hw hh (cJ.mp o).1];rfl
 ·rw [show(Hd w h W cs).contains one=false from by rw [Um];exact fun z=>l (Qr.mp z)]at i
  refine⟨none,A0 (ρ:=[.dat (aZ w h W),.dat (.list (cs.map aB)),.dat (aB one),.dat (aB d),.dat (eK e),.dat (eK (Hd w h W cs)),.no]) (start.trans (As (iY (b:=true) (oB (oo rfl rfl i)) (fun _=>?_) fun z=>by cases z))),fun u p=>l p.start⟩
  show(((if kU (aB one)=true then some ()else none).bind fun _=>some ()).bind fun _=>some (aK.ex "NoWay" _))=_
  rw [wI hw hh (cJ.mp q).1];rfl
end
theorem MF(d:List C)(b:C):bH (.list ((d++[b]).map aB)) (.int (-1))=some (aB b):=by
 show L2.atI ((d++[b]).map aB) (-1)=_
 unfold L2.atI L2.ixN;rw [if_neg (by decide),Ql,Qf,QF];rw [if_pos (by lia)];rw [show((-1:Int)+((d.length+1:Nat):Int)).toNat=d.length by lia];simp
theorem AZ{b:Type}{s:D->aA->Option aA}{g:aA->Option aK}(item:b->D)(I:List b->aA->Prop)(L:List b)(h:∀ pre a post,L=pre++a::post->∀ ρ,I pre ρ->∃ ρ1 ρ2,s (item a) ρ=some ρ1/\g ρ1=some (.nx ρ2)/\I (pre++[a]) ρ2):
  ∀(xs pre:List b) (ρ:aA),L=pre++xs->I pre ρ->∃ ρ',fG s g (xs.map item) ρ=some (.nx ρ')/\I L ρ'
 | [],pre,ρ,e,h0=>⟨ρ,rfl,by rw [e,QO];exact h0⟩
 | x::xs,pre,ρ,e,h0=>by
  obtain⟨ρ1,ρ2,f,d,c⟩:=h pre x xs e ρ h0;rw [Qp];unfold fG;rw [f,Qj,d,Qj];exact AZ item I L h xs (pre++[x]) ρ2 (by rw [QL];exact e) c
section
variable {w h:Nat}{W:C->Bool}(hw:w<=5)(hh:h<=5)
include hw hh
end
end My
namespace My
open PySem.SeqAt L2 DL SD SL EL DC TB TX EX LM
def cD(g:C->List C):C->D:=fun c=>.list ((g c).map aB)
theorem AG:∀ l:List C,noLs (l.map aB)=true
 | []=>rfl
 | _::l=>by rw [Qp];unfold noLs;rw [AG l];rfl
theorem TF{i:Nat}{b:aA->Option (List D)}{ρ:aA}{kvs:List (D × D)}{ds:List D}{a:List (List Int × D)}(g:ρ[i]?=some (.ownD kvs))(f:b (ρ.set i (.dat (.dict kvs)))=some [.list ds])(c:ds.length<=1000)(e:jH ds=some a)(d:(qV kvs (iB a) && mX ρ)=true):
  oQ i b ρ=some (.nx (ρ.set i (.ownD (kvs++iB a)))):=by
 unfold oQ;rw [g];dsimp only;rw [f,Qj];dsimp only;rw [if_pos c,e,Qj,if_pos d]
theorem Tz{i j:Nat}{g:aA->Option D}{ρ:aA}{kvs:List (D × D)}{d:D}(c:ρ[j]?=some (.ownD kvs))(b:g (ρ.set j (.dat (.dict kvs)))=some d)(a:(okL d && mX ρ)=true):pY i j g ρ=some (.nx (ρ.set i (.dat d))):=by
 unfold pY;rw [c];dsimp only;rw [b,Qj,if_pos a]
section
variable {w h:Nat}{W:C->Bool}
def iS(w h:Nat)(W:C->Bool)(s:C)(K:List C)(g:C->List C)(L R:List C)(s6 s7 s8:Sl):aA:=[.dat (aZ w h W),.dat (aB s),.dat (dI w h W),.ownD (bG K (cD g)),.dat (.list (L.map aB)),.dat (.list (R.map aB)),s6,s7,s8]
def lf(O K:List C):List C:=O.filter fun c => !K.contains c
def zR:aA->Option aK:=aM (bI 8 (bX (bW (bO (eV 4)) (bC 0) (eB (aO j2 (aD (eV 1) (aD (eV 2) (aD (eV 0) aG))))) (eV 0) [none,some 2,some 7])))
  (aM (oQ 3 (aD (bX (bW (bO (eV 8)) (bC 0) eT (dS (aD (eV 0) (aD (aE cL (aE kJ (eV 1) (eV 2)) (dM (aD (eV 0) aG))) aG))) [none,some 3,some 7])) aG))
  (aM (pY 4 3 (bX (bW (bO (eV 4)) (bC 0) (eB (aE (cX true) (eV 0) (eV 1))) (eV 0) [none,some 3])))
  (lU 6 (eV 8))))
theorem uL{O K:List C}{c:C}:c∈lf O K ↔ c∈O/\c∉K:=by
 unfold lf;rw [QB,Q8,<- YH,Qr]
theorem FI{O K a:List C}:(lf O K).filter (fun c => !(K++a).contains c)=lf O (K++a):=by
 unfold lf;rw [List.filter_filter];refine Yz fun c _=>?_;rw [Q6,Qy,Q8,Q8,<- YH,<- YH,Qr,Qr]
 exact⟨fun z=>z.1,fun z=>⟨z,fun y=>z (QG _ y)⟩⟩
theorem Ir(l:List C)(x:C)(a:l.length<=500):cL (.list (l.map aB)) (.list [aB x])=some (.list ((l++[x]).map aB)):=by
 show(if(l.map aB).length + [aB x].length<=1000 then some (Zp (l.map aB++[aB x]))else none)=_
 rw [if_pos (by rw [Ql,QF];lia),QZ];rfl
theorem Vc{K a:List C}{f b:C->D}(h:(K++a).Nodup):((bG K f++bG a b).map fun p=>cH p.1).Nodup:=by
 have e:((bG K f++bG a b).map fun p=>cH p.1)=(K++a).map fun c=>some (row c):=by
  unfold bG;rw [QZ,QZ,Yk,Yk];rfl
 rw [e];exact Q2.mpr (h.imp fun d z=>d (kW (QJ z)))
theorem Py(l:w<=5)(o:h<=5){s a:C}{K Fa R fo:List C}{g:C->List C}{s8:Sl}(u:a∈K)(F:∀ c∈K,c∈aI w h W)(G:K≠[])(m:(K++fo).Nodup)(n:(K++fo).length<=900)(B:(g a).length<=500)(J:Fa.length+fo.length<=900)
  (q:fo=(lf (aI w h W) K).filter fun x=>bT (bF w h W) a x):
  zR (iS w h W s K g (lf (aI w h W) K) R (.own (Fa.map aB)) (.dat (aB a)) s8)=some (.nx (iS w h W s (K++fo) (gD g a g fo) (lf (aI w h W) (K++fo)) R (.own ((Fa++fo).map aB)) (.dat (aB a)) (.dat (.list (fo.map aB))))):=by
 have v:=j8 l o W;have I:(lf (aI w h W) K).length<=25:=Qv (QQ _ _) v;have H:=cJ.mp (F a u);have j:∀ c∈K,c∉fo:=fun c i z=>(Yn.mp m).2.2 c i c z rfl
 have r:bG K (cD g)++bG fo (fun x=>.list ((g a++[x]).map aB))=bG (K++fo) (cD (gD g a g fo)):=by
  unfold bG cD gD;rw [QZ];refine congr (congrArg _ (YU fun c i=>?_)) (YU fun c i=>?_)
  ·rw [if_neg (j c i)]
  ·rw [if_pos i]
 refine aV (cK (d:=.list (fo.map aB)) ?_) (aV (ρ':=iS w h W s (K++fo) (gD g a g fo) (lf (aI w h W) K) R (.own (Fa.map aB)) (.dat (aB a)) (.dat (.list (fo.map aB)))) ?_ (aV (ρ':=iS w h W s (K++fo) (gD g a g fo) (lf (aI w h W) (K++fo)) R (.own (Fa.map aB)) (.dat (aB a)) (.dat (.list (fo.map aB)))) ?_ ?_))
 ·refine fZ (xs:=lf (aI w h W) K) aB (fun x=>bT (bF w h W) a x) aB (fun e=>∃ f,e=[f,.dat (dI w h W),.dat (aB a)]) (fA rfl rfl) (by lia) ⟨_,rfl⟩ ?_ (by rw [q]);rintro b E e ⟨f,rfl⟩;have t:=cJ.mp (uL.mp E).1
  refine⟨[.dat (aB b),.dat (dI w h W),.dat (aB a)],rfl,⟨_,rfl⟩,oB (bD rfl ((Br (pQ l o H.1 t.1)).trans ?_)),fun _=>rfl⟩
  unfold bT;rw [jJ l o t.1,t.2];rfl
 ·have k:bX (bW (bO (eV 8)) (bC 0) eT (dS (aD (eV 0) (aD (aE cL (aE kJ (eV 1) (eV 2)) (dM (aD (eV 0) aG))) aG))) [none,some 3,some 7])
    [.dat (aZ w h W),.dat (aB s),.dat (dI w h W),.dat (.dict (bG K (cD g))),.dat (.list ((lf (aI w h W) K).map aB)),.dat (.list (R.map aB)),.own (Fa.map aB),.dat (aB a),.dat (.list (fo.map aB))]=some (.list (fo.map fun x=>ZB [aB x,.list ((g a++[x]).map aB)])):=by
   refine fZ (xs:=fo) aB (fun _=>true) (fun x=>ZB [aB x,.list ((g a++[x]).map aB)]) (fun e=>∃ f,e=[f,.dat (.dict (bG K (cD g))),.dat (aB a)]) (fA rfl rfl) (by rw [Qf]at n;lia) ⟨_,rfl⟩ ?_ (by rw [mB]);rintro x y e ⟨f,rfl⟩
   exact⟨[.dat (aB x),.dat (.dict (bG K (cD g))),.dat (aB a)],rfl,⟨_,rfl⟩,rfl,fun _=>tY rfl (oo (oo rfl rfl (vG (cD g) u)) rfl (Ir (g a) x B))⟩
  have dd:iB (fo.map fun c=>(row c,Zp ((g a++[c]).map aB)))=bG fo fun x=>.list ((g a++[x]).map aB):=Ad (fun x=>Zp ((g a++[x]).map aB)) fo [] (Yn.mp m).2.1
  refine(TF (kvs:=bG K (cD g)) rfl (vT k) (by rw [Ql];rw [Qf]at n;lia) (AM (fun x=>.list ((g a++[x]).map aB)) fo) ?_).trans (by rw [dd,r];rfl)
  ·rw [dd,Qy]
   refine⟨?_,rfl⟩
   unfold qV;simp only [Qy]
   refine⟨⟨⟨⟨⟨kP _ _,kP _ _⟩,?_⟩,decide_eq_true (Vc m)⟩,?_⟩,decide_eq_true (by unfold bG;rw [Qf,Ql,Ql];rw [Qf]at n;lia)⟩
   ·cases K with
    | nil=>exact absurd rfl G
    | cons=>rfl
   ·rw [QM];intro p A;obtain⟨c,_,rfl⟩:=QT.mp A;exact AG _
 ·have k:bX (bW (bO (eV 4)) (bC 0) (eB (aE (cX true) (eV 0) (eV 1))) (eV 0) [none,some 3])
    [.dat (aZ w h W),.dat (aB s),.dat (dI w h W),.dat (.dict (bG (K++fo) (cD (gD g a g fo)))),.dat (.list ((lf (aI w h W) K).map aB)),.dat (.list (R.map aB)),.own (Fa.map aB),.dat (aB a),.dat (.list (fo.map aB))]=some (.list ((lf (aI w h W) (K++fo)).map aB)):=by
   refine fZ (xs:=lf (aI w h W) K) aB (fun c => !(K++fo).contains c) aB (fun e=>∃ f,e=[f,.dat (.dict (bG (K++fo) (cD (gD g a g fo))))]) (fA rfl rfl) (by lia) ⟨_,rfl⟩ ?_ (by rw [FI]);rintro x y e ⟨f,rfl⟩
   exact⟨[.dat (aB x),.dat (.dict (bG (K++fo) (cD (gD g a g fo))))],rfl,⟨_,rfl⟩,oB (oo rfl rfl (tS true (K++fo) (cD (gD g a g fo)) x)),fun _=>rfl⟩
  exact Tz (kvs:=bG (K++fo) (cD (gD g a g fo))) rfl k (by rw [Qy];exact⟨AG _,rfl⟩)
 ·refine(zI (ds:=Fa.map aB) (es:=fo.map aB) rfl rfl (by rw [Ql,Ql];lia)).trans ?_
  rw [<- QZ];rfl
end
end My
namespace My
open PySem.SeqAt L2 DL SD SL EL DC TB TX EX LM
theorem Ay(p:C->Bool):∀ l:List C,(l.filter p).length+(l.filter fun c => !p c).length=l.length
 | []=>rfl
 | a::l=>by
  have:=Ay p l
  rw [Ys,Ys]
  cases p a <;> simp <;> lia
section
variable {w h:Nat}{W:C->Bool}{s:C}
inductive xB(w h:Nat)(W:C->Bool)(s:C)(K:List C)(g:C->List C)(R:List C)(N:Nat)(P:C->Prop)(ρ:aA):Prop
 | mk (K':List C) (g':C->List C) (Fa:List C) (s7 s8:Sl) (er:ρ=iS w h W s K' g' (lf (aI w h W) K') R (.own (Fa.map aB)) s7 s8) (m:Cw (bT (bF w h W)) (aI w h W) K g P K' g' Fa) (b:K'.length+(lf (aI w h W) K').length=N):xB w h W s K g R N P ρ
theorem Cw.same{e:C->C->Bool}{O K f Fa:List C}{g g':C->List C}{P d:C->Prop}(m:Cw e O K g P f g' Fa)(h:∀ b,P b ↔ d b):Cw e O K g d f g' Fa:=
 ⟨m.k,m.nd,m.m,m.old,fun c i=>let⟨a,h1,h2,h3⟩:=m.new c i;⟨a,h1,(h a).mp h2,h3⟩,fun a j=>m.all a ((h a).mpr j)⟩
theorem MO(J:w<=5)(M:h<=5){k N:Nat}{K R:List C}{g:C->List C}{s7 s8:Sl}(v:Cv (bT (bF w h W)) (aI w h W) s k K g R)(Y:k<=60)(Q:K.length+(lf (aI w h W) K).length=N)(Z:N<=26):
  ∃ ρ',fG (bC 7) zR (R.map aB) (iS w h W s K g (lf (aI w h W) K) R (.own []) s7 s8)=some (.nx ρ')/\xB w h W s K g R N (fun b=>b∈R) ρ':=by
 refine AZ aB (fun o t=>xB w h W s K g R N (fun b=>b∈o) t) R (fun o a B U t H=>?_) R [] _ rfl ⟨K,g,[],s7,s8,rfl,(Cw.start v.nd).same fun b=>⟨fun z=>z.elim,fun z=>(nomatch z)⟩,Q⟩;obtain⟨K',l,Fa,X,u,rfl,m,O⟩:=H
 have S:a∈R:=by rw [U];exact Qu _ Qd
 obtain⟨q,al⟩:=(v.r a).mp S;obtain⟨fo,d⟩:∃ fo,fo=(lf (aI w h W) K').filter fun x=>bT (bF w h W) a x:=⟨_,rfl⟩
 have F:∀ x,x∈fo ↔ x∈aI w h W/\x∉K'/\bT (bF w h W) a x=true:=fun x=>by
  rw [d,QB,uL,and_assoc]
 have p:fo.Nodup:=by
  rw [d]
  exact((i3 (sU w h W)).filter _).filter _
 have A:=m.step q F p;have G:l a=g a:=m.old a q
 have T:gD l a l fo=gD l a g fo:=by unfold gD;rw [G]
 have j:a∈K':=by rw [m.k];exact QG _ q
 have n:lf (aI w h W) (K'++fo)=(lf (aI w h W) K').filter fun x => !bT (bF w h W) a x:=by
  rw [<- FI];refine Yz fun c f=>?_;have E:=(uL.mp f).2;refine congrArg (fun b => !b) ?_;rw [Q6,Qr,Qx,F c]
  exact⟨fun z=>z.elim (fun y=>absurd y E) fun y=>y.2.2,fun z=>.inr ⟨(uL.mp f).1,E,z⟩⟩
 have I:=Ay (fun x=>bT (bF w h W) a x) (lf (aI w h W) K');rw [<- n,<- d]at I
 have i:(K'++fo).length+(lf (aI w h W) (K'++fo)).length=N:=by rw [Qf];lia
 have fl:Fa.length<=K'.length:=by rw [m.k,Qf];lia
 have e:=Py J M (s:=s) (R:=R) (Fa:=Fa) (s8:=u) (g:=l) j (fun c f=>by
  rw [m.k]at f;rcases Qx.mp f with f | f
  ·exact v.m c f
  ·exact m.m c f) (fun z=>by rw [z]at j;cases j) A.nd (by rw [Qf]at i ⊢;lia) (by rw [G];lia) (by rw [Qf]at i;lia) d
 rw [T]at e
 exact⟨iS w h W s K' l (lf (aI w h W) K') R (.own (Fa.map aB)) (.dat (aB a)) u,_,rfl,e,K'++fo,_,Fa++fo,_,_,rfl,A.same fun b=>by rw [Qx,Qm],i⟩
inductive CI(w h:Nat)(W:C->Bool)(s:C)(m:Nat)(ρ:aA):Prop
 | mk (K:List C) (g:C->List C) (R:List C) (s6 s7 s8:Sl) (k N:Nat) (er:ρ=iS w h W s K g (lf (aI w h W) K) R s6 s7 s8) (lv:Cv (bT (bF w h W)) (aI w h W) s k K g R) (hm:m=2 * (lf (aI w h W) K).length+(if R=[]then 0 else 1)) (hk:k+m<=55) (hK:K.length+(lf (aI w h W) K).length=N) (hN:N<=26):CI w h W s m ρ
inductive xA(w h:Nat)(W:C->Bool)(s:C)(ρ:aA):Prop
 | mk (K:List C) (g:C->List C) (s6 s7 s8:Sl) (k:Nat) (er:ρ=iS w h W s K g (lf (aI w h W) K) [] s6 s7 s8) (lv:Cv (bT (bF w h W)) (aI w h W) s k K g []) (hk:k<=60) (hl:K.length<=26):xA w h W s ρ
def IA:aA->Option aK:=aM (jX 6 aG) (aM (dW (bO (eV 5)) (bC 7) zR) (oP 6 (bI 5 (eV 6))))
theorem Sx(r:w<=5)(u:h<=5)(m:Nat)(ρ:aA)(o:CI w h W s m ρ):(eB (aE bR (eV 5) (dM aG)) (ρ.map frz)=some false/\xA w h W s ρ) ∨ (eB (aE bR (eV 5) (dM aG)) (ρ.map frz)=some true/\∃ ρ' m',IA ρ=some (.nx ρ')/\m'<m/\CI w h W s m' ρ'):=by
 obtain⟨K,g,R,p,s7,s8,k,N,rfl,d,t,A,x,l⟩:=o;have b:=AB R [];by_cases c:R=[]
 ·subst c;exact .inl ⟨oB (oo rfl rfl b),K,g,p,s7,s8,k,rfl,d,by lia,by lia⟩
 ·rw [decide_eq_false c]at b;rw [if_neg c]at t;obtain⟨ρ',e,K',n,Fa,i,f,rfl,j,v⟩:=MO r u (s7:=s7) (s8:=s8) d (by lia) x l
  have z:K'.length=K.length+Fa.length:=by rw [j.k,Qf]
  have y:2 * (lf (aI w h W) K').length+(if Fa=[]then 0 else 1)<m:=by
   split
   ·lia
   ·rename_i q
    have:=List.length_pos_iff.mpr q
    lia
  exact .inr ⟨oB (oo rfl rfl b),iS w h W s K' n (lf (aI w h W) K') Fa (.dat (.list (Fa.map aB))) i f,_,aV (ρ':=iS w h W s K g (lf (aI w h W) K) R (.own []) s7 s8) rfl (aV (iO (fA rfl rfl) e) rfl),y,K',n,Fa,_,i,f,k+1,N,rfl,d.next j fun a=>Iff.rfl,rfl,by lia,v,l⟩
theorem N0{O:List C}:(O.filter fun c => !(c == s))=lf O [s]:=by
 unfold lf;refine Yz fun c _=>congrArg (fun b => !b) ?_;rw [Q6,Qr,Qm,beq_iff_eq]
theorem C8(d:w<=5)(e:h<=5)(hs:s∈aI w h W):∃ K g,K.Nodup/\K.length<=26/\(∀ l c,Cn (bT (bF w h W)) (aI w h W) s l c->c∈K)/\(∀ c∈K,Sh (bT (bF w h W)) (aI w h W) s (g c) c/\(g c).length<=61)/\lZ [aZ w h W,aB s]=some (.dict (bG K (cD g))):=by
 have m:=j8 d e W;have x:(lf (aI w h W) [s]).length<=25:=Qv (QQ _ _) m;obtain⟨ρ',r,K,g,v,u,t,k,rfl,a,y,q⟩:=BD (CI w h W s) (xA w h W s) (Sx d e) 900 (2 * (lf (aI w h W) [s]).length+1) (iS w h W s [s] (fun _=>[s]) (lf (aI w h W) [s]) [s] .no .no .no) (by lia) ⟨[s],_,[s],_,_,_,0,_,rfl,Cv.zero hs,by simp,by lia,rfl,by rw [QF];lia⟩
 refine⟨K,g,a.nd,q,fun l c p=>a.all l c p,fun c j=>⟨(a.b c j).1,Qv (a.b c j).2 (by lia)⟩,cZ ?_⟩
 have mk:eX [.tuple (((cells w h).filter W).map aB)]=some (dI w h W):=sC rfl (by have:=Vf d e W;lia) (i3 (lB (p5 w h) _));have n:dO [aZ w h W]=some (.list ((aI w h W).map aB)):=pT d e
 have o:bX (bW (bO (aO dO (aD (eV 0) aG))) (bC 0) (eB (aE bR (eV 0) (eV 1))) (eV 0) [none,some 1]) [.dat (aZ w h W),.dat (aB s),.dat (dI w h W),.ownD (bG [s] (cD fun _=>[s])),.no,.no,.no,.no,.no]=some (.list ((lf (aI w h W) [s]).map aB)):=by
  refine fZ (xs:=aI w h W) aB (fun c => !(c == s)) aB (fun f=>∃ i,f=[i,.dat (aB s)]) (fA (bD rfl n) rfl) (by lia) ⟨_,rfl⟩ ?_ (by rw [N0]);rintro c _ f ⟨i,rfl⟩
  exact⟨[.dat (aB c),.dat (aB s)],rfl,⟨_,rfl⟩,oB (oo rfl rfl (x8 c s)),fun _=>rfl⟩
 exact aV (cK (bD rfl mk)) (aV (ρ':=[.dat (aZ w h W),.dat (aB s),.dat (dI w h W),.ownD (bG [s] (cD fun _=>[s])),.no,.no,.no,.no,.no]) rfl (aV (cK o) (aV rfl (aV r (cV rfl)))))
end
end My
namespace My
open PySem.SeqAt L2 DL SD SL EL DC TB TX EX LM
def lM:List C->Bool
 | g::h::r=>decide (cU (h.1-g.1)<=1) && decide (cU (h.2-g.2)<=1) && lM (h::r)
 | _=>true
theorem Op:(oO.all fun a=>oO.all fun b=>lM (eW a b))=true:=by decide +kernel
theorem FC(a:C):∀ l:List C,lM (l.map (add a))=lM l
 | []=>rfl
 | [_]=>rfl
 | g::h::r=>by
  have b:=FC a (h::r);rw [Qp]at b;rw [Qp,Qp];unfold lM;rw [b,show(add a h).1-(add a g).1=h.1-g.1 by show a.1+h.1-(a.1+g.1)=_;lia,show(add a h).2-(add a g).2=h.2-g.2 by show a.2+h.2-(a.2+g.2)=_;lia]
theorem N3{a b:C}(n:hJ a b):lM (line a b)=true:=by
 unfold line;rw [FC];exact QM.mp (QM.mp Op _ (uN n.x0 n.x1)) _ (uN n.y0 n.y1)
theorem Td{g h:C}(k:(h.1-g.1=0/\(h.2-g.2=1 ∨ h.2-g.2=-1)) ∨ (h.2-g.2=0/\(h.1-g.1=1 ∨ h.1-g.1=-1))):∃ x∈eL,bL g x=h:=by
 have go:∀ x:Nat,x∈eL->g.1+(iC x).1=h.1->g.2+(iC x).2=h.2->∃ x∈eL,bL g x=h:=fun x a c b=>⟨x,a,YX c b⟩;rcases k with⟨p,q | q⟩ | ⟨p,q | q⟩
 ·exact go 115 (by decide) (by show g.1+0=h.1;lia) (by show g.2+1=h.2;lia)
 ·exact go 110 (by decide) (by show g.1+0=h.1;lia) (by show g.2 + -1=h.2;lia)
 ·exact go 101 (by decide) (by show g.1+1=h.1;lia) (by show g.2+0=h.2;lia)
 ·exact go 119 (by decide) (by show g.1 + -1=h.1;lia) (by show g.2+0=h.2;lia)
theorem G4{d g:Int}(b:0<=dX d * g)(a:dX d * g<=cU d):(0<=g/\g<=d) ∨ (d<=g/\g<=0):=by
 unfold dX at b a;unfold cU at a;by_cases p:0<d
 ·rw [if_pos p]at b a;rw [if_neg (by lia)]at a;lia
 ·rw [if_neg p]at b a;by_cases q:d<0
  ·rw [if_pos q]at a;lia
  ·rw [if_neg q]at a;lia
def Rm(O:List C)(a b:C):Prop:=∃ u,Pt O a u b
theorem Rm.go{O:List C}{a g h:C}(r:Rm O a g)(c:h∈O)(k:(h.1-g.1=0/\(h.2-g.2=1 ∨ h.2-g.2=-1)) ∨ (h.2-g.2=0/\(h.1-g.1=1 ∨ h.1-g.1=-1))):Rm O a h:=by
 obtain⟨u,p⟩:=r;obtain⟨x,b,rfl⟩:=Td k
 exact⟨_,p.snoc b c⟩
section
variable {w h:Nat}{W:C->Bool}(hw:w<=5)(hh:h<=5)
include hw hh
theorem On{a g k:C}(r:Rm (aI w h W) a g)(e:k∈aI w h W)(k1:cU (k.1-g.1)<=1)(k2:cU (k.2-g.2)<=1)(b:(!eQ g k || !(bF w h W (g.1,k.2) && bF w h W (k.1,g.2)))=true):Rm (aI w h W) a k:=by
 have s:g∈aI w h W:=let⟨_,p⟩:=r;p.stop;have i:=iW.mp (cJ.mp s).1;have f:=iW.mp (cJ.mp e).1
 have l:k.1-g.1=0 ∨ k.1-g.1=1 ∨ k.1-g.1=-1:=by unfold cU at k1;split at k1 <;> lia
 have j:k.2-g.2=0 ∨ k.2-g.2=1 ∨ k.2-g.2=-1:=by unfold cU at k2;split at k2 <;> lia
 by_cases d:k.1-g.1=0
 ·by_cases c:k.2-g.2=0
  ·have:k=g:=YX (by lia) (by lia)
   rw [this];exact r
  ·exact r.go e (.inl ⟨d,j.resolve_left c⟩)
 ·by_cases c:k.2-g.2=0
  ·exact r.go e (.inr ⟨c,l.resolve_left d⟩)
  ·have t:eQ g k=true:=by
    unfold eQ;rw [Qy,Q8,Q8,beq_eq_false_iff_ne,beq_eq_false_iff_ne]
    exact⟨fun z=>d (by lia),fun z=>c (by lia)⟩
   rw [t]at b;have o:dU w h (g.1,k.2)=true:=iW.mpr ⟨i.1,i.2.1,f.2.2.1,f.2.2.2⟩;have n:dU w h (k.1,g.2)=true:=iW.mpr ⟨f.1,f.2.1,i.2.2.1,i.2.2.2⟩;rw [jJ hw hh o,jJ hw hh n]at b;by_cases m:W (g.1,k.2)=true
   ·have q:W (k.1,g.2)=false:=by
     rw [m]at b
     simpa using b
    exact(r.go (h:=(k.1,g.2)) (cJ.mpr ⟨n,q⟩) (.inr ⟨by show g.2-g.2=0;lia,l.resolve_left d⟩)).go e (.inl ⟨by show k.1-k.1=0;lia,j.resolve_left c⟩)
   ·exact(r.go (h:=(g.1,k.2)) (cJ.mpr ⟨o,by simpa using m⟩) (.inl ⟨by show g.1-g.1=0;lia,j.resolve_left c⟩)).go e (.inr ⟨by show k.2-k.2=0;lia,l.resolve_left d⟩)
theorem FL{a:C}:∀(l:List C) (g:C),Rm (aI w h W) a g->lM (g::l)=true->(∀ c∈l,c∈aI w h W)->gQ (bF w h W) (g::l)=true->∀ c∈g::l,Rm (aI w h W) a c
 | [],g,r,_,_,_=>fun c b=>by rw [Qm.mp b];exact r
 | k::l,g,r,hk,hO,hp=>fun c b=>by
  rw [q9,Qy]at hp;unfold lM at hk;simp only [Qy,decide_eq_true_eq]at hk;rcases Qi.mp b with rfl | b
  ·exact r
  ·exact FL l k (On hw hh r (hO k Qd) hk.1.1 hk.1.2 hp.1) hk.2 (fun c b=>hO c (Qg _ b)) hp.2 c b
theorem G3{a b c:C}(r:Rm (aI w h W) a b)(m:c∈aI w h W)(e:bT (bF w h W) b c=true):Rm (aI w h W) a c:=by
 have o:b∈aI w h W:=let⟨_,p⟩:=r;p.stop;have G:=iW.mp (cJ.mp o).1;have F:=iW.mp (cJ.mp m).1;have n:=pQ hw hh (cJ.mp o).1 (cJ.mp m).1;rw [Bq n,Qy]at e;obtain⟨s,j⟩:=N2 n;have l:=N3 n;have t:=Az n
 have f:∀ x∈line b c,x∈aI w h W:=fun x d=>by
  have k:=QM.mp e.1 x d;unfold line at d;obtain⟨g,u,rfl⟩:=QT.mp d;obtain⟨A,z,y,v⟩:=n.ok.box g u
  have i:dU w h (add b g)=true:=by
   refine iW.mpr ?_;have E:=G4 A z;have B:=G4 y v
   show 0<=b.1+g.1/\b.1+g.1<w/\0<=b.2+g.2/\b.2+g.2<h
   lia
  rw [jJ hw hh i]at k;exact cJ.mpr ⟨i,by simpa using k⟩
 have q:c∈line b c:=by rw [<- t];simp
 rw [j]at f l q e;exact FL hw hh s b r l (fun x d=>f x (Qg _ d)) e.2 c q
theorem C7{a:C}{l:List C}{c:C}(p:Cn (bT (bF w h W)) (aI w h W) a l c):Rm (aI w h W) a c:=by
 induction p with
 | one e=>exact⟨[],.nil e⟩
 | snoc _ d f b=>exact G3 hw hh b d f
theorem TQ{a:C}{x:Nat}(c:a∈aI w h W)(d:x∈eL)(b:bL a x∈aI w h W):bT (bF w h W) a (bL a x)=true:=by
 unfold bT;rw [jJ hw hh (cJ.mp b).1,(cJ.mp b).2]
 have:cU ((bL a x).1-a.1)+cU ((bL a x).2-a.2)<2:=by
  show cU (a.1+(iC x).1-a.1)+cU (a.2+(iC x).2-a.2)<2
  rw [show a.1+(iC x).1-a.1=(iC x).1 by lia,show a.2+(iC x).2-a.2=(iC x).2 by lia]
  rcases BC d with rfl | rfl | rfl | rfl <;> decide
 rw [Ev this (by rw [jJ hw hh (cJ.mp c).1];exact(cJ.mp c).2)];rfl
theorem wJ{a:C}:∀(n:Nat) (u:List Nat) (c:C),u.length=n->Pt (aI w h W) a u c->Cn (bT (bF w h W)) (aI w h W) a (vis a u) c:=by
 intro n
 induction n with
 | zero=>
  intro u c b p
  have:u=[]:=Yl b
  subst this;rw [<- p.e];exact .one p.start
 | succ n f=>
  intro u c b p;rcases Av u with rfl | ⟨v,x,rfl⟩
  ·cases b
  ·obtain⟨q,e,g,d⟩:=p.unsnoc;rw [sV]
   have:=f v (fin a v) (by rw [Qf,QF]at b;lia) q
   rw [e]at d ⊢;exact this.snoc d (TQ hw hh q.stop g d)
end
end My
namespace My
open PySem.SeqAt L2 DL SD SL EL DC TB TX EX LM
theorem Hy{t:aA->Option Bool}{g:aA->Option aK}{m:Nat}{ρ:aA}(h:t (ρ.map frz)=some false):gB t g (m+1) ρ=some (.nx ρ):=by
 unfold gB;rw [h];rfl
theorem Vg{t:aA->Option Bool}{g:aA->Option aK}{m:Nat}{ρ ρ':aA}(h:t (ρ.map frz)=some true)(a:g ρ=some (.nx ρ')):gB t g (m+1) ρ=gB t g m ρ':=by
 show(t (ρ.map frz)).bind _=_
 rw [h,Qj,if_pos rfl,a];rfl
theorem Cu(d:D)(ds:List D):bH (.list (d::ds)) (.int 0)=some d:=by
 show L2.atI (d::ds) 0=some d
 unfold L2.atI;rw [show ixN (d::ds).length 0=some 0 by unfold ixN;simp];rfl
theorem Tw{i:Nat}{R:V->(JW->Prop)->Hp->Prop}{b:List D->Option D}{a:aA->Option D}{ρ:aA}{d:D}(h:ρ[i]?=some (.val R))(c:a ρ=some d):o8 i R b a ρ=b [d]:=by
 unfold o8;rw [h];dsimp only;rw [if_pos rfl,c];rfl
section
variable {R:V->(JW->Prop)->Hp->Prop}{Gf:List D->Option D}{d0:D}
def yG(R:V->(JW->Prop)->Hp->Prop)(d0:D)(b l:List D)(a:Sl):aA:=[.dat d0,.val R,.own b,.dat (.list l),a]
theorem IX{neg:Bool}{kvs:List (D × D)}{x:D}(c:dE kvs=true)(a:(cH x).isSome=true):cX neg x (.dict kvs)=some (.bool (if neg then !gE kvs x else gE kvs x)):=by
 obtain⟨k,b⟩:=Option.isSome_iff_exists.mp a
 show((cH x).bind fun k=>if dE kvs=true then some (Zf (if neg then !fH kvs k else fH kvs k))else none)=_
 unfold gE;rw [b,Qj,if_pos c]
theorem EB{neg:Bool}{kvs:List (D × D)}{l f:List D}(e:dE kvs=true)(d:∀ x∈l,(cH x).isSome=true)(g:l.length<=900):
  bX (bW (bO (eV 3)) (bC 0) (eB (aE (cX neg) (eV 0) (eV 1))) (eV 0) [none,some 4]) (yG R d0 f l (.dat (.dict kvs)))=some (.list (l.filter fun x=>if neg then !gE kvs x else gE kvs x)):=by
 refine fZ (xs:=l) id (fun x=>if neg then !gE kvs x else gE kvs x) id (fun b=>∃ c,b=[c,.dat (.dict kvs)]) (fA rfl (by rw [List.map_id];rfl)) (by lia) ⟨_,rfl⟩ ?_ (by rw [List.map_id]);rintro x a b ⟨c,rfl⟩
 exact⟨[.dat x,.dat (.dict kvs)],rfl,⟨_,rfl⟩,oB (oo rfl rfl (IX e (d x a))),fun _=>rfl⟩
theorem Oy:∀(n:Nat) (l gs r:List D) (s4:Sl) (m:Nat),iX Gf n l=some r->gs.length+n<=900->n+1<=m->
  ∃ s4',gB (eB (aE bR (eV 3) (dM aG))) (aM (bI 4 (o8 1 R Gf (aE bH (eV 3) (eC (.int 0)))))
  (aM (jW 2 (bX (bW (bO (eV 3)) (bC 0) (eB (aE (cX false) (eV 0) (eV 1))) (eV 0) [none,some 4])))
  (bI 3 (bX (bW (bO (eV 3)) (bC 0) (eB (aE (cX true) (eV 0) (eV 1))) (eV 0) [none,some 4]))))) m (yG R d0 gs l s4)=some (.nx (yG R d0 (gs++r) [] s4')):=by
 intro n
 induction n with
 | zero=>
  intro l gs r s4 m h p o;obtain⟨m,rfl⟩:∃ k,m=k+1:=⟨m-1,by lia⟩
  cases l with
  | nil=>
   unfold iX at h;cases h
   exact⟨s4,by rw [QO];exact Hy rfl⟩
  | cons d b=>unfold iX at h;cases h
 | succ n j=>
  intro l gs r s4 m h p o;obtain⟨m,rfl⟩:∃ k,m=k+1:=⟨m-1,by lia⟩
  cases l with
  | nil=>
   unfold iX at h;cases h
   exact⟨s4,by rw [QO];exact Hy rfl⟩
  | cons d b=>
   unfold iX at h
   split at h
   ·rename_i a s
    split at h
    ·rename_i c;simp only [Qy,decide_eq_true_eq,QM]at c;obtain⟨⟨⟨g,f⟩,u⟩,e⟩:=c;obtain⟨i,t,h⟩:=aJ h;cases h;obtain⟨s4',q⟩:=j ((d::b).filter fun x => !gE a x) (gs++[.list ((d::b).filter (gE a))]) i (.dat (.dict a)) m t (by rw [Qf,QF];lia) (by lia)
     refine⟨s4',?_⟩
     rw [QL]at q
     refine(Vg ?_ ?_).trans q
     ·refine oB (oo rfl rfl ?_);unfold bR;rw [if_pos (by rw [u];rfl)];rfl
     ·refine aV (cK (d:=.dict a) ?_) (aV (wN rfl (EB (neg:=false) g f e) (by lia)) (cK (EB (neg:=true) g f e)))
      exact(Tw rfl (oo rfl rfl (Cu d b))).trans s
    ·cases h
   ·cases h
theorem gp_ok:tE:=by
 intro R b d dr h
 cases d with
 | list a=>
  have h:Option.map Zp (iX b 800 a)=some dr:=h
  cases e:iX b 800 a with
  | none=>rw [e]at h;cases h
  | some r=>
   rw [e]at h;cases h;obtain⟨c,q⟩:=Oy (R:=R) (d0:=.list a) 800 a [] r .no 900 e (by show 0+800<=900;lia) (by lia);exact aV rfl (aV (cK (d:=.list a) rfl) (aV q (cV rfl)))
 | _=>cases h
end
end My
namespace My
open PySem.SeqAt L2 DL SD SL EL DC TB TX EX LM MN
def dC(co:C->C->Bool):Nat->List C->List (List C)
 | _,[]=>[]
 | 0,_=>[]
 | n+1,a::l=>((a::l).filter (co a))::dC co n ((a::l).filter fun x => !co a x)
structure g9(co:C->C->Bool)(O:List C):Prop where
 refl:∀ a∈O,co a a=true
 symm:∀ a∈O,∀ b∈O,co a b=true->co b a=true
 trans:∀ a∈O,∀ b∈O,∀ c∈O,co a b=true->co b c=true->co a c=true
section
variable {co:C->C->Bool}
theorem g9.sub{O l:List C}(q:g9 co O)(h:∀ c∈l,c∈O):g9 co l:=⟨fun a d=>q.refl a (h a d),fun a d b e=>q.symm a (h a d) b (h b e),fun a d b e c f=>q.trans a (h a d) b (h b e) c (h c f)⟩
theorem nE{a:C}{l:List C}{n:Nat}(q:co a a=true)(h:(a::l).length<=n+1):((a::l).filter fun x => !co a x).length<=n:=by
 rw [Ys,q]
 have:=QQ (fun x => !co a x) l
 rw [QE]at h
 show(l.filter fun x => !co a x).length<=n
 lia
theorem u9:∀(n:Nat) (l:List C),l.length<=n->g9 co l->∀ g∈dC co n l,∃ b r,b∈l/\g=b::r/\g=l.filter (co b)
 | _,[],_,_=>fun g d=>by unfold dC at d;cases d
 | 0,_::_,h,_=>by cases h
 | n+1,a::l,h,q=>fun g d=>by
  unfold dC at d;have j:=q.refl a Qd;rcases Qi.mp d with rfl | d
  ·exact⟨a,_,Qd,by rw [Ys,j];rfl,rfl⟩
  ·have sub:∀ c∈(a::l).filter (fun x => !co a x),c∈a::l:=fun c f=>(QB.mp f).1;obtain⟨b,r,i,o,m⟩:=u9 n _ (nE j h) (q.sub sub) g d
   refine⟨b,r,sub b i,o,?_⟩
   rw [m,List.filter_filter];refine Yz fun c f=>?_;have nb:=(QB.mp i).2
   cases e:co b c with
   | false=>rfl
   | true=>
    rw [JD]
    cases k:co a c with
    | false=>rfl
    | true=>
     have:=q.trans a Qd c f b (sub b i) k (q.symm b (sub b i) c f e)
     rw [this]at nb;cases nb
theorem vA:∀(n:Nat) (l:List C),l.length<=n->g9 co l->∀ c,c∈(dC co n l).flatten ↔ c∈l
 | _,[],_,_=>fun c=>by unfold dC;exact Iff.rfl
 | 0,_::_,h,_=>by cases h
 | n+1,a::l,h,q=>fun c=>by
  unfold dC;have b:=q.refl a Qd;rw [JH,Qx,vA n _ (nE b h) (q.sub fun c d=>(QB.mp d).1) c,QB,QB]
  cases co a c <;> simp
theorem Gc:∀(n:Nat) (l:List C),l.length<=n->g9 co l->l.Nodup->(dC co n l).flatten.Nodup
 | _,[],_,_,_=>by unfold dC;exact Jv
 | 0,_::_,h,_,_=>by cases h
 | n+1,a::l,h,q,nd=>by
  unfold dC;have d:=q.refl a Qd;have b:g9 co ((a::l).filter fun x => !co a x):=q.sub fun c j=>(QB.mp j).1;rw [JH];refine Yn.mpr ⟨nd.filter _,Gc n _ (nE d h) b (nd.filter _),fun x i y g e=>?_⟩;subst e;have k:=(QB.mp i).2;have f:=(QB.mp ((vA n _ (nE d h) b x).mp g)).2;rw [k]at f;cases f
def kK(g:List C):C:=g.headD (0,0)
theorem Gb:∀(n:Nat) (l:List C),l.length<=n->g9 co l->Up l->Up ((dC co n l).map kK)/\∀ c∈(dC co n l).map kK,c∈l
 | _,[],_,_,_=>by unfold dC;exact⟨.nil,fun c b=>(nomatch b)⟩
 | 0,_::_,h,_,_=>by cases h
 | n+1,a::l,h,q,up=>by
  unfold dC;have d:=q.refl a Qd;have j:g9 co ((a::l).filter fun x => !co a x):=q.sub fun c b=>(QB.mp b).1;obtain⟨k,i⟩:=Gb n _ (nE d h) j (lB up _)
  have e:kK ((a::l).filter (co a))=a:=by rw [Ys,d];rfl
  rw [Qp,e]
  refine⟨Q9.mpr ⟨fun c b=>?_,k⟩,fun c b=>?_⟩
  ·have g:=QB.mp (i c b);rcases Qi.mp g.1 with rfl | f
   ·rw [d]at g;cases g.2
   ·exact(Q9.mp up).1 c f
  ·rcases Qi.mp b with rfl | b
   ·exact Qd
   ·exact(QB.mp (i c b)).1
theorem Oz{n:Nat}{l:List C}(h:l.length<=n)(q:g9 co l){x y:C}(c:x∈l)(i:y∈l):(∃ g∈dC co n l,x∈g/\y∈g) ↔ co x y=true:=by
 constructor
 ·rintro⟨g,d,a,j⟩
  obtain⟨b,r,f,_,e⟩:=u9 n l h q g d;rw [e]at a j;exact q.trans x c b f y i (q.symm b f x c (QB.mp a).2) (QB.mp j).2
 ·intro e;obtain⟨g,d,a⟩:=List.mem_flatten.mp ((vA n l h q x).mpr c);obtain⟨b,r,f,_,k⟩:=u9 n l h q g d
  refine⟨g,d,a,?_⟩
  rw [k]at a ⊢;exact QB.mpr ⟨i,q.trans b f x c y i (QB.mp a).2 e⟩
end
def lD(g:List C):D:=.list (g.map aB)
theorem IZ{K:List C}{f:C->D}(x:C):gE (bG K f) (aB x)=K.contains x:=by
 unfold gE;rw [j3];exact vB K f x
theorem Hk{co:C->C->Bool}{O:List C}{p:List D->Option D}(t:O.length<=800)(q:g9 co O)(m:∀ a∈O,∃ K f,p [aB a]=some (.dict (bG K f))/\∀ c∈O,K.contains c=co a c):∀(n:Nat) (l:List C),l.length<=n->(∀ c∈l,c∈O)->l.length<=800->iX p n (l.map aB)=some ((dC co n l).map lD)
 | n,[],_,_,_=>by cases n <;> rfl
 | 0,_::_,h,_,_=>by cases h
 | n+1,a::l,h,sub,h8=>by
  obtain⟨K,f,e,u⟩:=m a (sub a Qd)
  have o:∀ b:Bool,((a::l).map aB).filter (fun x=>if b then !gE (bG K f) x else gE (bG K f) x)=(((a::l).filter fun x=>if b then !co a x else co a x).map aB):=fun b=>by
   rw [List.filter_map];refine congrArg (List.map aB) (Yz fun c d=>?_)
   show(if b then !gE (bG K f) (aB c)else gE (bG K f) (aB c))=_
   rw [IZ,u c (sub c d)]
  have r:=q.refl a (sub a Qd);have s:=Hk t q m n ((a::l).filter fun x => !co a x) (nE r h) (fun c d=>sub c (QB.mp d).1) (Qv (QQ _ _) h8);have i:=o true;have g:=o false;simp only [if_true,Qq,if_false]at i g;rw [Qp]at i g ⊢;unfold iX dC;rw [e];dsimp only;rw [if_pos ?_,i,s,Qj,g]
  ·rfl
  ·have j:=p3 (a::l);rw [Qp]at j;rw [kP,j];simp only [JD,Qy,decide_eq_true_eq,QM]
   refine⟨⟨fun x k=>?_,trivial⟩,?_⟩
   ·rw [<- Qp (f:=aB)]at k;obtain⟨c,_,rfl⟩:=QT.mp k;rfl
   ·rw [QE,Ql];rw [QE]at h8;lia
theorem GS(x y:Int):∀ l:List C,fB [.int x,.int y] (l.map aB)=some (l.map fun c=>(row c,aB c))
 | []=>rfl
 | c::l=>by
  rw [Qp];unfold fB;rw [show jV [.int x,.int y] (aB c)=some (row c)from rfl,Qj,GS x y l];rfl
theorem Dz(b:C):∀ l:List C,(∀ c∈l,lN b c=true)->jC (row b,aB b) (l.map fun c=>(row c,aB c))=(row b,aB b)
 | [],_=>rfl
 | c::l,h=>by
  rw [Qp];unfold jC
  have n:¬ HT.lexLt (row c) (row b)=true:=fun z=>by
   have e:=(mD b c).mp (h c Qd);have d:=(mD c b).mp z;lia
  rw [if_neg n];exact Dz b l fun x a=>h x (Qg _ a)
theorem PN{a:C}{l:List C}(b:Up (a::l)):o0 [lD (a::l)]=some (aB a):=by
 show(fB [.int a.1,.int a.2] ((a::l).map aB)).bind _=_
 rw [GS,Qj]
 show some (jC (row a,aB a) (l.map fun c=>(row c,aB c))).2=_
 rw [Dz a l (Q9.mp b).1]
end My
namespace My
open PySem.SeqAt L2 DL SD SL EL DC TB TX EX LM MN
def co(O:List C)(a b:C):Bool:=@decide (Rm O a b) (Classical.propDecidable _)
theorem k7{O:List C}{a b:C}:co O a b=true ↔ Rm O a b:=by
 unfold co;exact @decide_eq_true_iff _ (Classical.propDecidable _)
theorem GV{j:Nat}{GP:(List D->Option D)->D->Option D}{a gb:aA->Option D}{ρ:aA}{d b:D}{r:Option D}(f:a ρ=some d)(e:ρ[j]?=some (.dat b))(c:GP (CF gb b) d=r):rT j GP a gb ρ=r:=by
 unfold rT;rw [f,Qj,e];exact c
theorem Ke{u:List Nat}(h:u.length<=100):rP [.str (fQ u)]=some (.int (u.length:Int)):=by
 show(if decide ((fQ u).length<=1000000)then some (J4 ((fQ u).length:Int))else none)=_
 rw [show(fQ u).length=u.length from by unfold fQ;rfl,decide_eq_true (by lia),if_pos rfl]
section
variable {w h:Nat}{W:C->Bool}(hw:w<=5)(hh:h<=5)
include hw hh
theorem Rm.trans{a b c:C}(r:Rm (aI w h W) a b)(q:Rm (aI w h W) b c):Rm (aI w h W) a c:=by
 obtain⟨u,p⟩:=q
 have:=wJ hw hh u.length u c rfl p
 clear p
 revert this
 generalize vis b u=l;intro p
 induction p with
 | one=>exact r
 | snoc _ e f d=>exact G3 hw hh d e f
theorem rN:g9 (co (aI w h W)) (aI w h W):=
 ⟨fun a d=>k7.mpr ⟨[],.nil d⟩,fun a d b f e=>k7.mpr (let⟨_,p⟩:=k7.mp e;⟨_,p.back⟩),fun a d b f c j i g=>k7.mpr (Rm.trans hw hh (k7.mp i) (k7.mp g))⟩
theorem Hj{d:List D->Option D}(j:∀ a∈aI w h W,∃ K f,d [aB a]=some (.dict (bG K f))/\∀ c∈aI w h W,(c∈K ↔ Rm (aI w h W) a c)):n4 d (lD (aI w h W))=some (.list ((dC (co (aI w h W)) 800 (aI w h W)).map lD)):=by
 have k:=j8 hw hh W
 show Option.map Zp (iX d 800 ((aI w h W).map aB))=_
 rw [Hk (co:=co (aI w h W)) (O:=aI w h W) (by lia) (rN hw hh) (fun a g=>?_) 800 (aI w h W) (by lia) (fun c b=>b) (by lia)]
 ·rfl
 ·obtain⟨K,f,e,i⟩:=j a g
  refine⟨K,f,e,fun c b=>?_⟩
  rw [Q6,Qr,i c b,k7]
theorem Ts:sN [aZ w h W]=some (.list ((dC (co (aI w h W)) 800 (aI w h W)).map lD)):=by
 have d:=j8 hw hh W;have b:dO [aZ w h W]=some (lD (aI w h W)):=pT hw hh;have mk:eX [lD (aI w h W)]=some (eK (aI w h W)):=sC rfl (by lia) (i3 (sU w h W));refine cZ (aV (cK (bD (vT (bD rfl b)) mk)) (cV (GV (bD rfl b) rfl (Hj hw hh fun a f=>?_))));obtain⟨K,g,j,i,e⟩:=Hx f d
 exact⟨K,fD g,bD (G:=kZ) rfl e,fun c k=>⟨fun z=>⟨_,(i c z).1⟩,fun⟨u,p⟩=>j u c p⟩⟩
theorem OC:sJ [aZ w h W]=some (.list ((dC (co (aI w h W)) 800 (aI w h W)).map lD)):=by
 have b:dO [aZ w h W]=some (lD (aI w h W)):=pT hw hh;refine cZ (cV (GV (bD rfl b) rfl (Hj hw hh fun a d=>?_)));obtain⟨K,g,_,_,i,f,e⟩:=C8 hw hh d
 exact⟨K,cD g,bD (G:=lZ) rfl e,fun c j=>⟨fun z=>C7 hw hh (f c z).1.1,fun⟨u,p⟩=>i _ c (wJ hw hh u.length u c rfl p)⟩⟩
def tM:Option (List C)->D
 | some l=>lD l
 | none=>.none
def Ch(w h:Nat)(W:C->Bool)(a b:C):Option (List C)->Prop
 | some l=>Sh (bT (bF w h W)) (aI w h W) a l b/\l.length<=61
 | none=>¬ Rm (aI w h W) a b
theorem Rl{a b:C}(d:a∈aI w h W)(f:b∈aI w h W):∃ r,nQ [aZ w h W,aB a,aB b]=some (match r with | some l=>.inl (lD l) | none=>.inr "NoWay")/\Ch w h W a b r:=by
 obtain⟨K,g,_,_,k,j,e⟩:=C8 hw hh d;have i:=tS true K (cD g) b;by_cases c:b∈K
 ·rw [Qr.mpr c]at i
  exact⟨some (g b),DY (aV (kB (bD rfl (nI (cJ.mp d).1 (cJ.mp d).2))) (aV (kB (bD rfl (nI (cJ.mp f).1 (cJ.mp f).2))) (aV (cK (bD rfl e)) (aV (eF (oB (oo rfl rfl i))) (cV (oo rfl rfl (vG (cD g) c))))))),j b c⟩
 ·rw [show K.contains b=false from by rw [Um];exact fun z=>c (Qr.mp z)]at i
  refine⟨none,A0 (ρ:=[.dat (aZ w h W),.dat (aB a),.dat (aB b),.dat (.dict (bG K (cD g)))]) (aV (kB (bD rfl (nI (cJ.mp d).1 (cJ.mp d).2))) (aV (kB (bD rfl (nI (cJ.mp f).1 (cJ.mp f).2))) (aV (cK (bD rfl e)) (As (iY (b:=true) (oB (oo rfl rfl i)) (fun _=>?_) fun z=>by cases z))))),fun⟨u,p⟩=>c (k _ b (wJ hw hh u.length u b rfl p))⟩
  show(((if kU (aB a)=true then some ()else none).bind fun _=>((if kU (aB b)=true then some ()else none).bind fun _=>some ())).bind fun _=>some (aK.ex "NoWay" _))=_
  rw [wI hw hh (cJ.mp d).1,wI hw hh (cJ.mp f).1];rfl
theorem FG{a b:C}(d:a∈aI w h W)(c:b∈aI w h W):∃ r,kY [aZ w h W,aB a,aB b]=some (tM r)/\Ch w h W a b r:=by
 obtain⟨r,e,q⟩:=Rl hw hh d c
 refine⟨r,cZ ?_,q⟩
 unfold A1 rE rD sW;rw [show dQ 3 [aZ w h W,aB a,aB b]=[.dat (aZ w h W),.dat (aB a),.dat (aB b)]from rfl]
 show(((nQ [aZ w h W,aB a,aB b]).bind _).bind _)=_
 rw [e]
 cases r <;> rfl
def uH:Option (List Nat)->D
 | some u=>.int (u.length:Int)
 | none=>.none
theorem OE:Hd w h W []=aI w h W:=by
 unfold Hd;rw [List.filter_eq_self];intro c _;rfl
theorem PF{a b:C}(d:a∈aI w h W)(c:b∈aI w h W):∃ r,nR [aZ w h W,aB a,aB b]=some (uH r)/\Wy (aI w h W) a b r:=by
 obtain⟨r,e,q⟩:=OH hw hh (W:=W) (cs:=[]) (fun _ z=>(nomatch z)) (by simp) d c;rw [OE hw hh]at q
 refine⟨r,cZ ?_,q⟩
 unfold A3 rE rD BE sW;rw [show dQ 3 [aZ w h W,aB a,aB b]=[.dat (aZ w h W),.dat (aB a),.dat (aB b)]from rfl]
 show((((nP [aZ w h W,.list (([]:List C).map aB),aB a,aB b]).bind _).bind _).bind _)=_
 rw [e]
 cases r with
 | none=>rfl
 | some u=>
  have l:=Ke q.2.2
  show((((rP [.str (fQ u)]).bind fun f=>some (Sum.inl f)).bind _).bind _)=_
  rw [l];rfl
end
end My
namespace My
open PySem.SeqAt L2 DL SD SL EL DC TB TX EX LM MN
def eG(l:List C)(k:Nat):C:=l.getD k (0,0)
theorem oW{l:List C}{i:Nat}(a:i<l.length):eG l i=l[i]:=by unfold eG;simp [List.getD,a]
theorem xZ{l:List C}{i:Int}(c:0<=i)(b:i<l.length):bH (.list (l.map aB)) (.int i)=some (aB (eG l i.toNat))/\eG l i.toNat∈l:=by
 have a:i.toNat<l.length:=by lia
 have e:eG l i.toNat=l[i.toNat]:=by unfold eG;simp [List.getD,a]
 constructor
 ·show L2.atI (l.map aB) i=_
  unfold L2.atI L2.ixN;rw [Ql,if_pos c,if_pos b,e]
  simp [a]
 ·rw [e];exact Yr a
def oH(l:List C)(k:Nat):D:=.tuple [.int (k:Int),aB (eG l k)]
theorem Km(l:List C):jG 0 (l.map aB)=(List.range l.length).map (oH l):=by
 refine List.ext_getElem? fun i=>?_;rw [AJ,QS,QS,JK];by_cases c:i<l.length
 ·rw [List.getElem?_range c,Qh c]
  show some _=some (oH l i)
  unfold oH eG
  simp [List.getD,c]
 ·rw [List.getElem?_eq_none (by lia),List.getElem?_eq_none (by simpa using Jr c)];rfl
theorem HV{l:List C}{i j:Nat}(b:i<j)(a:j<l.length):∃ p m q,l=p++eG l i::(m++eG l j::q)/\p.length=i/\m.length=j-i-1:=by
 refine⟨l.take i,(l.drop (i+1)).take (j-i-1),l.drop (j+1),?_,by rw [Q0];lia,by rw [Q0,YG];lia⟩
 have g:l=l.take i++l.drop i:=(Ye i l).symm;have f:l.drop i=l[i]::l.drop (i+1):=Ym (by lia);have e:l.drop (i+1)=(l.drop (i+1)).take (j-i-1)++(l.drop (i+1)).drop (j-i-1):=(Ye _ _).symm
 have d:(l.drop (i+1)).drop (j-i-1)=l.drop j:=by rw [List.drop_drop];congr 1;lia
 have c:l.drop j=l[j]::l.drop (j+1):=Ym a;rw [oW (show i<l.length by lia),oW a]
 conv=>lhs;rw [g,f,e,d,c]
theorem Tt{l:List C}(h:l.Nodup):(l.map row).Nodup:=Q2.mpr (h.imp fun a z=>a (kW z))
theorem EG:∀{l:List (List Int)},l.Nodup->dd l=l
 | [],_=>rfl
 | k::r,h=>by
  have h:=Yu.mp h;unfold dd;rw [if_neg h.1,EG h.2]
theorem x6(p q:Bool)(h:p=q):bR (.bool p) (.bool q)=some (.bool false):=by
 subst h
 cases p <;> rfl
section
variable {w h:Nat}{W:C->Bool}(hw:w<=5)(hh:h<=5)
include hw hh
theorem TN{a:C}(b:a∈aI w h W):bT (bF w h W) a a=true:=by
 have q:=cJ.mp b;unfold bT;rw [jJ hw hh q.1,q.2,Ev (by show cU (a.1-a.1)+cU (a.2-a.2)<2;rw [Int.sub_self,Int.sub_self];decide) (by rw [jJ hw hh q.1];exact q.2)];rfl
theorem NA{a b:C}{l:List C}(s:Sh (bT (bF w h W)) (aI w h W) a l b){i j:Nat}(g:i<l.length)(d:j<l.length):bT (bF w h W) (eG l i) (eG l j)=decide ((if(i:Int)-(j:Int)<0 then -((i:Int)-(j:Int))else(i:Int)-(j:Int))<2):=by
 have mem:∀ k,k<l.length->eG l k∈aI w h W:=fun k n=>s.1.mem _ (by rw [oW n];exact Yr n)
 have lt:∀ i j:Nat,i<j->j<l.length->bT (bF w h W) (eG l i) (eG l j)=decide (j=i+1):=fun i j f d=>by
  obtain⟨p,m,q,e,r,o⟩:=HV f d
  have:=(s.near e).1
  rw [Q6,this,decide_eq_true_iff]
  exact⟨fun z=>by rw [z]at o;simp at o;lia,fun z=>Yl (by lia)⟩
 rcases Nat.lt_trichotomy i j with c | c | c
 ·rw [lt i j c d];rw [Q6,decide_eq_true_iff,decide_eq_true_iff]
  split <;> lia
 ·subst c;rw [TN hw hh (mem i g),Int.sub_self];rfl
 ·rw [G2 (pQ hw hh (cJ.mp (mem i g)).1 (cJ.mp (mem j d)).1),lt j i c g];rw [Q6,decide_eq_true_iff,decide_eq_true_iff]
  split <;> lia
theorem Nz{a b:C}{l:List C}(s:Sh (bT (bF w h W)) (aI w h W) a l b):l.Nodup:=by
 rw [List.nodup_iff_pairwise_ne,List.pairwise_iff_getElem];intro i j f d c;obtain⟨p,m,q,e,k,g⟩:=HV c d
 have:=(s.near e).2
 rw [oW f,oW d]at this;exact this
theorem OP{a b:C}{l:List C}(s:Sh (bT (bF w h W)) (aI w h W) a l b)(A:l.length<=61):pC [aZ w h W,lD l]=some (.bool true):=by
 have mem:∀ k,k<l.length->dU w h (eG l k)=true:=fun k t=>(cJ.mp (s.1.mem _ (by rw [oW t];exact Yr t))).1
 have r:∀ n m d c:Sl,pM (aD (eV 1) aG) [.dat (aZ w h W),.dat (lD l),n,m,d,c]=some ((List.range l.length).map (oH l)):=fun n m d c=>by
  rw [<- Km];rfl
 refine cZ (At (oH l) (fun f=>∃ n m d c,f=[.dat (aZ w h W),.dat (lD l),n,m,d,c]) (List.range l.length) (r _ _ _ _) ⟨_,_,_,_,rfl⟩ ?_ ?_)
 ·rintro i p f ⟨n,m,d,c,rfl⟩;have p:=QR.mp p
  refine⟨[.dat (aZ w h W),.dat (lD l),.dat (.int (i:Int)),.dat (aB (eG l i)),d,c],rfl,?_⟩
  obtain⟨u,e,z,v,rfl⟩:=AX (s:=j1 2 (fS (bC 4) (fS (bC 5) j0))) (g:=cE (eB (aE bR (aO pI (aD (eV 0) (aD (eV 3) (aD (eV 5) aG)))) (aE mT (aO oC (aD (aE qI (eV 2) (eV 4)) aG)) (eC (.int 2))))) (bK (eC (.bool false))) cM) (oH l) (fun f=>∃ d c,f=[.dat (aZ w h W),.dat (lD l),.dat (.int (i:Int)),.dat (aB (eG l i)),d,c]) (List.range l.length) [.dat (aZ w h W),.dat (lD l),.dat (.int (i:Int)),.dat (aB (eG l i)),d,c] ⟨_,_,rfl⟩ (by
   rintro j o f ⟨d,c,rfl⟩;have o:=QR.mp o
   refine⟨[.dat (aZ w h W),.dat (lD l),.dat (.int (i:Int)),.dat (aB (eG l i)),.dat (.int (j:Int)),.dat (aB (eG l j))],_,rfl,TC (oB (oo (bD rfl (TU hw hh (mem i p) (mem j o))) rfl (x6 _ _ (NA hw hh s p o)))),_,_,rfl⟩)
  exact⟨_,iO (r _ _ _ _) e,_,_,_,_,rfl⟩
 ·rintro f ⟨n,m,d,c,rfl⟩;refine cV (oo (x:=.int (l.length:Int)) (y:=.int (l.length:Int)) ?_ ?_ ?_)
  ·show((oS [lD l]).bind fun q=>if q.length<=1000 then some (J4 (dd q).length)else none)=_
   rw [show oS [lD l]=(if(l.map aB).length<=75 then nL (l.map aB)else none)from rfl,if_pos (by rw [Ql];lia),wK,Qj,if_pos (by rw [Ql];lia),EG (Tt (Nz hw hh s)),Ql]
  ·show some (J4 ((l.map aB).length:Int))=_
   rw [Ql]
  ·unfold iG;rw [if_pos (show(shaped (J4 (l.length:Int)) && shaped (J4 (l.length:Int)))=true from rfl)]
   show some (Zf ((l.length:Int) == (l.length:Int)))=_
   rw [beq_self_eq_true]
end
end My
namespace My
open PySem.SeqAt L2 DL SD SL EL DC TB TX EX LM MN
theorem FE:∀ gs:List (List C),J8 (gs.map lD)=true/\J9 (gs.map lD)<=2
 | []=>⟨rfl,QY _⟩
 | g::gs=>by
  obtain⟨c,b⟩:=FE gs;obtain⟨a,d⟩:=vJ g
  refine⟨?_,?_⟩
  ·rw [Qp,J8,c]
   show(Zw (.list (g.map aB)) && true)=true
   rw [Zw,a];rfl
  ·rw [Qp,J9];refine Nat.max_le.mpr ⟨?_,b⟩
   show J9 (g.map aB)+1<=2
   lia
theorem Gu(a:List (List C)):Zq (.list (a.map lD))=true:=by
 obtain⟨b,c⟩:=FE a
 have:ZZ (.list (a.map lD))<=64:=by show J9 (a.map lD)+1<=64;lia
 simp [Zq,Zw,b,this]
theorem Ef:∀ gs:List (List C),ZA (gs.map lD) (gs.map lD)=true
 | []=>rfl
 | g::gs=>by
  show(ZA (g.map aB) (g.map aB) && ZA (gs.map lD) (gs.map lD))=true
  rw [Ef gs,uW,decide_eq_true rfl];rfl
theorem Kl(a:List (List C)):bR (.list (a.map lD)) (.list (a.map lD))=some (.bool false):=by
 unfold bR;rw [Gu]
 show some (Zf (!PyData.eqvAll (a.map lD) (a.map lD)))=_
 rw [Ef];rfl
theorem Pf(a:List (List C)):bR (.list (a.map lD)) (.list [])=some (.bool (!a.isEmpty)):=by
 unfold bR;rw [Gu]
 cases a <;> rfl
theorem Bc{co:C->C->Bool}:∀(n:Nat) (l:List C),l.length<=n->g9 co l->(dC co n l).flatten.length=l.length/\(dC co n l).length<=l.length
 | _,[],_,_=>by unfold dC;exact⟨rfl,Qk _⟩
 | 0,_::_,h,_=>by cases h
 | n+1,a::l,h,q=>by
  have b:=q.refl a Qd;obtain⟨f,i⟩:=Bc n _ (nE b h) (q.sub fun c e=>(QB.mp e).1);have d:=Ay (co a) (a::l)
  have g:1<=((a::l).filter (co a)).length:=by rw [Ys,b];simp
  unfold dC;rw [QE (a:=a)]at d ⊢;rw [JH,Qf,f,QE]
  exact⟨by lia,by lia⟩
theorem IB(l m:List C)(h:l.length+m.length<=1000):cL (lD l) (lD m)=some (lD (l++m)):=by
 show(if(l.map aB).length+(m.map aB).length<=1000 then some (Zp (l.map aB++m.map aB))else none)=_
 rw [if_pos (by rw [Ql,Ql];exact h),<- QZ];rfl
theorem Cy(b:C)(r:List C):bH (lD (b::r)) (.int 0)=some (aB b):=Cu (aB b) (r.map aB)
def pB:aA->Option aK:=aM (bI 6 (dM aG))
  (aM (dW (bO (eV 5)) (bC 7) (bI 6 (aE cL (eV 6) (eV 7))))
  (cE (fX (eB (aE bR (aO jD (aD (eV 6) aG)) (eV 2))) (eB (aE bR (bX (bW (bO (eV 5)) (bC 0) eT (aE bH (eV 0) (eC (.int 0))) [none])) (aO jD (aD (bX (bW (bO (eV 5)) (bC 0) eT (aO o0 (aD (eV 0) aG)) [none])) aG))))) (bK (eC (.bool false))) cM))
def kL(ns:List Int)(w h:Nat)(W:C->Bool)(O:List C)(a:List (List C))(s5 s6 s7:Sl):aA:=[.dat (dH ns),.dat (aZ w h W),.dat (lD O),.dat (.list (a.map lD)),.dat (.list (a.map lD)),s5,s6,s7,.no,.no,.no,.no,.no,.no]
theorem RT{ns:List Int}{w h:Nat}{W:C->Bool}{co:C->C->Bool}{O:List C}(v:Up O)(S:O.length<=25)(q:g9 co O){f:List (List C)}(j:f=dC co 800 O)(s6 s7:Sl):
  ∃ s6' s7',pB (kL ns w h W O f (.dat (.list (f.map lD))) s6 s7)=some (.nx (kL ns w h W O f (.dat (.list (f.map lD))) s6' s7')):=by
 have u:O.length<=800:=by lia
 obtain⟨A,y⟩:=Bc 800 O u q;obtain⟨n,x⟩:=Gb 800 O u q v;rw [<- j]at A y n x
 have U:f.length<=25:=by lia
 obtain⟨F,e,s7',rfl⟩:=AZ (s:=bC 7) (g:=bI 6 (aE cL (eV 6) (eV 7))) lD (fun i k=>∃ B,k=kL ns w h W O f (.dat (.list (f.map lD))) (.dat (lD i.flatten)) B) f (fun i a E J k G=>by
  obtain⟨B,I⟩:=G;subst I
  have T:(i.flatten).length+a.length<=25:=by
   have:=congrArg (fun z:List (List C)=>z.flatten.length) J
   simp only [List.flatten_append,JH,Qf]at this;lia
  refine⟨kL ns w h W O f (.dat (.list (f.map lD))) (.dat (lD i.flatten)) (.dat (lD a)),_,rfl,cK (oo rfl rfl (IB i.flatten a (by lia))),.dat (lD a),?_⟩
  rw [List.flatten_append,JH,List.flatten_nil,QO]
  rfl) f [] (kL ns w h W O f (.dat (.list (f.map lD))) (.dat (lD ([]:List (List C)).flatten)) s7) rfl ⟨s7,rfl⟩
 refine⟨_,s7',aV (cK (d:=lD []) rfl) (aV (iO (fA rfl rfl) e) (eF (oJ ?_ ?_)))⟩
 ·exact HG (l:=O) (m:=O) (bD rfl (Bw (by rw [j];exact Gc 800 O u q (i3 v)) (by lia) v fun c=>by rw [j];exact(vA 800 O u q c).symm)) rfl rfl
 ·have t:∀ g∈f,∃ b r,g=b::r/\Up g:=fun g o=>by
   rw [j]at o;obtain⟨b,r,_,M,K⟩:=u9 800 O u q g o
   exact⟨b,r,M,by rw [K];exact lB v _⟩
  have Q:bX (bW (bO (eV 5)) (bC 0) eT (aE bH (eV 0) (eC (.int 0))) [none]) ((kL ns w h W O f (.dat (.list (f.map lD))) (.dat (lD f.flatten)) s7').map frz)=some (.list ((f.map kK).map aB)):=by
   refine fZ (xs:=f) lD (fun _=>true) (fun g=>aB (kK g)) (fun k=>∃ p,k=[p]) (fA rfl rfl) (by lia) ⟨_,rfl⟩ ?_ (by rw [mB,Yk];rfl);rintro g o k ⟨p,rfl⟩;obtain⟨b,r,rfl,_⟩:=t g o
   exact⟨[.dat (lD (b::r))],rfl,⟨_,rfl⟩,rfl,fun _=>oo rfl rfl (Cy b r)⟩
  have N:bX (bW (bO (eV 5)) (bC 0) eT (aO o0 (aD (eV 0) aG)) [none]) ((kL ns w h W O f (.dat (.list (f.map lD))) (.dat (lD f.flatten)) s7').map frz)=some (.list ((f.map kK).map aB)):=by
   refine fZ (xs:=f) lD (fun _=>true) (fun g=>aB (kK g)) (fun k=>∃ p,k=[p]) (fA rfl rfl) (by lia) ⟨_,rfl⟩ ?_ (by rw [mB,Yk];rfl);rintro g o k ⟨p,rfl⟩;obtain⟨b,r,rfl,H⟩:=t g o
   exact⟨[.dat (lD (b::r))],rfl,⟨_,rfl⟩,rfl,fun _=>bD rfl (PN H)⟩
  exact HG (l:=f.map kK) (m:=f.map kK) Q (bD (vT N) (Bw (i3 n) (by rw [Ql];lia) n fun c=>Iff.rfl)) rfl
end My
namespace My
open PySem.SeqAt L2 DL SD SL EL DC TB TX EX LM MN
theorem K9(ns:List Int)(h:ns.length<=63){O:List C}(q:O≠[]){ρ:aA}(p:j6 [none,some 2,some 0] ρ=[.no,.dat (lD O),.dat (dH ns)]):
  ∃ Z:List C,(∀ z∈Z,z∈O)/\bX (bW (iM (aD (eC (.int 4)) aG)) (bC 0) eT (aE bH (eV 1) (aO gX (aD (eV 2) (aD (aE cL (eC (.int 61)) (eV 0)) (aD (aO eH (aD (eV 1) aG)) aG))))) [none,some 2,some 0]) ρ=some (.list (Z.map aB)):=by
 have g:0<(O.length:Int):=by
  cases O with
  | nil=>exact absurd rfl q
  | cons a l=>rw [QE];lia
 obtain⟨c,b⟩:∃ c:Nat->C,c=fun(k:Nat)=>eG O (dr ns (61+(k:Int)) (O.length:Int)).toNat:=⟨_,rfl⟩
 refine⟨(List.range 4).map c,fun z m=>?_,fZ (xs:=List.range 4) (fun(k:Nat)=>.int (k:Int)) (fun _=>true) (fun k=>aB (c k)) (fun ρ=>∃ f,ρ=[f,.dat (lD O),.dat (dH ns)]) (vF (n:=4) rfl (by lia)) (by decide) ⟨_,p⟩ ?_ ?_⟩
 ·obtain⟨k,o,rfl⟩:=QT.mp m;obtain⟨_,e,d⟩:=nA ns h (61+(k:Int)) (O.length:Int) g;rw [b]
  exact(xZ e d).2
 ·rintro k o ρ ⟨f,rfl⟩;obtain⟨r,e,d⟩:=nA ns h (61+(k:Int)) (O.length:Int) g;have j:=(xZ e d).1
  refine⟨[.dat (.int (k:Int)),.dat (lD O),.dat (dH ns)],rfl,⟨_,rfl⟩,rfl,fun _=>?_⟩
  have i:eH [lD O]=some (.int (O.length:Int)):=by show eH [.list (O.map aB)]=_;rw [Ax,Ql]
  rw [b];exact oo rfl (bD (fR rfl (fR rfl (fR (bD rfl i) rfl))) r) j
 ·rw [mB,Yk];rfl
def qB:aA->Option aK:=aM (bI 10 (aO kY (aD (eV 1) (aD (eV 8) (aD (eV 9) aG)))))
  (aM (bI 11 (aO nR (aD (eV 1) (aD (eV 8) (aD (eV 9) aG)))))
  (aM (bI 12 (aE bR (bX (bW (bO (eV 3)) (bC 0) (gS (eB (aE (fW false) (eV 1) (eV 0))) (eB (aE (fW false) (eV 2) (eV 0)))) (eV 0) [none,some 8,some 9])) (dM aG)))
  (aM (cE (fX (eB (aE bR (aE hY (eV 10) (eC .none)) (eV 12))) (eB (aE bR (aE hY (eV 11) (eC .none)) (eV 12)))) (bK (eC (.bool false))) cM)
  (cE (eB (aE hY (eV 10) (eC .none))) (aM (bI 13 (aO kY (aD (eV 1) (aD (eV 9) (aD (eV 8) aG)))))
  (aM (cE (fX (eB (aE bR (aE bH (eV 10) (eC (.int 0))) (eV 8))) (fX (eB (aE bR (aE bH (eV 10) (mU lI (eC (.int 1)))) (eV 9))) (fX (eB (aE tN (eV 13) (eC .none))) (eB (aE bR (aO eH (aD (eV 13) aG)) (aO eH (aD (eV 10) aG))))))) (bK (eC (.bool false))) cM)
  (cE (fX (lJ (eB (aO pC (aD (eV 1) (aD (eV 10) aG))))) (gS (eB (aE hY (eV 11) (eC .none))) (eB (aE mS (aO eH (aD (eV 10) aG)) (aE cL (eV 11) (eC (.int 1))))))) (bK (eC (.bool false))) cM))) cM))))
def qE(ns:List Int)(w h:Nat)(W:C->Bool)(O:List C)(e:List (List C))(s5 s6 s7:Sl)(one:C)(f d c b a:Sl):aA:=[.dat (dH ns),.dat (aZ w h W),.dat (lD O),.dat (.list (e.map lD)),.dat (.list (e.map lD)),s5,s6,s7,.dat (aB one),f,d,c,b,a]
section
variable {w h:Nat}{W:C->Bool}(hw:w<=5)(hh:h<=5)
include hw hh
theorem Tq{one other:C}(e:one∈aI w h W)(d:other∈aI w h W):(!((dC (co (aI w h W)) 800 (aI w h W)).filter fun g=>g.contains one && g.contains other).isEmpty)=co (aI w h W) one other:=by
 have f:=j8 hw hh W;rw [Q6,<- Oz (n:=800) (by lia) (rN hw hh) e d,Q8,List.isEmpty_eq_false_iff];constructor
 ·intro z;obtain⟨g,a⟩:=List.exists_mem_of_ne_nil _ z;obtain⟨a,p⟩:=QB.mp a;rw [Qy,Qr,Qr]at p
  exact⟨g,a,p⟩
 ·rintro⟨g,a,c,b⟩ z
  have:g∈(dC (co (aI w h W)) 800 (aI w h W)).filter fun g=>g.contains one && g.contains other:=QB.mpr ⟨a,by rw [Qy,Qr,Qr];exact⟨c,b⟩⟩
  rw [z]at this;cases this
theorem AI(r:Option (List C)):hY (tM r) .none=some (.bool r.isSome):=by cases r <;> rfl
theorem G9(r:Option (List Nat)):hY (uH r) .none=some (.bool r.isSome):=by cases r <;> rfl
theorem C6{a b:C}{r:Option (List C)}(q:Ch w h W a b r):r.isSome=co (aI w h W) a b:=by
 rw [Q6,k7]
 cases r with
 | none=>exact⟨fun z=>(by cases z),fun z=>absurd z q⟩
 | some l=>exact⟨fun _=>C7 hw hh q.1.1,fun _=>rfl⟩
theorem SX{a b:C}{r:Option (List Nat)}(q:Wy (aI w h W) a b r):r.isSome=co (aI w h W) a b:=by
 rw [Q6,k7]
 cases r with
 | none=>exact⟨fun z=>(by cases z),fun⟨u,p⟩=>absurd p (q u)⟩
 | some u=>exact⟨fun _=>⟨u,q.1⟩,fun _=>rfl⟩
theorem RP{ns:List Int}{i:List (List C)}(A:i=dC (co (aI w h W)) 800 (aI w h W)){one d:C}(E:one∈aI w h W)(B:d∈aI w h W)(s5 s6 s7 v s k e:Sl):
  ∃ t10 t11 t12 t13,qB (qE ns w h W (aI w h W) i s5 s6 s7 one (.dat (aB d)) v s k e)=some (.nx (qE ns w h W (aI w h W) i s5 s6 s7 one (.dat (aB d)) t10 t11 t12 t13)):=by
 have ol:=j8 hw hh W
 have gl:i.length<=25:=by
  have:=(Bc 800 (aI w h W) (by lia) (rN hw hh)).2
  rw [<- A]at this;lia
 obtain⟨r,er,j⟩:=FG hw hh E B;obtain⟨t,et,Q⟩:=PF hw hh E B;have H:=C6 hw hh j;have G:=SX hw hh Q
 have lc:∀ o n:Sl,bX (bW (bO (eV 3)) (bC 0) (gS (eB (aE (fW false) (eV 1) (eV 0))) (eB (aE (fW false) (eV 2) (eV 0)))) (eV 0) [none,some 8,some 9]) (qE ns w h W (aI w h W) i s5 s6 s7 one (.dat (aB d)) o n k e)=some (.list ((i.filter fun g=>g.contains one && g.contains d).map lD)):=fun o n=>by
  refine fZ (xs:=i) lD (fun g=>g.contains one && g.contains d) lD (fun K=>∃ M,K=[M,.dat (aB one),.dat (aB d)]) (fA rfl rfl) (by lia) ⟨_,rfl⟩ ?_ rfl;rintro g hg K ⟨M,rfl⟩
  refine⟨[.dat (lD g),.dat (aB one),.dat (aB d)],rfl,⟨_,rfl⟩,?_,fun _=>rfl⟩
  have y:=CA false one g;have Y:=CA false d g;simp only [Qq,if_false]at y Y
  cases c:g.contains one with
  | true=>rw [c]at y;exact tW (oB (oo rfl rfl y)) (oB (oo rfl rfl Y))
  | false=>rw [c]at y;exact yA (oB (oo rfl rfl y))
 have N:=Tq hw hh E B;rw [<- A]at N;have S:=Pf (i.filter fun g=>g.contains one && g.contains d);rw [N]at S
 refine⟨.dat (tM r),.dat (uH t),.dat (.bool (co (aI w h W) one d)),?_⟩
 have start:∀ f:aA->Option aK,aM (bI 10 (aO kY (aD (eV 1) (aD (eV 8) (aD (eV 9) aG)))))
  (aM (bI 11 (aO nR (aD (eV 1) (aD (eV 8) (aD (eV 9) aG)))))
  (aM (bI 12 (aE bR (bX (bW (bO (eV 3)) (bC 0) (gS (eB (aE (fW false) (eV 1) (eV 0))) (eB (aE (fW false) (eV 2) (eV 0)))) (eV 0) [none,some 8,some 9])) (dM aG)))
  (aM (cE (fX (eB (aE bR (aE hY (eV 10) (eC .none)) (eV 12))) (eB (aE bR (aE hY (eV 11) (eC .none)) (eV 12)))) (bK (eC (.bool false))) cM) f))) (qE ns w h W (aI w h W) i s5 s6 s7 one (.dat (aB d)) v s k e)=f (qE ns w h W (aI w h W) i s5 s6 s7 one (.dat (aB d)) (.dat (tM r)) (.dat (uH t)) (.dat (.bool (co (aI w h W) one d))) e):=fun f=>
  aV (cK (bD rfl er)) (aV (cK (bD rfl et)) (aV (cK (oo (lc _ _) rfl S)) (aV (eF (oJ (oB (oo (oo rfl rfl (AI hw hh r)) rfl (x6 _ _ H))) (oB (oo (oo rfl rfl (G9 hw hh t)) rfl (x6 _ _ G))))) rfl)))
 unfold qB;rw [start]
 cases r with
 | none=>exact⟨e,eF (oB (oo rfl rfl (AI hw hh none)))⟩
 | some l=>
  obtain⟨b,eb,I⟩:=FG hw hh B E;have O:=C6 hw hh I;have Z:co (aI w h W) d one=true:=(rN hw hh).symm one E d B H.symm;rw [Z]at O
  cases b with
  | none=>cases O
  | some F=>
   cases t with
   | none=>rw [<- H]at G;cases G
   | some u=>
    refine⟨.dat (lD F),iY (b:=true) (oB (oo rfl rfl (AI hw hh (some l)))) (fun _=>aV (cK (bD rfl eb)) ?_) fun z=>by cases z⟩
    obtain⟨m,hm⟩:=j.1.1.hd;obtain⟨p,hp⟩:=j.1.1.last;have q:∀ a∈aI w h W,∀ b∈aI w h W,bT (bF w h W) a b=bT (bF w h W) b a:=fun a ha b hb=>G2 (pQ hw hh (cJ.mp ha).1 (cJ.mp hb).1)
    have le:F.length=l.length:=by
     have a1:=j.1.2 _ (I.1.1.rev q);have a2:=I.1.2 _ (j.1.1.rev q);rw [List.length_reverse]at a1 a2;lia
    have a0:l.length<=u.length+1:=by
     have:=j.1.2 _ (wJ hw hh u.length u d rfl Q.1)
     rw [H7]at this;exact this
    have J:∀ l:List C,eH [lD l]=some (.int (l.length:Int)):=fun l=>by show eH [.list (l.map aB)]=_;rw [Ax,Ql]
    have X:=x8 one one;have U:=x8 d d;rw [beq_self_eq_true]at X U
    have i0:bH (lD l) (.int 0)=some (aB one):=by rw [hm];exact Cy one m
    have i9:bH (lD l) (.int (-1))=some (aB d):=by rw [hp];exact MF p d
    have T:=Kk (F.length:Int) (l.length:Int);rw [le,beq_self_eq_true]at T;have x:=J F;rw [le]at x;refine aV (eF (oJ (oB (oo (oo rfl rfl i0) rfl X)) (oJ (oB (oo (oo rfl rfl i9) rfl U)) (oJ (oB (oo rfl rfl rfl)) (oB (oo (bD rfl x) (bD rfl (J l)) T)))))) (eF (oJ (oN (oB (bD rfl (OP hw hh j.1 j.2)))) (tW (oB (oo rfl rfl (G9 hw hh (some u)))) (oB (oo (bD rfl (J l)) rfl ((IW (l.length:Int) ((u.length:Int)+1)).trans ?_))))));rw [decide_eq_false (by lia)]
end
theorem main(ns:List Int)(v:ns.length<=63):mK [.list (ns.map J4)]=some (.bool true):=by
 obtain⟨w,h,W,x,w1,w4,Y,h4⟩:=MZ ns v 0 4 (by decide) (by decide);have x:pA [dH ns,.int 0,.int 4]=some (aZ w h W):=x
 have p:w<=5:=by lia
 have q:h<=5:=by lia
 have S:pD [aZ w h W]=some (lD (aI w h W)):=PD (W:=W) p Y q;have O:=j8 p q W;obtain⟨a,o⟩:∃ a,a=dC (co (aI w h W)) 800 (aI w h W):=⟨_,rfl⟩;have B:=Ts (W:=W) p q;have E:=OC (W:=W) p q;rw [<- o]at B E;refine cZ ?_;unfold xX
 show _=some (aK.rt (.bool true))
 rw [show dQ 14 [Zp (ns.map J4)]=[.dat (dH ns),.no,.no,.no,.no,.no,.no,.no,.no,.no,.no,.no,.no,.no]from rfl];refine aV (cK (bD rfl x)) (aV (cK (bD rfl S)) (aV (cK (bD rfl B)) (aV (cK (bD rfl E)) ?_)));refine At (g:=pB) id (fun ρ=>∃ n m l,ρ=kL ns w h W (aI w h W) a n m l) [Zp (a.map lD),Zp (a.map lD)] rfl ⟨_,_,_,rfl⟩ ?_ ?_
 ·rintro d hd ρ ⟨n,m,l,rfl⟩
  have ed:d=Zp (a.map lD):=by
   rcases Qi.mp hd with z | z
   ·exact z
   ·exact Qm.mp z
  subst ed;obtain⟨K,J,e⟩:=RT (ns:=ns) (w:=w) (h:=h) (W:=W) (sU w h W) O (rN p q) o m l
  exact⟨kL ns w h W (aI w h W) a (.dat (.list (a.map lD))) m l,rfl,_,e,_,_,_,rfl⟩
 rintro ρ ⟨n,m,l,rfl⟩;refine aV (eF (oB (oo rfl rfl (Kl a)))) ?_;have s:=IL (aI w h W) [];by_cases t:aI w h W=[]
 ·rw [decide_eq_true t]at s;exact wO (iY (b:=true) (oB (oo rfl rfl s)) (fun _=>cV rfl) fun z=>by cases z)
 rw [decide_eq_false t]at s;refine aV (eF (oB (oo rfl rfl s))) ?_
 have Q:0<((aI w h W).length:Int):=by
  have:=List.length_pos_iff.mpr t
  lia
 have T:eH [lD (aI w h W)]=some (.int ((aI w h W).length:Int)):=by show eH [.list ((aI w h W).map aB)]=_;rw [Ax,Ql]
 obtain⟨y,N,M⟩:=nA ns v 60 ((aI w h W).length:Int) Q;obtain⟨r,A⟩:=xZ N M;generalize eG (aI w h W) (dr ns 60 ((aI w h W).length:Int)).toNat=one at r A;refine aV (cK (oo rfl (bD (fR rfl (fR rfl (fR (bD rfl T) rfl))) y) r)) ?_;obtain⟨Z,X,eZ⟩:=K9 ns v t (ρ:=qE ns w h W (aI w h W) a n m l one .no .no .no .no .no) rfl;refine At (g:=qB) aB (fun ρ=>∃ u j i f c,ρ=qE ns w h W (aI w h W) a n m l one u j i f c) Z (fA eZ rfl) ⟨_,_,_,_,_,rfl⟩ ?_ ?_
 ·rintro k U ρ ⟨u,j,i,f,c,rfl⟩;obtain⟨I,H,G,F,e⟩:=RP p q (ns:=ns) o A (X k U) n m l j i f c
  exact⟨qE ns w h W (aI w h W) a n m l one (.dat (aB k)) j i f c,rfl,_,e,_,_,_,_,_,rfl⟩
 ·rintro ρ ⟨u,j,i,f,c,rfl⟩;exact cV rfl
end My
namespace My
open PySem.Spec PySem.SeqAt L2 CL DL SD ZL SL EL DC EX TX TB TX MN LM
theorem us1{p:List YP->Prop}{us:List YP}(h:us.length=1)(q:∀ a,p [a]):p us:=by
 rcases us with _ | ⟨a,_ | ⟨b,r⟩⟩
 ·cases h
 ·exact q a
 ·simp at h
theorem us2{p:List YP->Prop}{us:List YP}(h:us.length=2)(q:∀ a b,p [a,b]):p us:=by
 rcases us with _ | ⟨a,r⟩
 ·cases h
 ·exact us1 (p:=fun r=>p (a::r)) (us:=r) (by simpa using h) fun b=>q a b
theorem CW{p:List YP->Prop}{us:List YP}(h:us.length=3)(q:∀ a b c,p [a,b,c]):p us:=by
 rcases us with _ | ⟨a,r⟩
 ·cases h
 ·exact us2 (p:=fun r=>p (a::r)) (us:=r) (by simpa using h) fun b c=>q a b c
theorem Mj{p:List YP->Prop}{us:List YP}(h:us.length=4)(q:∀ a b c d,p [a,b,c,d]):p us:=by
 rcases us with _ | ⟨a,r⟩
 ·cases h
 ·exact CW (p:=fun r=>p (a::r)) (us:=r) (by simpa using h) fun b c d=>q a b c d
theorem all_mk(p:tE)(main:∀ ns:List Int,ns.length<=63->mK [.list (ns.map J4)]=some (.bool true)){l:PySem.W.OpenLaw}{w:J1}{K:PySem.W.Frag}{mg:Str->Option YP}{fa:JW}(a3:mg "law"=some (.ref fa))(T:∃ a d ta e_NoWay tc0 tc1,xS K mg a d w ta e_NoWay tc0 tc1):
  ((∃ tc,PySem.W.codeHdIn K tc kX=true)/\∃ tc,PySem.W.codeHdIn K tc lA=true)/\∃ fd:Zg,(∀(s:JV) (v:YP),BindsTo s fd ⟨[v],[]⟩ [("_law_script",v)])/\∀ base:Heap,K.In base->base.Ns J2 mg->Bm mg base->aN l.prog w K mg base aQ 12 fa fd ["_law_script"] (sT K mK jZ):=by
 obtain⟨a,d,ta,e_NoWay,tc0,tc1,T⟩:=T;have e:=T.F_qy.m.symm.trans a3;cases e;obtain⟨oc,od,kV,a5,pm,an,a6,ct,a4,e,_⟩:=T.F_qy.F.ex
 refine⟨⟨⟨tc0,T.cdh0⟩,⟨tc1,T.cdh1⟩⟩,d 34,fun s v=>by rw [e];exact .of_eq rfl,fun base hK _ hB=>?_⟩
 have G:=KM (P:=l.prog) (w:=w) (base:=base) T;have H:=KL (P:=l.prog) (w:=w) (base:=base) T;have f:=KT (P:=l.prog) (w:=w) (base:=base) T;have A:=KQ (P:=l.prog) (w:=w) (base:=base) T;have a0:=Kt (P:=l.prog) (w:=w) (base:=base) T;have y:=KS (P:=l.prog) (w:=w) (base:=base) T;have I:=KJ (P:=l.prog) (w:=w) (base:=base) T;have N:=KC (P:=l.prog) (w:=w) (base:=base) T;have a2:=Kr (P:=l.prog) (w:=w) (base:=base) T G;have b:=KA (P:=l.prog) (w:=w) (base:=base) T H;have g:=KN (P:=l.prog) (w:=w) (base:=base) T A a0;have S:=Kz (P:=l.prog) (w:=w) (base:=base) T y;have k:=KF (P:=l.prog) (w:=w) (base:=base) T I;have J:=KH (P:=l.prog) (w:=w) (base:=base) T N;have z:=KR (P:=l.prog) (w:=w) (base:=base) T a2;have a1:=Ks (P:=l.prog) (w:=w) (base:=base) T g;have j:=KI (P:=l.prog) (w:=w) (base:=base) T S;have n:=Kv (P:=l.prog) (w:=w) (base:=base) T f b g;have M:=KG (P:=l.prog) (w:=w) (base:=base) T k;have o:=Kp (P:=l.prog) (w:=w) (base:=base) T z;have E:=KO (P:=l.prog) (w:=w) (base:=base) T o;have r:=KZ (P:=l.prog) (w:=w) (base:=base) T o a1 f;have i:=KU (P:=l.prog) (w:=w) (base:=base) T;have h:=Kq (P:=l.prog) (w:=w) (base:=base) T E;have u:=KW (P:=l.prog) (w:=w) (base:=base) T f i b j p hK hB;have t:=KY (P:=l.prog) (w:=w) (base:=base) T i b n p hK hB;have Z:=Ku (P:=l.prog) (w:=w) (base:=base) T r;have B:=KP (P:=l.prog) (w:=w) (base:=base) T h f b g;have c:=Pu (P:=l.prog) (w:=w) (base:=base) T h n;have x:=Es (G':=DH) rfl c;have U:=Ky (P:=l.prog) (w:=w) (base:=base) T B b;have X:=Kx (P:=l.prog) (w:=w) (base:=base) T x c;have Y:=Kw (P:=l.prog) (w:=w) (base:=base) T U;have GX_hidden_way:=Ps (P:=l.prog) (w:=w) (base:=base) T h f j Y b;have O:=Es (G':=DF) rfl GX_hidden_way;have Q:=KB (P:=l.prog) (w:=w) (base:=base) T O GX_hidden_way;have q:=K0 (P:=l.prog) (w:=w) (base:=base) T M J u t k X Q Z hK hB;exact Os q main
theorem fo1{K:PySem.W.Frag}{h:Heap}{mg:Str->Option YP}{n:Str}{b:Zj}{g:List Str}{f:JW}{q m:Option JW}{o:Array (Option YP)}{r kV j i d ct:YP}(X:K.In h)(G:h.Ns J2 mg)(t:g.length=1)(u:∀ x0,Z3 (PySem.W.fnOf n n (gY b) (eY b) (aW b) .none kV j i m d ct) ⟨[x0],[]⟩=pure (List.zip g [x0]))
  (a:PySem.W.nsIn K J2 n=some (some (.ref f))) (l:K.lookup f=some ⟨r,q,.func (PySem.W.fnOf n n (gY b) (eY b) (aW b) .none kV j i m d ct),o⟩) (c:PySem.W.codeIn K d n=true) (k:PySem.W.keepIn K (.ref f)=true):Fo K mg n b g f (PySem.W.fnOf n n (gY b) (eY b) (aW b) .none kV j i m d ct):=
 ⟨u6 l c k,PySem.W.mg_of X G a,.all fun e s=>us1 (p:=fun e=>Z3 _ ⟨e,[]⟩=pure (List.zip _ e)) (s.trans t) u⟩
theorem fo2{K:PySem.W.Frag}{h:Heap}{mg:Str->Option YP}{n:Str}{b:Zj}{g:List Str}{f:JW}{q m:Option JW}{o:Array (Option YP)}{r kV j i d ct:YP}(X:K.In h)(G:h.Ns J2 mg)(t:g.length=2)(u:∀ x0 x1,Z3 (PySem.W.fnOf n n (gY b) (eY b) (aW b) .none kV j i m d ct) ⟨[x0,x1],[]⟩=pure (List.zip g [x0,x1]))
  (a:PySem.W.nsIn K J2 n=some (some (.ref f))) (l:K.lookup f=some ⟨r,q,.func (PySem.W.fnOf n n (gY b) (eY b) (aW b) .none kV j i m d ct),o⟩) (c:PySem.W.codeIn K d n=true) (k:PySem.W.keepIn K (.ref f)=true):Fo K mg n b g f (PySem.W.fnOf n n (gY b) (eY b) (aW b) .none kV j i m d ct):=
 ⟨u6 l c k,PySem.W.mg_of X G a,.all fun e s=>us2 (p:=fun e=>Z3 _ ⟨e,[]⟩=pure (List.zip _ e)) (s.trans t) u⟩
theorem fo3{K:PySem.W.Frag}{h:Heap}{mg:Str->Option YP}{n:Str}{b:Zj}{g:List Str}{f:JW}{q m:Option JW}{o:Array (Option YP)}{r kV j i d ct:YP}(X:K.In h)(G:h.Ns J2 mg)(t:g.length=3)(u:∀ x0 x1 x2,Z3 (PySem.W.fnOf n n (gY b) (eY b) (aW b) .none kV j i m d ct) ⟨[x0,x1,x2],[]⟩=pure (List.zip g [x0,x1,x2]))
  (a:PySem.W.nsIn K J2 n=some (some (.ref f))) (l:K.lookup f=some ⟨r,q,.func (PySem.W.fnOf n n (gY b) (eY b) (aW b) .none kV j i m d ct),o⟩) (c:PySem.W.codeIn K d n=true) (k:PySem.W.keepIn K (.ref f)=true):Fo K mg n b g f (PySem.W.fnOf n n (gY b) (eY b) (aW b) .none kV j i m d ct):=
 ⟨u6 l c k,PySem.W.mg_of X G a,.all fun e s=>CW (p:=fun e=>Z3 _ ⟨e,[]⟩=pure (List.zip _ e)) (s.trans t) u⟩
theorem fo4{K:PySem.W.Frag}{h:Heap}{mg:Str->Option YP}{n:Str}{b:Zj}{g:List Str}{f:JW}{q m:Option JW}{o:Array (Option YP)}{r kV j i d ct:YP}(X:K.In h)(G:h.Ns J2 mg)(t:g.length=4)(u:∀ x0 x1 x2 x3,Z3 (PySem.W.fnOf n n (gY b) (eY b) (aW b) .none kV j i m d ct) ⟨[x0,x1,x2,x3],[]⟩=pure (List.zip g [x0,x1,x2,x3]))
  (a:PySem.W.nsIn K J2 n=some (some (.ref f))) (l:K.lookup f=some ⟨r,q,.func (PySem.W.fnOf n n (gY b) (eY b) (aW b) .none kV j i m d ct),o⟩) (c:PySem.W.codeIn K d n=true) (k:PySem.W.keepIn K (.ref f)=true):Fo K mg n b g f (PySem.W.fnOf n n (gY b) (eY b) (aW b) .none kV j i m d ct):=
 ⟨u6 l c k,PySem.W.mg_of X G a,.all fun e s=>Mj (p:=fun e=>Z3 _ ⟨e,[]⟩=pure (List.zip _ e)) (s.trans t) u⟩
def cn{a:Type}(x:a)(f:Nat->a):Nat->a
 | 0=>x
 | n+1=>f n
theorem tab_STEPS{K:PySem.W.Frag}{h:Heap}{mg:Str->Option YP}{w:J1}{j a5:Nat}{i:Int}{N:Tok}{d a0:Nat}{a4:Option JW}{T:Array (Option YP)}{r:Tok}{q:Tok}{g:Int}{M:Tok}{c Z:Nat}{a3:Option JW}{S:Array (Option YP)}{p:Tok}{o:Tok}{f:Int}{J:Tok}{b Y:Nat}{a2:Option JW}{Q:Array (Option YP)}{n:Tok}{m:Tok}{e:Int}{I:Tok}{a U:Nat}{a1:Option JW}{O:Array (Option YP)}{l:Tok}{k:Tok}(X:K.In h)(G:h.Ns J2 mg)(a7:PySem.W.nsIn K J2 "STEPS"=some (some (.ref j)))(a6:K.lookup j=some ⟨.type "dict",none,.dict #[⟨i,.str "n" N,.ref d⟩,⟨g,.str "e" M,.ref c⟩,⟨f,.str "s" J,.ref b⟩,⟨e,.str "w" I,.ref a⟩] a5,#[]⟩)(E:K.lookup d=some ⟨.type "tuple",a4,.seq #[.int 0 r,.int (-1) q] a0,T⟩)(y:i=PySem.hashStr w "n")(B:K.lookup c=some ⟨.type "tuple",a3,.seq #[.int 1 p,.int 0 o] Z,S⟩)(u:g=PySem.hashStr w "e")(A:K.lookup b=some ⟨.type "tuple",a2,.seq #[.int 0 n,.int 1 m] Y,Q⟩)(t:f=PySem.hashStr w "s")(z:K.lookup a=some ⟨.type "tuple",a1,.seq #[.int (-1) l,.int 0 k] U,O⟩)(s:e=PySem.hashStr w "w")(a8:(j == Zl)=false):∃ x,mg "STEPS"=some (.ref x)/\n9 K w x kD/\(x == Zl)=false:=⟨_,PySem.W.mg_of X G a7,⟨_,_,a6,(hU.cons (v:=.ref d) y rfl (fun F H=>aR.tup (vs:=[.int 0,.int (-1)]) (.inr ⟨_,_,_,E,rfl,rfl,gG (show 2<=1000 by decide),(.cons ⟨_,rfl⟩ (.cons ⟨_,rfl⟩ .nil))⟩) (.cons (.int _) (.cons (.int _) .nil))) (hU.cons (v:=.ref c) u rfl (fun F H=>aR.tup (vs:=[.int 1,.int 0]) (.inr ⟨_,_,_,B,rfl,rfl,gG (show 2<=1000 by decide),(.cons ⟨_,rfl⟩ (.cons ⟨_,rfl⟩ .nil))⟩) (.cons (.int _) (.cons (.int _) .nil))) (hU.cons (v:=.ref b) t rfl (fun F H=>aR.tup (vs:=[.int 0,.int 1]) (.inr ⟨_,_,_,A,rfl,rfl,gG (show 2<=1000 by decide),(.cons ⟨_,rfl⟩ (.cons ⟨_,rfl⟩ .nil))⟩) (.cons (.int _) (.cons (.int _) .nil))) (hU.cons (v:=.ref a) s rfl (fun F H=>aR.tup (vs:=[.int (-1),.int 0]) (.inr ⟨_,_,_,z,rfl,rfl,gG (show 2<=1000 by decide),(.cons ⟨_,rfl⟩ (.cons ⟨_,rfl⟩ .nil))⟩) (.cons (.int _) (.cons (.int _) .nil))) hU.nil))))⟩,a8⟩
theorem xc_NoWay{K:PySem.W.Frag}{h:Heap}{mg:Str->Option YP}{a:JW}(X:K.In h)(G:h.Ns J2 mg)(b:PySem.W.nsIn K J2 "NoWay"=some (some (.ref a)))(d:PySem.W.excIn K a [.type "ValueError",.type "Exception",.type "BaseException",.type "object"] "ValueError.__new__"=true)(c:PySem.W.subIn K (.ref a) (.ref a)=some true)(e:PySem.W.subIn K (.ref a) (.type "BaseException")=some true):∃ e_NoWay,PySem.W.nsIn K J2 "NoWay"=some (some (.ref e_NoWay))/\PySem.W.excIn K e_NoWay [.type "ValueError",.type "Exception",.type "BaseException",.type "object"] "ValueError.__new__"=true/\mg "NoWay"=some (.ref e_NoWay)/\PySem.W.subIn K (.ref e_NoWay) (.ref e_NoWay)=some true/\PySem.W.subIn K (.ref e_NoWay) (.type "BaseException")=some true:=⟨_,b,d,PySem.W.mg_of X G b,c,e⟩
theorem mk_txt{K:PySem.W.Frag}{mg:Str->Option YP}{w:J1}{f0 f1 f2 f3 f4 f5 f6 f7 f8 f9 I H G F E B A z y v u t s r q p o n m l k j i h g:JW}{d0 d1 d2 d3 d4 d5 d6 d7 d8 d9 b1 b0 a9 a8 a7 a6 a5 a4 a3 a2 a1 a0 Z Y f e X U T S Q O N M J:Zg}(F0:Fo K mg "is_whole" yU ["thing"] f0 d0)(F1:Fo K mg "all_cells" uE ["floor"] f1 d1)(F2:Fo K mg "marked" uG ["things"] f2 d2)(F3:Fo K mg "crossed" yX ["one","other"] f3 d3)(F4:Fo K mg "couples_beside" yM ["cells"] f4 d4)(F5:Fo K mg "beside" yZ ["cell","word"] f5 d5)(F6:Fo K mg "_law_cell" yT ["_law_script","_law_k"] f6 d6)(F7:Fo K mg "_law_cells" uB ["_law_floor_here"] f7 d7)(F8:Fo K mg "is_whole_couple" yK ["thing"] f8 d8)(F9:Fo K mg "open_cells" yP ["floor"] f9 d9)(g4:Fo K mg "lets_see" yV ["solids","one","other"] I b1)(g3:Fo K mg "steps_over" t9 ["ground","cell"] H b0)(g2:Fo K mg "_law_drawn" yR ["_law_script","_law_k","_law_many"] G a9)(g1:Fo K mg "_law_open" uD ["_law_floor_here"] F a8)(g0:Fo K mg "is_cell" yY ["floor","thing"] E a7)(e9:Fo K mg "see_each_other" yL ["solids","one","other"] B a6)(e8:Fo K mg "ways_over" yS ["ground","start"] A a5)(e7:Fo K mg "chains_from" m6 ["floor","start"] z a4)(e6:Fo K mg "_law_floor" uC ["_law_script","_law_at","_law_most"] y a3)(e5:Fo K mg "refuse_off_floor" yI ["floor","cell"] v a2)(e4:Fo K mg "is_solid" yW ["floor","cell"] u a1)(e3:Fo K mg "sees" y8 ["floor","one","other"] t a0)(e2:Fo K mg "parted" qQ ["cells","reached_from"] s Z)(e1:Fo K mg "refuse_not_open" yJ ["floor","cell"] r Y)(e0:Fo K mg "rooms" y4 ["floor"] q f)(c9:Fo K mg "halls" y7 ["floor"] p e)(c8:Fo K mg "_law_is_chain" yN ["_law_floor_here","_law_chain_here"] o X)(c7:Fo K mg "field_of" uF ["floor","cell"] n U)(c6:Fo K mg "relay" y3 ["floor","one","other"] m T)(c5:Fo K mg "times_seen" t8 ["floor","cells"] l S)(c4:Fo K mg "_law_chain" yO ["_law_floor_here","_law_one","_law_other"] k Q)(c3:Fo K mg "seen_by_any" t7 ["floor","cells"] j O)(c2:Fo K mg "hidden_way" uA ["floor","watchers","one","other"] i N)(c1:Fo K mg "_law_steps" yQ ["_law_floor_here","_law_one","_law_other"] h M)(c0:Fo K mg "law" m7 ["_law_script"] g J)(z0:mg "isinstance"=none)(z1:mg "int"=none)(z2:mg "bool"=none)(z3:mg "range"=none)(z4:mg "dict"=none)(z5:mg "abs"=none)(z6:mg "zip"=none)(z7:mg "sorted"=none)(z8:mg "tuple"=none)(z9:mg "len"=none)(b8:mg "set"=none)(b7:mg "enumerate"=none)(b6:mg "min"=none)(t0:∃ x,mg "STEPS"=some (.ref x)/\n9 K w x kD/\(x == Zl)=false)(b:∃ e_NoWay,PySem.W.nsIn K J2 "NoWay"=some (some (.ref e_NoWay))/\PySem.W.excIn K e_NoWay [.type "ValueError",.type "Exception",.type "BaseException",.type "object"] "ValueError.__new__"=true/\mg "NoWay"=some (.ref e_NoWay)/\PySem.W.subIn K (.ref e_NoWay) (.ref e_NoWay)=some true/\PySem.W.subIn K (.ref e_NoWay) (.type "BaseException")=some true){c tc1:JW}(b5:f.code=.ref c)(b3:PySem.W.codeHdIn K c kX=true)(b4:e.code=.ref tc1)(b2:PySem.W.codeHdIn K tc1 lA=true):∃ a d ta e_NoWay c tc1,xS K mg a d w ta e_NoWay c tc1:=by
 obtain⟨x0,u0,v0,b9⟩:=t0;obtain⟨e_NoWay,qn,qe,qm,qt,qb⟩:=b
 exact⟨(cn f0 (cn f1 (cn f2 (cn f3 (cn f4 (cn f5 (cn f6 (cn f7 (cn f8 (cn f9 (cn I (cn H (cn G (cn F (cn E (cn B (cn A (cn z (cn y (cn v (cn u (cn t (cn s (cn r (cn q (cn p (cn o (cn n (cn m (cn l (cn k (cn j (cn i (cn h (fun _=>g))))))))))))))))))))))))))))))))))),(cn d0 (cn d1 (cn d2 (cn d3 (cn d4 (cn d5 (cn d6 (cn d7 (cn d8 (cn d9 (cn b1 (cn b0 (cn a9 (cn a8 (cn a7 (cn a6 (cn a5 (cn a4 (cn a3 (cn a2 (cn a1 (cn a0 (cn Z (cn Y (cn f (cn e (cn X (cn U (cn T (cn S (cn Q (cn O (cn N (cn M (fun _=>J))))))))))))))))))))))))))))))))))),(fun _=>x0),e_NoWay,c,tc1,F0,F1,F2,F3,F4,F5,F6,F7,F8,F9,g4,g3,g2,g1,g0,e9,e8,e7,e6,e5,e4,e3,e2,e1,e0,c9,c8,c7,c6,c5,c4,c3,c2,c1,c0,z0,z1,z2,z3,z4,z5,z6,z7,z8,z9,b8,b7,b6,u0,v0,b9,b5,b3,b4,b2,qn,qe,qm,qt,qb⟩
theorem HI{p:JW->Prop}(b:p kX)(a:p lA):∀ t tp,jZ t=some tp->p t:=fun t tp e=>by
 unfold jZ at e
 split at e
 ·rename_i z;rw [z];exact b
 ·split at e
  ·rename_i z;rw [z];exact a
  ·cases e
theorem walk{l:PySem.W.OpenLaw}{q:JZ}{a:List Str}{j:(Str->Option YP)->Heap->Prop}{e:J1->Heap->Prop}{d:DefRec}{K:Params->PySem.W.Frag}(g:l.most=some 63)(b:d.params.defaults=[])
  (c:∀(w:J1) (h:Heap),e w h->(K w.params).In h/\h.get? kX=some (PySem.W.tabObj #[])/\h.get? lA=some (PySem.W.tabObj #[]))
  (F:∀(w:J1) (mg:Str->Option YP) (fa:JW) (h:Heap),(K w.params).In h->h.Ns J2 mg->mg d.name=some (.ref fa)->
   ((K w.params).lookup kX=none/\(K w.params).lookup lA=none)/\((∃ tc,PySem.W.codeHdIn (K w.params) tc kX=true)/\∃ tc,PySem.W.codeHdIn (K w.params) tc lA=true)/\∃ fd:Zg,(∀(s:JV) (u:YP),BindsTo s fd ⟨[u],[]⟩ [("_law_script",u)])/\∀ base:Heap,(K w.params).In base->base.Ns J2 mg->Bm mg base->aN l.prog w (K w.params) mg base aQ 12 fa fd ["_law_script"] (sT (K w.params) mK jZ)):
  PySem.W.WalkO q a j e l.row.toRowW d [] (fun f vs=>PySem.call f vs):=
 Ve (k:=12) (x:="_law_script") (G:=mK) (tb:=jZ) g b ⟨rfl,by decide,by decide,rfl⟩ (fun w h y=>⟨(c w h y).1,HI (c w h y).2.1 (c w h y).2.2⟩) fun w mg fa h m G i=>
  let⟨⟨l0,l1⟩,⟨c0,c1⟩,r⟩:=F w mg fa h m G i
  ⟨HI (p:=fun t=>(K w.params).lookup t=none/\∃ tc,PySem.W.codeHdIn (K w.params) tc t=true) ⟨l0,c0⟩ ⟨l1,c1⟩,r⟩
end My
open PySem.W
namespace PySem.W.Fast
def tw15832343638888738523:=0
def tw6396940131966548678:=0
def tw15381206493920878711:=0
def tw15838472749940058727:=0
def tw12763539638286350445:=0
def tw7887204490605413153:=0
def tw941352990685434257:=0
def tw8122938840376412582:=0
def tw7827336534102370097:=0
def tw1070895556069004927:=0
def tw17738160114801455937:=0
def tw17086340178669468196:=0
def tw18038339301162396758:=0
def tw7349749572881934509:=0
def tw2566206072443346957:=0
def tw17846850425324241351:=0
def tw9488989262851055468:=0
def tw1833663056520336523:=0
def tw3150296126331811257:=0
def tw13114199778708176076:=0
def tw2543269079909297629:=0
def tw11674030100595450541:=0
def tw6530729205023174175:=0
def tw14045948302023926728:=0
def tw14835825831680371768:=0
def tw13523086151499288922:=0
def tw9099128062191391110:=0
def tw12364350350177949470:=0
def tw14574406964306595784:=0
def tw17832960832293488607:=0
def tw2126416067855572021:=0
def tw3239605302976258959:=0
def tw8641750938250201796:=0
def tw12197805119702000429:=0
def tw14393946005082076188:=0
def tw8773858697414516106:=0
def tw1546954965112456293:=0
def tw11421165989081247777:=0
def tw1199611595049134712:=0
def tw17540678513177152403:=0
def tw13913440948864735867:=0
def tw3952495429290885567:=0
def tw471287955113003114:=0
def tw5195788918216493227:=0
def tw16350378937863291369:=0
def tw14828718934546901417:=0
def tw13472472983957741035:=0
def tw18338732764563237858:=0
def tw13004254558451782572:=0
def tw16641755088122352110:=0
def tw14967735787367401060:=0
def tw11558420927858175780:=0
def tw1396503360263896746:=0
def tw13275426273094727028:=0
def tw9862880852506887599:=0
def tw16547742041952584950:=0
def tw7881013113657999682:=0
def tw500638703786391315:=0
def tw12537958799716445737:=0
def tw2216115325350944669:=0
def tw13973744213308489778:=0
def tw3021369363925106235:=0
def tw7555688162982496612:=0
def tw6369710477202193542:=0
def tw11805464032740841571:=0
def tw15678339903107933947:=0
def tw13585544522003744823:=0
def tw9876704188797495847:=0
def tw14565557750987360639:=0
def tw1129133511775286282:=0
def tw1754455764763811274:=0
def tw17809253670334704078:=0
def tw131463107061536932:=0
def tw10912141020893982542:=0
def tw357014168575868001:=0
def tw6110182777367495800:=0
def tw1896208952861544452:=0
def tw9991948771853456379:=0
def tw13620495478545736632:=0
def tw4456237017904641718:=0
def tw13545421574255432979:=0
def tw9153599325769172488:=0
def tw13895845563103514012:=0
def tw12858126524747336260:=0
def tw1214954815471188268:=0
def tw775797865509069881:=0
def tw4653735913328345072:=0
def tw6598332196815711523:=0
def tw7194362712346325964:=0
def tw5066168367011996731:=0
def tw6411461207103946982:=0
def tw2336831890475080975:=0
def tw706896856560971226:=0
def tw3038851744746887894:=0
def tw11856748512874958444:=0
def tw284459108757304461:=0
def tw16722974725400138936:=0
def tw476303937415261124:=0
def tw16288567728653325467:=0
def tw3710273544538150541:=0
def tw7474268962081550254:=0
def tw10424210079308382990:=0
def tw4996795229089890133:=0
def tw13245758177287683956:=0
def tw17237247991736785189:=0
def tw4537337663150184048:=0
def tw4611930487653478688:=0
def tw5621470990997417325:=0
def tw12536997333477104837:=0
def tw5601161359587407158:=0
def tw139562014643062637:=0
def tw3485737648801578996:=0
def tw15153266605112968315:=0
def tw4761058845397031286:=0
def tw5792346661042587681:=0
def tw9221543538150482171:=0
def tw11393951217563139360:=0
def tw15909544192570487033:=0
def tw11535881152045278003:=0
def tw5397285374596896676:=0
def tw14981230586604426696:=0
def tw8815000917692832653:=0
def tw1185457367402508069:=0
def tw7917459517600466908:=0
def tw13362244641930554028:=0
def tw16838278578763065527:=0
def tw4900831438095400343:=0
def tw6888446614464950145:=0
def tw10415750834582786537:=0
def tw17732894476266025965:=0
def tw7401499171739950541:=0
def tw2026820115240008306:=0
def tw1768383023168917454:=0
def tw13756219732372387905:=0
def tw17192853865219863508:=0
def tw8841477900941799333:=0
def tw3132399519226171698:=0
def tw3558222192662680395:=0
def tw12221663593764854751:=0
def tw2113188237514776847:=0
def tw1657023000895361404:=0
def tw5360163365593667987:=0
def tw11015947913831083830:=0
def tw1332138977357155873:=0
def tw8107102477428840559:=0
def tw17080336064219361535:=0
def tw2284879772790111678:=0
def tw14918698279262453714:=0
def tw7524538934132411254:=0
def tw5922666790550895190:=0
def tw1882206275328318230:=0
def tw13768587998830427520:=0
def tw16919627199757958268:=0
def tw7813624619510236919:=0
def tw16770534371187559437:=0
def tw2795899306846915048:=0
def tw12276339906538502424:=0
def tw17210624040397493962:=0
def tw7364473450174312925:=0
def tw10261319217612095382:=0
def tw4972079624060825249:=0
def tw13581233960761381023:=0
def tw14902678259989885253:=0
def tw7459571442190393094:=0
def tw7236987860260919896:=0
def tw8779844788699593833:=0
def tw10164222718520741079:=0
def tw13993121337671891126:=0
def tw670430561051828459:=0
def tw1108737413222987819:=0
def tw13625072389572980478:=0
def tw17113834228126375845:=0
def tw11482616723004369443:=0
def tw12311400925960461736:=0
def tw15891180273040172418:=0
def tw10309012276529713744:=0
def tw18049638383399809094:=0
def tw14259038914742347309:=0
def tw12743025240833179260:=0
def tw11407407936825274952:=0
def tw10435951812188584853:=0
def tw16510104728012796944:=0
def tw13278859533210901155:=0
def tw11497396672853365531:=0
def tw9546653024994176117:=0
def tw10947645028011356411:=0
def tw9476794732752833462:=0
def tw17579873246980901124:=0
def tw16787668108029556539:=0
def tw2175271390441549121:=0
def tw15279366831104422453:=0
def tw8108949723564259188:=0
def tw17470381947348420496:=0
def tw3882310223136755150:=0
def tw18031052137198435514:=0
def tw3098927077078597112:=0
def tw14555554877741604965:=0
def tw13880248834259267261:=0
def tw17523476277082743178:=0
def tw15189559652337683952:=0
def tw15939467099184786657:=0
def tw11488355086731633068:=0
def tw13215459087527474540:=0
def tw8565437186448052104:=0
def tw4838642257204951412:=0
def tw13862323181971371596:=0
def tw14877028523699589539:=0
def tw9492629629891681861:=0
def tw14105654911161437790:=0
def tw11212454669078749216:=0
def tw3041076040860675592:=0
def tw2784512076185481260:=0
def tw3644812027593153684:=0
def tw6172765507829133351:=0
def tw3730594292105164607:=0
def tw16081092675150937588:=0
def tw1379999908720856952:=0
def tw604733416618753057:=0
def tw7293033516117090711:=0
def tw1726461748507666317:=0
def tw2120845480943971499:=0
def tw12817858552452313946:=0
def tw17919388801195450352:=0
def tw15171740406491959898:=0
def tw7813570419285691525:=0
def tw18438373176346465391:=0
def tw8162166074231751327:=0
def tw15970329245640186895:=0
def tw11093220549395874731:=0
def tw13650490234670302765:=0
def tw14628655630839499807:=0
def tw5675197517431407891:=0
def tw14573685889785365201:=0
def tw17042579400495042130:=0
def tw5801210327167224097:=0
def tw10361074754538703239:=0
def tw17460584374482722855:=0
def tw5966461389000496870:=0
def tw13281522647971574056:=0
def tw10673488515148545852:=0
def tw1278029080253233331:=0
def tw6798784638978106537:=0
def tw119018849963623976:=0
def tw17891408396482172867:=0
def tw16336322694960864871:=0
def tw4810399740323660501:=0
def tw10529300423494347466:=0
def tw16216565437506949722:=0
def tw6018304616548186104:=0
def tw3289672907956801709:=0
def tw2585940328212726464:=0
def tw10642448936758195053:=0
def tw14480806971243956763:=0
def tw12084798888828250708:=0
def tw18232429668936918626:=0
def tw7680696673471269693:=0
def tw7276936981150645092:=0
def tw9533823525909747778:=0
def tw7887337261032315987:=0
def tw8431385172149565794:=0
def tw946601540376343613:=0
def tw916506355092315758:=0
def tw18407218282979200914:=0
def tw3224003291886826488:=0
def tw14151323562867293329:=0
def tw11849757292658721868:=0
def tw16538021258622391441:=0
def tw9970175768237136444:=0
def tw12720772338334640053:=0
def tw16377999179167796326:=0
def tw3807301274720776974:=0
def tw10100854910486870424:=0
def tw2015344129157298326:=0
def tw6956211068503498048:=0
def tw2343650057341293301:=0
end PySem.W.Fast
set_option maxRecDepth 100000 in
set_option maxHeartbeats 0 in
theorem PySem.Challenge.cw_lampfloor_k86_whole_relays_holds : PySem.Challenge.rw_lampfloor_k86_whole_relays.Holds := by
 w_on;o_law;km_head;(case hw=>w_witness2)
 k_fill
 refine My.walk (l:=PySem.Challenge.rw_lampfloor_k86_whole_relays) rfl rfl (fun w h Y=>⟨Y.1,Y.2 220 (by simp),Y.2 227 (by simp)⟩) ?F
 case F=>
  intro w mg fa h KX G hmg
  refine⟨?n0,?_⟩
  (case n0=>exact⟨rfl,rfl⟩)
  refine' My.all_mk My.gp_ok My.main hmg (My.mk_txt (My.fo1 KX G rfl (fun _=>rfl) ?_ ?_ ?_ ?_) (My.fo1 KX G rfl (fun _=>rfl) ?_ ?_ ?_ ?_) (My.fo1 KX G rfl (fun _=>rfl) ?_ ?_ ?_ ?_) (My.fo2 KX G rfl (fun _ _=>rfl) ?_ ?_ ?_ ?_) (My.fo1 KX G rfl (fun _=>rfl) ?_ ?_ ?_ ?_) (My.fo2 KX G rfl (fun _ _=>rfl) ?_ ?_ ?_ ?_) (My.fo2 KX G rfl (fun _ _=>rfl) ?_ ?_ ?_ ?_) (My.fo1 KX G rfl (fun _=>rfl) ?_ ?_ ?_ ?_) (My.fo1 KX G rfl (fun _=>rfl) ?_ ?_ ?_ ?_) (My.fo1 KX G rfl (fun _=>rfl) ?_ ?_ ?_ ?_) (My.fo3 KX G rfl (fun _ _ _=>rfl) ?_ ?_ ?_ ?_) (My.fo2 KX G rfl (fun _ _=>rfl) ?_ ?_ ?_ ?_) (My.fo3 KX G rfl (fun _ _ _=>rfl) ?_ ?_ ?_ ?_) (My.fo1 KX G rfl (fun _=>rfl) ?_ ?_ ?_ ?_) (My.fo2 KX G rfl (fun _ _=>rfl) ?_ ?_ ?_ ?_) (My.fo3 KX G rfl (fun _ _ _=>rfl) ?_ ?_ ?_ ?_) (My.fo2 KX G rfl (fun _ _=>rfl) ?_ ?_ ?_ ?_) (My.fo2 KX G rfl (fun _ _=>rfl) ?_ ?_ ?_ ?_) (My.fo3 KX G rfl (fun _ _ _=>rfl) ?_ ?_ ?_ ?_) (My.fo2 KX G rfl (fun _ _=>rfl) ?_ ?_ ?_ ?_) (My.fo2 KX G rfl (fun _ _=>rfl) ?_ ?_ ?_ ?_) (My.fo3 KX G rfl (fun _ _ _=>rfl) ?_ ?_ ?_ ?_) (My.fo2 KX G rfl (fun _ _=>rfl) ?_ ?_ ?_ ?_) (My.fo2 KX G rfl (fun _ _=>rfl) ?_ ?_ ?_ ?_) (My.fo1 KX G rfl (fun _=>rfl) ?_ ?_ ?_ ?_) (My.fo1 KX G rfl (fun _=>rfl) ?_ ?_ ?_ ?_) (My.fo2 KX G rfl (fun _ _=>rfl) ?_ ?_ ?_ ?_) (My.fo2 KX G rfl (fun _ _=>rfl) ?_ ?_ ?_ ?_) (My.fo3 KX G rfl (fun _ _ _=>rfl) ?_ ?_ ?_ ?_) (My.fo2 KX G rfl (fun _ _=>rfl) ?_ ?_ ?_ ?_) (My.fo3 KX G rfl (fun _ _ _=>rfl) ?_ ?_ ?_ ?_) (My.fo2 KX G rfl (fun _ _=>rfl) ?_ ?_ ?_ ?_) (My.fo4 KX G rfl (fun _ _ _ _=>rfl) ?_ ?_ ?_ ?_) (My.fo3 KX G rfl (fun _ _ _=>rfl) ?_ ?_ ?_ ?_) (My.fo1 KX G rfl (fun _=>rfl) ?_ ?_ ?_ ?_) (mg_none_of KX G ?_) (mg_none_of KX G ?_) (mg_none_of KX G ?_) (mg_none_of KX G ?_) (mg_none_of KX G ?_) (mg_none_of KX G ?_) (mg_none_of KX G ?_) (mg_none_of KX G ?_) (mg_none_of KX G ?_) (mg_none_of KX G ?_) (mg_none_of KX G ?_) (mg_none_of KX G ?_) (mg_none_of KX G ?_) (My.tab_STEPS KX G ?_ ?_ ?_ ?_ ?_ ?_ ?_ ?_ ?_ ?_ ?_) (My.xc_NoWay KX G ?_ ?_ ?_ ?_) ?_ ?_ ?_ ?_)
  any_goals k_is
  any_goals k_exc
  any_goals rfl
  all_goals k_is
