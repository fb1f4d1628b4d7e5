import PyProof.Rows.All
import Wide.All
import OpenK.AllK
import Wide.FinOn
import PySem.Challenge.RW_lampfloor_k43_whole_builders
noncomputable section
open PySem renaming wpAny_bind->Qa,wpAny_pure->Qb,wpAny_setState_of->QT,wpAny_call_entry->Yc,wpAny_holding->Yg,sizeLine_eq->Yj,wpAny_newObj_type->Yk,wpAny_callSpecial?_slot->Yq,wpAny_forIn_list->Yw,wpAny_truthy_bool->YN,wpAny_isInstance->Y0,wpAny_typeNameOfWhole_keyiter->Y3,wpAny_mono->Y6,wpAny_rule->Y7,wpAny_typeOf->Ja,wpAny_Call_Name_kw->Je,wpAny_passesOwn->Ji,codeAny_builtin->Jj,wpAny_storeSet_of->Jm,wpAny_seqItems->Js,putSet_of->Jt,wpAny_setField->Jw,codeAny_mono->JA,wpAny_specialOf->JG,wpAny_dictEntries->JN,wpAny_setEntries_of->JS,wpAny_field->JX
open List renaming getElem?_eq_some_iff->Qc,length_append->Qd,mem_cons_of_mem->Qf,length_map->Qi,getElem?_eq_getElem->Qk,map_cons->Qm,mem_cons_self->Qo,mem_cons->Qp,getElem?_set_ne->Qr,length_cons->Qt,mem_append_right->Qv,length_singleton->Qx,getElem?_set_self->Qy,mem_append->QD,getElem?_map->QF,append_assoc->QG,getElem?_append_right->QI,mem_singleton->QJ,size_toArray->QK,lookup_cons->QN,mem_map->QO,mem_of_getElem?->QP,getElem?_append_left->QQ,append_nil->QR,length_take->QS,take_append_drop->QU,mem_filter->QW,mem_append_left->QY,getElem?_of_mem->Q0,mem_range->Q3,length_filter_le->Q5,pairwise_cons->Q6,all_eq_true->Q8,pairwise_append->Ya,length_drop->Yb,nodup_cons->Ye,map_append->Yi,pairwise_map->Yl,length_range->Ym,drop_eq_getElem_cons->Yn,map_map->Yo,pairwise_iff_getElem->Yy,getElem?_zip_eq_some->YA,getElem?_set->YB,filter_congr->YC,foldl_cons->YF,getElem?_replicate->YJ,filter_cons_of_neg->YL,take_of_length_le->YR,nodup_nil->YS,getElem?_eq_none->YU,contains_iff_mem->YV,cons_append->YY,filter_filter->Y1,filter_cons_of_pos->Y5,drop_eq_nil_of_le->Jb,getElem_mem->Jd,getD_eq_getElem?_getD->Jg,not_mem_nil->Jv,all_eq_not_any_not->Jy,eq_nil_of_length_eq_zero->Jz,zip_cons_cons->JB,getElem?_take->JD,nil_append->JF,mem_iff_getElem->JO,filterMap_cons->JR,any_cons->JT
open Option renaming bind_some->Qe
open Array renaming length_toList->Qg,getElem?_eq_getElem->Qw,getElem?_toList->QE,toList_append->Q1,getElem?_eq_none->Yt,perm_iff_toList_perm->YO,forIn_toList->YZ,size_map->Jf,toList_filterMap->JE,toList_push->JM
open PySem.Heap renaming get?_push_of_some->Qh,lt_size->Qs,get?_push_size->Qz,get?_update_self->Yh,size_push->YD
open Bool renaming false_eq_true->Qj,false_ne_true->Qq,and_eq_true->QH,and_eq_true_iff->QM,not_true->Yf,not_eq_true'->Yr,eq_iff_iff->Yu,and_comm->Jo,and_true->Jp,not_false->Jr,true_and->JJ,and_false->JP,or_eq_true->JV
open Nat renaming le_refl->Ql,ne_of_lt->QB,le_trans->QL,lt_of_lt_of_le->QX,zero_add->QZ,le_add_right->Q7,zero_le->Q9,not_lt_zero->YE,eq_or_lt_of_le->YH,add_sub_cancel_left->YK,le_of_not_lt->YW,lt_of_le_of_lt->YX,le_of_lt->Y2,ne_of_gt->Y9,lt_succ_of_lt->Jl,mul_le_mul->Jx,lt_irrefl->JH,add_assoc->JI,le_of_lt_succ->JL,lt_succ_self->JQ
open PyProof.Rows renaming wpS_bind->Qu,wpS_pure->QA,wpS_forRange->Ys,callWith_type1->YM,slot_tuple_getitem->YT,wpS_mono->Jq,KK_mirror_equal->JU,wpS_modify->JW
open Option.some renaming inj->QC
open PySem.SeqAt renaming canLay_of_shaped->QV
open PySem.Heap.SameBut renaming update->Q2
open PyProof.Rows.KeyOrd renaming kle_trans->Yd,kle_refl->Yp,kle_of_klt->YQ
open LawfulBEq renaming eq_of_beq->Yv
open List.Nodup renaming length_le_of_subset->Yx
open Classical renaming byContradiction->Yz
open PySem.PassesOwn renaming never->YG
open PySem.Obj renaming data_mapFields->YI,isFreed_of_fields->JK
open Int renaming toNat_natCast->Y4,emod_lt_of_pos->JC
open PySem.List renaming filterMap_getElem?_range_length->Y8
open PySem.SetTable renaming insertAt_perm->Jc
open PySem.F renaming slot_tuple_iterator_next->Jh
open Prod renaming ext->Jk
open PySem.Around renaming under_plainId->Jn
open PyProof.Rows.F renaming plain_set_update_loop->Ju
open PySem renaming Value->YP,Addr->JY,Shared->JZ,starEach->J0,wpAny->J1,Program->J2,model->J3,World->J5,FuncData->J6,cLine->Zc,mainGlobals->Zd,compareOp->Ze,eval->Zh,Stmt->Zm,backTo->Zn,bootBuiltins->Zs,binaryOp->Zv,swapsWith->Zw,behindInMarks->Zz,attributeBase->ZA,foldedSetIterable->ZD,wpAny_loadPart'->ZF,keywordEach->ZG,sysModules->ZM,bindArgs->ZU,DictEntry->ZV,Scope->ZX,assignEach->ZY,firstArgMember->Z0,backToKw->Z5,codeAny->Uc,Keyword->Ud,wpAny_pyIter_tuple->Uh,sliceBounds->Ui,isSubtype_type->Us,builtinLookup_eq_fast->Uu,wpAny_notOrdered_dict->Uv,isSubtype_tuple_tuple->Uw,pyNext->Ux,rawInt->Uy,wpAny_askSetting->UA,holding->UC,wpAny_attempt->UE,plainId_quiet->UF,NameKind->UG,wpAny_of_eq->UI,wpAny_execs_nil->UK,getMethod->UP,entryOfKey->UQ,wpAny_fieldsOf->US,intKind->UT,storedH->UW,IsPart->UY,atKey->U0
open PySem.Value renaming ref->J4,none->Zp,type->ZH,bool->ZQ,isInt_shape->Uk,int->UO
open PyProof.Rows renaming arrOf->J7,Keyed->J8,SortSt->Za,pendingOf->Zi,setArr->ZJ,SortKind->ZP,IntsAre->ZW,failedOf->Z7,seqObj->Um,pairsOf_size->Uo,boot_tuple->UB,wpS_get->UD,boot_sorted->UJ,envOfC->UL,room_in_shaped->UR,AllBare->UU,pairsOf->UV,wpS_lift->UX
open PySem.PyData renaming int->J9,bool->Zr,canLayAll0->Zt,depthAll->Zx,eqv->ZS,tuple->Z3,list->Uj,canLay0->Ur
open PySem.NameKind renaming free->Zb,cell->Z8
open Or renaming inr->Zf,inl->Zl
open PySem.Builtin.Tuple renaming tupleHashOf->Zg,tupleExact->ZB,tupleItemsOf->ZZ
open PySem.SetTable renaming sizeAbove->Zj,below->Zo,insertAt->Zu,runEnd->ZN,eraseAt->ZT,fits->Z9,fill->Ua,turns->UZ
open PySem.Heap renaming SameBut->Zk
open PySem.Obj renaming putSet->Zy,mapSeq->Ug,cls_mapFields->Ut
open PySem.SeqAt renaming shaped->ZC
open False renaming elim->ZE
open PySem.Builtin.Slice renaming slicePlaces->ZI,sliceAdjust->Z4
open PySem.Builtin.SmallTypes renaming nextOf->ZK
open PySem.Builtin.Frozenset renaming addrOf->ZO,isAnySet->Z1,sizeOf->Ub
open PySem.Str renaming ofString->ZR
open Ne renaming symm->Z2
open PySem.Builtin.List renaming listTooLong->Z6
open ForInStep renaming yield->Ue
open True renaming intro->Uf
open Nat renaming add_zero->Ul,lt_or_ge->UM,lt_trans->UN
open PySem.Heap.SameBut renaming refl->Uq
open Bool renaming not_eq_true->Uz
open PySem.SetTable.probe renaming go->UH
set_option Elab.async false
set_option linter.all false
set_option maxRecDepth 100000
set_option maxHeartbeats 4000000
set_option compiler.extract_closed false
set_option genInjectivity false
set_option genSizeOf false
set_option genSizeOfSpec false
set_option bootstrap.genMatcherCode false
noncomputable section
namespace L2
open PySem PySem.Spec PyProof.Rows
abbrev gQ:=Sum Int Str
def HE:gQ->YP->Bool
 | .inl k,v=>Value.isInt k v
 | .inr x,v=>Value.isStrOf x v
def Ml(w:J5):gQ->Int
 | .inl k=>hashInt k
 | .inr x=>hashStr w x
theorem mQ:∀{k:gQ}{v:YP},HE k v=true->(∃ i t,k=Sum.inl i/\v=UO i t) ∨ (∃ x t,k=Sum.inr x/\v=Value.str x t)
 | .inl i,v,h=>by
  obtain⟨t,e⟩:=Uk (k:=i) (v:=v) h;exact .inl ⟨i,t,rfl,e⟩
 | .inr x,v,h=>by
  obtain⟨t,e⟩:=Value.isStrOf_shape (x:=x) (v:=v) h;exact .inr ⟨x,t,rfl,e⟩
theorem Rp(a b:Int):decide ((Sum.inl a:gQ)=Sum.inl b)=(a == b):=by
 by_cases e:a=b
 ·subst e;simp
 ·have h:¬ (Sum.inl a:gQ)=Sum.inl b:=fun q=>e (Sum.inl.inj q);rw [decide_eq_false h]
  exact(beq_eq_false_iff_ne.mpr e).symm
theorem PM(a b:Str):decide ((Sum.inr a:gQ)=Sum.inr b)=decide (a=b):=by
 by_cases e:a=b
 ·subst e;simp
 ·have h:¬ (Sum.inr a:gQ)=Sum.inr b:=fun q=>e (Sum.inr.inj q);rw [decide_eq_false h,decide_eq_false e]
theorem PK(a:Int)(b:Str):decide ((Sum.inl a:gQ)=Sum.inr b)=false:=decide_eq_false (fun q=>nomatch q)
theorem PL(a:Str)(b:Int):decide ((Sum.inr a:gQ)=Sum.inl b)=false:=decide_eq_false (fun q=>nomatch q)
def Hc(prog:J2)(w:J5):PySem.KeyKind prog w gQ where
 is:=HE
 hash:=Ml w
 inj:=fun v a b g d=>by
  rcases mQ g with⟨i,t,rfl,rfl⟩ | ⟨x,t,rfl,rfl⟩
  ·rcases mQ d with⟨j,u,rfl,e⟩ | ⟨y,u,rfl,e⟩
   ·injection e with e1 _;rw [e1]
   ·exact nomatch e
  ·rcases mQ d with⟨j,u,rfl,e⟩ | ⟨y,u,rfl,e⟩
   ·exact nomatch e
   ·injection e with e1 _;rw [e1]
 byValue:=fun k v h=>by
  rcases mQ h with⟨i,t,rfl,rfl⟩ | ⟨x,t,rfl,rfl⟩ <;> rfl
 pyHash:=fun c h=>by
  rcases mQ c with⟨i,t,rfl,rfl⟩ | ⟨x,t,rfl,rfl⟩
  ·exact wpAny_pyHash_int h
  ·exact wpAny_pyHash_str h
 eqBool:=fun f c h=>by
  rcases mQ f with⟨i,t,rfl,rfl⟩ | ⟨x,t,rfl,rfl⟩
  ·rcases mQ c with⟨j,u,rfl,rfl⟩ | ⟨y,u,rfl,rfl⟩
   ·rw [Rp]at h;exact wpAny_eqBool_int h
   ·rw [PK]at h;exact SeqAt.EqAt.int_str i t y u _ _ _ _ h
  ·rcases mQ c with⟨j,u,rfl,rfl⟩ | ⟨y,u,rfl,rfl⟩
   ·rw [PL]at h;exact SeqAt.EqAt.str_int x t j u _ _ _ _ h
   ·rw [PM]at h;exact wpAny_eqBool_str h
 «strs»:=fun k x t v h=>by
  rcases mQ h with⟨i,u,rfl,e⟩ | ⟨y,u,rfl,e⟩
  ·exact nomatch e
  ·injection e with e1 _
   subst e1
   cases v <;> rfl
inductive V where
 | non | bl (b:Bool) | int (i:Int) | str (x:Str) | byt (b:Array UInt8) | flt (b:UInt64) | ref (a:JY) | ty (n:String)
 deriving DecidableEq
def RelV:V->YP->Prop
 | .non,u=>u=Zp
 | .bl b,u=>u=ZQ b
 | .int i,u=>∃ t,u=UO i t
 | .str x,u=>∃ t,u=Value.str x t
 | .byt b,u=>∃ t,u=Value.bytes b t
 | .flt b,u=>∃ t,u=Value.float b t
 | .ref a,u=>u=J4 a
 | .ty n,u=>u=ZH n
abbrev Vals:List V->List YP->Prop:=Paired RelV
theorem Vals.length{xs:List V}{us:List YP}(r:Vals xs us):xs.length=us.length:=Paired.length r
theorem Vals.get:∀{xs:List V}{us:List YP}{i:Nat}{x:V},Vals xs us->xs[i]?=some x->∃ u,us[i]?=some u/\RelV x u
 | _,_,_,_,.nil,e=>by simp at e
 | _,_,0,_,.cons r _,e=>by simp at e;subst e;exact⟨_,rfl,r⟩
 | _,_,i+1,x,.cons _ t,e=>by
  obtain⟨u,b,a⟩:=Vals.get (i:=i) (x:=x) t (by simpa using e)
  exact⟨u,by simpa using b,a⟩
theorem Vals.append:∀{xs ys:List V}{us ws:List YP},Vals xs us->Vals ys ws->Vals (xs++ys) (us++ws)
 | _,_,_,_,.nil,s=>s
 | _,_,_,_,.cons r t,s=>.cons r (Vals.append t s)
theorem Vals.take:∀{xs:List V}{us:List YP} (n:Nat),Vals xs us->Vals (xs.take n) (us.take n)
 | _,_,0,_=>.nil
 | _,_,_+1,.nil=>.nil
 | _,_,n+1,.cons r t=>.cons r (Vals.take n t)
theorem Vals.drop:∀{xs:List V}{us:List YP} (n:Nat),Vals xs us->Vals (xs.drop n) (us.drop n)
 | _,_,0,r=>r
 | _,_,_+1,.nil=>.nil
 | _,_,n+1,.cons _ t=>Vals.drop n t
def kX:Option V->Option YP->Prop
 | some v,some u=>RelV v u
 | none,none=>True
 | _,_=>False
def KV{κ:Type}:List (κ × V)->List (κ × YP)->Prop:=Paired fun(p:κ × V) (q:κ × YP)=>p.1=q.1/\RelV p.2 q.2
def kV:gQ->V
 | .inl i=>.int i
 | .inr x=>.str x
inductive HO where
 | lst (xs:List V)
 | tup (xs:List V)
 | dK (kvs:List (gQ × V)) | dT (kvs:List (List gQ × V))
 | set (S:Int->Bool) (n:Nat)
 | ins (C dx:JY) (fs:List (Str × V))
 | own (x:JY)
 | xd (fs:List (Str × V))
 | met (f x:JY)
 | rng (lo hi:Int)
 | frz (o:Obj) (u:HO)
 | tbl (ps:Array YP)
 | ext (φ:Heap->Prop)
abbrev Hp:=JY->Option HO
def aJ(H:Hp)(a:JY)(o:HO):Hp:=fun b=>if b=a then some o else H b
theorem cS{H:Hp}{a:JY}{o:HO}:aJ H a o a=some o:=by unfold aJ;rw [if_pos rfl]
theorem aZ{H:Hp}{a b:JY}{o:HO}(h:b≠a):aJ H a o b=H b:=by unfold aJ;rw [if_neg h]
theorem qM{H:Hp}{a b:JY}{o u:HO}(h:H a=some o)(h':H b=some u)(d:o≠u):a≠b:=by
 intro e;subst e;rw [h]at h';exact d (QC h')
theorem gF{H:Hp}{a b:JY}{o:HO}(h:H a=some o)(h':H b=none):a≠b:=by
 intro e;subst e;rw [h]at h';cases h'
section
variable (P:J2)(w:J5)
def e9(H:Hp)(h:Heap)(a:JY):HO->Prop
 | .lst c=>c.length<=sizeLine/\∃(its:List YP) (n:Nat),Vals c its/\h.get? a=some { cls:=.type "list",data:=.seq its.toArray n }
 | .tup c=>c.length<=sizeLine/\∃ its:List YP,Vals c its/\IsTup h a its.toArray
 | .dK b=>b.length<=sizeLine/\(a == ZM)=false/\∃ vs,KV b vs/\h.DictOf (Hc P w) a vs
 | .dT b=>b.length<=sizeLine/\(a == ZM)=false/\∃ c:List (List gQ × JY × YP),
   Paired (fun(p:List gQ × V) (q:List gQ × JY × YP)=>p.1=q.1/\H q.2.1=some (.tup (p.1.map kV))/\RelV p.2 q.2.2) b c /\
   ∃ o es ep,h.get? a=some o/\o.ExactDict/\o.data=.dict es ep/\es.toList=c.map (UQ (tupleKind (Hc P w)))/\(c.map (·.1)).Nodup
 | .set S n=>h.SetOf (UT P w) a S n
 | .ins C d fs=>H d=some (.own a)/\fs.length<=1000/\d≠a/\h.get? a=some (PySem.W.instObj C d) /\
   ∃ mA,h.Ns1 d mA/\(∀ f,kX (fs.lookup f) (mA f))/\PySem.Within mA (fs.map (·.1))
 | .own _=>∃ o,h.get? a=some o
 | .xd fs=>∃ mA,h.Ns1 a mA/\∀ f,kX (fs.lookup f) (mA f)
 | .rng g i=>∃ t u v,h.get? a=some { cls:=.type "range",data:=.fields #[.int g t,.int i u,.int 1 v] }
 | .frz o u=>h.get? a=some o/\e9 H h a u
 | .tbl e=>h.get? a=some { cls:=.none,data:=.fields e }
 | .met f x=>h.get? a=some (PySem.W.methodObj (.ref f) (.ref x))
 | .ext φ=>φ h/\(∃ o,h.get? a=some o)/\∀ h1 h2:Heap,φ h1->(∀ o,h1.get? a=some o->h2.get? a=some o)->φ h2
def dE(H:Hp)(h:Heap):Prop:=∀ a o,H a=some o->e9 P w H h a o
end
section
variable {P:J2}{w:J5}{H H':Hp}{h h':Heap}{a:JY}{o:HO}
theorem e9.lt(x:e9 P w H h a o):a<h.objs.size:=by
 cases o with
 | lst c=>obtain⟨_,_,_,_,e⟩:=x;exact Qs e
 | tup c=>obtain⟨_,_,_,p⟩:=x;exact p.lt
 | dK b=>obtain⟨_,_,_,_,o,_,_,e,_⟩:=x;exact Qs e
 | dT b=>obtain⟨_,_,_,_,o,_,_,e,_⟩:=x;exact Qs e
 | set S n=>obtain⟨o,_,_,_,e,_⟩:=x;exact Qs e
 | ins C k fs=>obtain⟨_,_,_,e,_⟩:=x;exact Qs e
 | own y=>obtain⟨_,e⟩:=x;exact Qs e
 | xd fs=>obtain⟨_,⟨_,_,_,e,_⟩,_⟩:=x;exact Qs e
 | rng i j=>obtain⟨_,_,_,e⟩:=x;exact Qs e
 | frz g u=>obtain⟨e,_⟩:=x;exact Qs e
 | tbl d=>exact Qs (show h.get? a=some _ from x)
 | met f y=>exact Qs (show h.get? a=some _ from x)
 | ext φ=>obtain⟨_,⟨_,e⟩,_⟩:=x;exact Qs e
theorem Paired.mapP{d c:Type}{F G:d->c->Prop}:∀{l₁:List d}{l₂:List c},Paired F l₁ l₂->(∀ a b,F a b->G a b)->Paired G l₁ l₂
 | _,_,.nil,_=>.nil
 | _,_,.cons r t,f=>.cons (f _ _ r) (Paired.mapP t f)
theorem e9.stay(x:e9 P w H h a o)(k:∀ b u,(b=a ∨ H b=some (.own a))->h.get? b=some u->h'.get? b=some u)
  (K:∀ b,H b=some (.own a)->H' b=some (.own a)) (J:∀ b xs,H b=some (.tup xs)->H' b=some (.tup xs)):e9 P w H' h' a o:=by
 induction o with
 | lst xs=>obtain⟨z,l,n,r,e⟩:=x;exact⟨z,l,n,r,k _ _ (.inl rfl) e⟩
 | tup xs=>obtain⟨z,l,r,g,e,c⟩:=x;exact⟨z,l,r,g,k _ _ (.inl rfl) e,c⟩
 | dK A=>obtain⟨z,y,F,r,g,i,j,e,c⟩:=x;exact⟨z,y,F,r,g,i,j,k _ _ (.inl rfl) e,c⟩
 | dT A=>
  obtain⟨z,y,xs,r,g,i,j,e,c⟩:=x
  exact⟨z,y,xs,Paired.mapP r fun p q z=>⟨z.1,J _ _ z.2.1,z.2.2⟩,g,i,j,k _ _ (.inl rfl) e,c⟩
 | set S n=>obtain⟨g,i,j,t,e,c⟩:=x;exact⟨g,i,j,t,k _ _ (.inl rfl) e,c⟩
 | ins C Q fs=>
  obtain⟨d,z,G,e,s,⟨m,i,j,M,c⟩,r⟩:=x
  exact⟨K _ d,z,G,k _ _ (.inl rfl) e,s,⟨m,i,j,k _ _ (.inr d) M,c⟩,r⟩
 | own y=>obtain⟨g,e⟩:=x;exact⟨g,k _ _ (.inl rfl) e⟩
 | xd fs=>obtain⟨s,⟨m,i,j,e,c⟩,r⟩:=x;exact⟨s,⟨m,i,j,k _ _ (.inl rfl) e,c⟩,r⟩
 | rng N O=>obtain⟨t,u,v,e⟩:=x;exact⟨t,u,v,k _ _ (.inl rfl) e⟩
 | frz g u I=>obtain⟨e,q⟩:=x;exact⟨k _ _ (.inl rfl) e,I q⟩
 | tbl E=>
  have e:h.get? a=some { cls:=.none,data:=.fields E }:=x
  show h'.get? a=some { cls:=.none,data:=.fields E }
  exact k a _ (.inl rfl) e
 | met f y=>
  have e:h.get? a=some (PySem.W.methodObj (.ref f) (.ref y)):=x
  show h'.get? a=some (PySem.W.methodObj (.ref f) (.ref y))
  exact k a _ (.inl rfl) e
 | ext φ=>obtain⟨p,⟨o,e⟩,B⟩:=x;exact⟨B _ _ p fun o q=>k _ _ (.inl rfl) q,⟨o,k _ _ (.inl rfl) e⟩,B⟩
theorem dE.lt(x:dE P w H h)(e:H a=some o):a<h.objs.size:=(x a o e).lt
theorem dE.fresh(x:dE P w H h)(e:h.objs.size<=a):H a=none:=by
 cases q:H a with
 | none=>rfl
 | some u=>exact absurd (QX (x.lt q) e) (JH _)
theorem dE.kept(x:dE P w H h)(k:∀ b u,h.get? b=some u->h'.get? b=some u):dE P w H h':=fun a o e=>
 (x a o e).stay (fun b u _ q=>k b u q) (fun _ q=>q) fun _ _ q=>q
theorem dE.laid(x:dE P w H h)(k:∀ b u,h.get? b=some u->h'.get? b=some u)(i:h.objs.size<=a)(d:e9 P w (aJ H a o) h' a o):dE P w (aJ H a o) h':=fun b u e=>by
 have f:=x.fresh i;by_cases g:b=a
 ·subst g;rw [cS]at e;cases e;exact d
 ·rw [aZ g]at e
  exact(x b u e).stay (fun c v _ q=>k c v q) (fun c q=>by rw [aZ (gF q f)];exact q) fun c j q=>by rw [aZ (gF q f)];exact q
end
def Rd(H:Hp)(a:JY)(u:HO):Prop:=H a=some u ∨ ∃ o,H a=some (.frz o u)
theorem Rd.ok{P:J2}{w:J5}{H:Hp}{h:Heap}{a:JY}{u:HO}(r:Rd H a u)(x:dE P w H h):e9 P w H h a u:=by
 rcases r with r | ⟨o,r⟩
 ·exact x a u r
 ·obtain⟨_,q⟩:=x a _ r;exact q
def vB:Option HO->Prop
 | some (.lst _)=>True
 | some (.dK _)=>True
 | some (.dT _)=>True
 | some (.set _ _)=>True
 | some (.ins _ _ _)=>True
 | some (.ext _)=>True
 | _=>False
section
variable {P:J2}{w:J5}{H:Hp}{h h':Heap}{x e:JY}{o':HO}
theorem dE.write(ok:dE P w H h)(i:vB (H x))(he:e=x ∨ H e=some (.own x))(k:∀ b u,b≠e->h.get? b=some u->h'.get? b=some u)(n:∃ u,h'.get? e=some u)
  (m:e9 P w (aJ H x o') h' x o'):dE P w (aJ H x o') h':=fun b u q=>by
 have d:∀ c y,H c=some (.own y)->c≠x:=fun c y r z=>by subst z;rw [r]at i;exact i
 have f:∀ c g,H c=some (.tup g)->c≠x:=fun c g r z=>by subst z;rw [r]at i;exact i
 by_cases l:b=x
 ·subst l;rw [cS]at q;cases q;exact m
 ·rw [aZ l]at q;by_cases a:b=e
  ·have o:H b=some (.own x):=by
    rcases he with z | z
    ·exact absurd (a.trans z) l
    ·rw [a];exact z
   rw [q]at o;cases o;obtain⟨v,p⟩:=n
   exact⟨v,by rw [a];exact p⟩
  ·refine(ok b u q).stay (fun c v j r=>k c v ?_ r) (fun c r=>by rw [aZ (d c b r)];exact r) fun c g r=>by rw [aZ (f c g r)];exact r
   rcases j with rfl | j
   ·exact a
   ·rintro rfl;rcases he with z | z
    ·exact d c b j z
    ·rw [j]at z;cases z;exact l rfl
end
structure Un(fs ex:List JY)(H H':Hp)(h h':Heap):Prop where
 keep:∀ b o,h.get? b=some o->H b=none->b∉fs->b∉ex->h'.get? b=some o
 slot:∀ b o,h.get? b=some o->H b=none->b∈fs->b∉ex->∃ sl,h'.get? b=some { o with slots:=sl }
 free:∀ b o,h.get? b=some o->H b=none->b∉ex->H' b=none
 there:∀ b o,h.get? b=some o->b∉ex->∃ o',h'.get? b=some o'
 tups:∀ b xs,H b=some (.tup xs)->H' b=some (.tup xs)
 frzs:∀ b o u,H b=some (.frz o u)->H' b=some (.frz o u)
 tbls:∀ b ps,H b=some (.tbl ps)->∃ more,H' b=some (.tbl (ps++more))
section
variable {fs fs' ex ex':List JY}{H H1 H2:Hp}{h h1 h2 h':Heap}{a x e:JY}{o:HO}
theorem Un.any(u:Un fs ex H H1 h h1){b:JY}{a:Obj}(q:h.get? b=some a)(n:H b=none)(c:b∉ex):∃ sl,h1.get? b=some { a with slots:=sl }:=by
 by_cases d:b∈fs
 ·exact u.slot b a q n d c
 ·exact⟨a.slots,u.keep b a q n d c⟩
theorem Un.kept(k:∀ b u,h.get? b=some u->h'.get? b=some u):Un fs ex H H h h':=
 ⟨fun b a q _ _ _=>k b a q,fun b a q _ _ _=>⟨a.slots,k b a q⟩,fun _ _ _ n _=>n,fun b a q _=>⟨a,k b a q⟩,fun _ _ q=>q,fun _ _ _ q=>q,fun _ c q=>⟨#[],by rw [q];simp⟩⟩
theorem Un.refl:Un fs ex H H h h:=Un.kept fun _ _ q=>q
theorem Un.laid(k:∀ b u,h.get? b=some u->h'.get? b=some u)(e:h.objs.size<=a)(c:H a=none):Un fs ex H (aJ H a o) h h' where
 keep:=fun b u q _ _ _=>k b u q
 slot:=fun b u q _ _ _=>⟨u.slots,k b u q⟩
 free:=fun b u q n _=>by rw [aZ (QB (QX (Qs q) e))];exact n
 there:=fun b u q _=>⟨u,k b u q⟩
 tups:=fun b d q=>by rw [aZ (gF q c)];exact q
 frzs:=fun b u d q=>by rw [aZ (gF q c)];exact q
 tbls:=fun b f q=>⟨#[],by rw [aZ (gF q c),q];simp⟩
theorem Un.write(c:vB (H x))(he:e=x ∨ H e=some (.own x))(k:∀ b u,b≠e->h.get? b=some u->h'.get? b=some u)(f:∃ u,h'.get? e=some u):Un fs ex H (aJ H x o) h h':=by
 have g:∀ b,H b=none->b≠x:=fun b n z=>by subst z;rw [n]at c;exact c
 have i:∀ b,H b=none->b≠e:=fun b n z=>by
  subst z;rcases he with r | r
  ·exact g b n r
  ·rw [n]at r;cases r
 have d:∀ b u,H b=some u->¬ vB (some u)->b≠x:=fun b u q l z=>by subst z;rw [q]at c;exact l c
 refine⟨fun b u q n _ _=>k b u (i b n) q,fun b u q n _ _=>⟨u.slots,k b u (i b n) q⟩,fun b u q n _=>by rw [aZ (g b n)];exact n,fun b u q _=>?_,
  fun b j q=>by rw [aZ (d b _ q fun z=>z)];exact q,fun b u j q=>by rw [aZ (d b _ q fun z=>z)];exact q,fun b m q=>⟨#[],by rw [aZ (d b _ q fun z=>z),q];simp⟩⟩
 by_cases a:b=e
 ·subst a;exact f
 ·exact⟨u,k b u a q⟩
end
def vY(h:Heap)(H:Hp):List JY:=(List.range h.objs.size).filter fun a=>(H a).isSome
def lX(h:Heap)(H:Hp):Heap:=PySem.W.hideAll h (vY h H)
theorem P4(h:Heap)(H:Hp):(lX h H).objs.size=h.objs.size:=PySem.W.hideAll_size _ _
theorem P3{h:Heap}{H:Hp}{b:JY}{o:Obj}(e:h.get? b=some o)(n:H b=none):(lX h H).get? b=some o:=
 PySem.W.hideAll_get _ e fun a=>by
  have q:(H b).isSome=true:=(QW.mp a).2;rw [n]at q;simp at q
theorem RU{h:Heap}{H:Hp}{b:JY}{o:Obj}(e:(lX h H).get? b=some o):h.get? b=some o/\H b=none:=by
 have a:h.get? b=some o:=PySem.W.of_hideAll (vY h H) e
 refine⟨a,?_⟩
 cases q:H b with
 | none=>rfl
 | some x=>
  have c:b∈vY h H:=QW.mpr ⟨Q3.mpr (Qs a),by simp [q]⟩;have z:(lX h H).get? b=none:=PySem.W.hideAll_none (vY h H) c;rw [z]at e;cases e
structure Mod(K:PySem.W.Frag)(mg:Str->Option YP)(base:Heap):Prop where
 kin:K.In base
 glob:base.Ns Zd mg
 blt:∃ mb,base.Ns builtinsNs mb/\∀ x:Str,x≠"__name__"->mb x=Zs x
 nolimit:base.NoLimit
structure Cx where
 prog:J2
 w:J5
 K:PySem.W.Frag
 mg:Str->Option YP
 base:Heap
 A:Around
 N:List Str
 s₀:JZ
 H₀:Hp
 env:Env
 outer:List Env
 stack:List Env
 ex:List JY
 fn:Str->Bool
 calm:Bool
 pn:List (JY × Obj)
 xe:YP->JZ->Prop
def jH(l:List Env):List JY:=l.filterMap (·.frame)
abbrev Cx.fs(X:Cx):List JY:=jH X.outer
def iB(a:ZX)(x:Str):Prop:=a.names.lookup x=some .local ∨ a.names.lookup x=some .cell ∨ a.names.lookup x=some .free
def Loc(a:ZX)(x:Str):Prop:=a.names.lookup x=some .local ∨ a.names.lookup x=some .cell
def LA(env:Env)(h:Heap)(m:Str->Option YP)(x:Str)(u:YP):Prop:=
 (env.kindOf x=some .local/\m x=some u) ∨ ((env.kindOf x=some .cell ∨ env.kindOf x=some .free)/\∃ c,env.cells.lookup x=some c/\h.IsCell c (some u))
structure Cx.Ok(X:Cx):Prop where
 mod:Mod X.K X.mg X.base
 kind:X.env.scope.kind=.function
 glob:X.env.globals=Zd
 blt:X.env.builtins=builtinsNs
 above:X.s₀.heap.objs.size<=X.env.locals
 inj:∀ x y c,X.env.cells.lookup x=some c->X.env.cells.lookup y=some c->x=y
 has:∀ x,(X.env.kindOf x=some .cell ∨ X.env.kindOf x=some .free)->∃ c,X.env.cells.lookup x=some c
 cab:∀ x c,X.fn x=true->X.env.cells.lookup x=some c->X.s₀.heap.objs.size<=c
 hd:X.calm=true->X.A.handled=none
 frames:X.A.frames=some X.stack
 stk:X.stack=X.outer ∨ (X.stack=X.env::X.outer/\X.env.frame=some X.env.locals)
 exf:∀ b∈X.ex,b≠X.env.locals/\∀ x c,X.env.cells.lookup x=some c->c≠b
 bs:∀ b o,X.base.get? b=some o->X.s₀.heap.get? b=some o/\X.H₀ b=none
 bsz:X.base.objs.size<=X.s₀.heap.objs.size
 noex:∀ b o,X.base.get? b=some o->b∉X.ex
 exfs:∀ b∈X.ex,b∉X.fs
 funs:X.s₀.heap.FunFrames X.base X.outer
 frf:∀ b∈X.fs,X.H₀ b=none
structure Inv(X:Cx)(pins:List (JY × Obj))(σ:List (Option V))(H:Hp)(s:JZ):Prop where
 ok:X.Ok
 os:s.os=X.s₀.os
 bare:UU s.gens
 base:Un X.fs X.ex X.H₀ H X.s₀.heap s.heap
 loc:∃ m,s.heap.Ns X.env.locals m/\∀(i:Nat) (x:Str) (v:V),X.N[i]?=some x->σ[i]?=some (some v)->iB X.env.scope x->∃ u,RelV v u/\LA X.env s.heap m x u
 cell:∀ x c,X.env.cells.lookup x=some c->∃ v,s.heap.IsCell c v
 free:H X.env.locals=none
 freeC:∀ x c,X.env.cells.lookup x=some c->H c=none
 pin:∀ p∈X.pn++pins,s.heap.get? p.1=some p.2/\H p.1=none/\p.1≠X.env.locals/\p.1∉X.fs/\∀ v,p.2.data≠.cell v
 hok:dE X.prog X.w H s.heap
 len:σ.length=X.N.length
section
variable {X:Cx}{pins:List (JY × Obj)}{σ:List (Option V)}{H H':Hp}{s:JZ}{h':Heap}
theorem Cx.Ok.nofr(ok:X.Ok){b:JY}{o:Obj}(e:X.base.get? b=some o):b∉X.fs:=fun a=>by
 have:=(ok.funs.mem a).1
 rw [e]at this;cases this
theorem Inv.bs(I:Inv X pins σ H s):∀ b o,X.base.get? b=some o->s.heap.get? b=some o/\H b=none:=fun b o e=>
 ⟨I.base.keep b o (I.ok.bs b o e).1 (I.ok.bs b o e).2 (I.ok.nofr e) (I.ok.noex b o e),I.base.free b o (I.ok.bs b o e).1 (I.ok.bs b o e).2 (I.ok.noex b o e)⟩
theorem Inv.bk(I:Inv X pins σ H s):∀ b o,X.base.get? b=some o->s.heap.get? b=some o:=fun b o e=>(I.bs b o e).1
theorem Inv.mod(I:Inv X pins σ H s):Mod X.K X.mg X.base:=I.ok.mod
theorem Inv.kIn(I:Inv X pins σ H s):X.K.In s.heap:=I.ok.mod.kin.keeps I.bk
theorem Inv.lt(I:Inv X pins σ H s):X.env.locals<s.heap.objs.size:=let⟨_,hn,_⟩:=I.loc;hn.lt
theorem Inv.sz(I:Inv X pins σ H s):X.s₀.heap.objs.size<=s.heap.objs.size:=QL I.ok.above (Y2 I.lt)
theorem Inv.nofs(I:Inv X pins σ H s){a:JY}(h:s.heap.objs.size<=a):a∉X.fs:=fun c=>by
 obtain⟨_,o,b,_⟩:=I.ok.funs.mem c;exact absurd (QX (Qs b) (QL I.sz h)) (JH _)
theorem Inv.cne(I:Inv X pins σ H s):∀ x c,X.env.cells.lookup x=some c->c≠X.env.locals:=fun x c e z=>by
 obtain⟨v,o,d,f⟩:=I.cell x c e;obtain⟨m,⟨g,h,i,a,b,_⟩,_⟩:=I.loc;rw [z,a]at d;cases d;rw [b]at f;cases f
theorem Inv.funs(I:Inv X pins σ H s):s.heap.FunFrames X.base X.outer:=by
 have all:∀(l:List Env),(∀ b∈jH l,b∈X.fs)->X.s₀.heap.FunFrames X.base l->s.heap.FunFrames X.base l:=by
  intro l
  induction l with
  | nil=>intro _ _;trivial
  | cons p r g=>
   intro f k;obtain⟨m,⟨L,o,a,j,i,n⟩,h⟩:=k;have d:L∈X.fs:=f L (by unfold jH;rw [JR,a];exact Qo);obtain⟨q,e⟩:=I.base.slot L o i (I.ok.frf L d) d fun z=>I.ok.exfs L z d
   exact⟨m,⟨L,_,a,j,e,n⟩,g (fun b c=>f b (by unfold jH;rw [JR,a];exact Qf _ c)) h⟩
 exact all X.outer (fun _ c=>c) I.ok.funs
theorem Inv.stack(I:Inv X pins σ H s):s.heap.FunFrames X.base X.stack:=by
 rcases I.ok.stk with e | ⟨e,b⟩
 ·rw [e];exact I.funs
 ·rw [e];obtain⟨m,a,_⟩:=I.loc;refine .cons (by rw [I.ok.kind];decide) b a ?_ I.funs;exact Heap.get?_none_of_le (QL I.ok.bsz I.ok.above)
theorem Inv.stkSub(I:Inv X pins σ H s):∀ b∈jH X.stack,b∈X.env.locals::X.fs:=fun b a=>by
 rcases I.ok.stk with e | ⟨e,c⟩
 ·rw [e]at a;exact Qf _ a
 ·rw [e]at a;unfold jH at a;rw [JR,c]at a;exact a
theorem Inv.stkFree(I:Inv X pins σ H s):∀ b∈jH X.stack,H b=none:=fun b a=>by
 rcases Qp.mp (I.stkSub b a)with e | a
 ·rw [e];exact I.free
 ·obtain⟨_,o,c,_⟩:=I.ok.funs.mem a;exact I.base.free b o c (I.ok.frf b a) fun z=>I.ok.exfs b z a
theorem Inv.step{g':Array GenState}{t':Nat}{d':Drawn}{ch:List JY}(I:Inv X pins σ H s)
  (g:∀ b∈ch,(b∈X.ex ∨ X.s₀.heap.objs.size<=b)/\b≠X.env.locals/\(∀ x c,X.env.cells.lookup x=some c->c≠b)/\∀ p∈X.pn++pins,p.1≠b)
  (keep:∀ b o,b≠X.env.locals->b∉X.fs->b∉ch->s.heap.get? b=some o->H b=none->h'.get? b=some o)
  (slot:∀ b o,b≠X.env.locals->b∈X.fs->b∉ch->s.heap.get? b=some o->H b=none->∃ sl,h'.get? b=some { o with slots:=sl }) (free:∀ b o,b∉ch->s.heap.get? b=some o->H b=none->H' b=none)
  (y:∀ b o,b∉ch->s.heap.get? b=some o->∃ o',h'.get? b=some o')
  (E:∀ b xs,H b=some (.tup xs)->H' b=some (.tup xs)) (J:∀ b o u,H b=some (.frz o u)->H' b=some (.frz o u)) (F:∀ b ps,H b=some (.tbl ps)->∃ more,H' b=some (.tbl (ps++more)))
  (ns:∀ m,s.heap.Ns X.env.locals m->h'.Ns X.env.locals m) (N:dE X.prog X.w H' h') (hg:UU g'):
  Inv X pins σ H' { s with heap:=h',gens:=g',drawn:=d',toks:=t' }:=by
 have G:∀ b o,X.s₀.heap.get? b=some o->b≠X.env.locals:=fun b o e=>QB (QX (Qs e) I.ok.above)
 have j:∀ b o,X.s₀.heap.get? b=some o->b∉X.ex->b∉ch:=fun b o e a A=>by
  rcases(g b A).1 with z | z
  ·exact a z
  ·exact absurd (QX (Qs e) z) (JH _)
 have h:∀ x c,X.env.cells.lookup x=some c->∀ v,s.heap.IsCell c v->h'.IsCell c v:=fun x c e v U=>by
  obtain⟨o,B,O⟩:=U;have f:c∉ch:=fun z=>(g c z).2.2.1 x c e rfl;by_cases T:c∈X.fs
  ·obtain⟨sl,q⟩:=slot c o (I.cne x c e) T f B (I.freeC x c e)
   exact⟨_,q,O⟩
  ·exact⟨o,keep c o (I.cne x c e) T f B (I.freeC x c e),O⟩
 refine⟨I.ok,I.os,hg,⟨fun b o e n A a=>?_,fun b o e n A a=>?_,fun b o e n a=>?_,fun b o e a=>?_,fun b xs e=>E b xs (I.base.tups b xs e),fun b o xs e=>J b o xs (I.base.frzs b o xs e),fun b ps e=>?_⟩,?_,fun x c e=>?_,?_,fun x c e=>?_,fun p S=>?_,N,I.len⟩
 ·exact keep b o (G b o e) A (j b o e a) (I.base.keep b o e n A a) (I.base.free b o e n a)
 ·obtain⟨sl,t⟩:=I.base.slot b o e n A a;obtain⟨M,K⟩:=slot b _ (G b o e) A (j b o e a) t (I.base.free b o e n a)
  exact⟨M,K⟩
 ·obtain⟨o',t⟩:=I.base.there b o e a;exact free b o' (j b o e a) t (I.base.free b o e n a)
 ·obtain⟨o',t⟩:=I.base.there b o e a;exact y b o' (j b o e a) t
 ·obtain⟨Y,t⟩:=I.base.tbls b ps e;obtain⟨W,K⟩:=F b _ t
  exact⟨Y++W,by rw [K,Array.append_assoc]⟩
 ·obtain⟨m,Z,hl⟩:=I.loc
  refine⟨m,ns m Z,fun i x v t K e3=>?_⟩
  obtain⟨u,r,l⟩:=hl i x v t K e3
  refine⟨u,r,?_⟩
  rcases l with l | ⟨k,c,e,z⟩
  ·exact .inl l
  ·exact .inr ⟨k,c,e,h x c e _ z⟩
 ·obtain⟨v,z⟩:=I.cell x c e
  exact⟨v,h x c e v z⟩
 ·obtain⟨m,⟨o,_,_,B,_⟩,_⟩:=I.loc;exact free _ o (fun z=>(g _ z).2.1 rfl) B I.free
 ·obtain⟨v,o,B,O⟩:=I.cell x c e;exact free c o (fun z=>(g c z).2.2.1 x c e rfl) B (I.freeC x c e)
 ·obtain⟨e,n,R,Q,d⟩:=I.pin p S;have f:p.1∉ch:=fun z=>(g p.1 z).2.2.2 p S rfl
  exact⟨keep p.1 p.2 R Q f e n,free p.1 p.2 f e n,R,Q,d⟩
theorem Inv.un{t':Nat}(I:Inv X pins σ H s)(u:Un X.fs [] H H' s.heap h')(c:dE X.prog X.w H' h'):Inv X pins σ H' { s with heap:=h',toks:=t' }:=by
 obtain⟨m,⟨o,t,v,h,r⟩,_⟩:=id I.loc;obtain⟨l,k⟩:=u.any h I.free (by simp)
 exact I.step (g':=s.gens) (d':=s.drawn) (ch:=[]) (fun _ z=>nomatch z) (fun b o _ d _ e n=>u.keep b o e n d (by simp)) (fun b o _ d _ e n=>u.slot b o e n d (by simp)) (fun b o _ e n=>u.free b o e n (by simp)) (fun b o _ e=>u.there b o e (by simp)) u.tups u.frzs u.tbls (fun q j=>by
  obtain⟨p,f,g,a,i⟩:=j;rw [h]at a;cases a
  exact⟨_,f,g,k,i⟩) c I.bare
theorem Inv.call{g':Array GenState}{t':Nat}{d':Drawn}{ch:List JY}(I:Inv X pins σ H s)(u:Un (jH X.stack) ch H H' s.heap h')(g:dE X.prog X.w H' h')(t:UU g')
  (f:∀ b∈ch,(b∈X.ex ∨ X.s₀.heap.objs.size<=b)/\b≠X.env.locals/\(∀ x c,X.env.cells.lookup x=some c->c≠b)/\∀ p∈X.pn++pins,p.1≠b):
  Inv X pins σ H' { s with heap:=h',gens:=g',drawn:=d',toks:=t' }:=by
 obtain⟨m,⟨o,E,F,k,r⟩,_⟩:=id I.loc;obtain⟨y,h⟩:=u.any k I.free fun z=>(f _ z).2.1 rfl
 exact I.step (ch:=ch) f (fun b o h v a e n=>u.keep b o e n (fun z=>(Qp.mp (I.stkSub b z)).elim h v) a) (fun b o _ _ a e n=>u.any e n a) (fun b o a e n=>u.free b o e n a) (fun b o a e=>u.there b o e a) u.tups u.frzs u.tbls (fun B q=>by
  obtain⟨A,i,j,d,l⟩:=q;rw [k]at d;cases d
  exact⟨_,i,j,h,l⟩) g t
theorem Inv.turned{t':Nat}{it:JY}(I:Inv X pins σ H s)(k:∀ b o,b≠it->s.heap.get? b=some o->h'.get? b=some o)(h:H it=none)(f:it≠X.env.locals)
  (w:it∈X.ex ∨ X.s₀.heap.objs.size<=it) (t:∀ x c,X.env.cells.lookup x=some c->c≠it) (l:∀ p∈X.pn++pins,p.1≠it):Inv X pins σ H { s with heap:=h',toks:=t' }:=by
 have d:∀ b u,H b=some u->b≠it:=fun b u e z=>by rw [z,h]at e;cases e
 refine I.step (g':=s.gens) (d':=s.drawn) (ch:=[it]) (fun b j=>?_) (fun b o _ _ a e _=>k b o (fun z=>a (by simp [z])) e) (fun b o _ _ a e _=>⟨o.slots,k b o (fun z=>a (by simp [z])) e⟩) (fun _ _ _ _ n=>n)
  (fun b o a e=>⟨o,k b o (fun z=>a (by simp [z])) e⟩) (fun _ _ e=>e) (fun _ _ _ e=>e) (fun b B e=>⟨#[],by rw [e];simp⟩) (fun m i=>?_) (fun b u e=>?_) I.bare
 ·have e:b=it:=by simpa using j
  subst e
  exact⟨w,f,t,l⟩
 ·obtain⟨o,y,A,g,r⟩:=i
  exact⟨o,y,A,k _ o (Z2 f) g,r⟩
 ·refine(I.hok b u e).stay (fun c v a q=>k c v ?_ q) (fun _ q=>q) fun _ _ q=>q
  rcases a with z | z
  ·rw [z];exact d b u e
  ·exact d c _ z
theorem Inv.tok(I:Inv X pins σ H s)(t:Nat):Inv X pins σ H { s with toks:=t }:=I.un (h':=s.heap) (t':=t) Un.refl I.hok
theorem Inv.kept{t':Nat}(I:Inv X pins σ H s)(k:∀ b u,s.heap.get? b=some u->h'.get? b=some u):Inv X pins σ H { s with heap:=h',toks:=t' }:=I.un (Un.kept k) (I.hok.kept k)
theorem Inv.laid{a:JY}{o:HO}{t':Nat}(I:Inv X pins σ H s)(k:∀ b u,s.heap.get? b=some u->h'.get? b=some u)(d:s.heap.objs.size<=a)(c:e9 X.prog X.w (aJ H a o) h' a o):
  Inv X pins σ (aJ H a o) { s with heap:=h',toks:=t' }:=I.un (Un.laid k d (I.hok.fresh d)) (I.hok.laid k d c)
theorem Inv.write{x e:JY}{o:HO}{t':Nat}(I:Inv X pins σ H s)(d:vB (H x))(he:e=x ∨ H e=some (.own x))(k:∀ b u,b≠e->s.heap.get? b=some u->h'.get? b=some u)(a:∃ u,h'.get? e=some u)
  (c:e9 X.prog X.w (aJ H x o) h' x o):Inv X pins σ (aJ H x o) { s with heap:=h',toks:=t' }:=I.un (Un.write d he k a) (I.hok.write d he k a c)
theorem Inv.pins_of{a:List (JY × Obj)}(I:Inv X pins σ H s)(h:∀ p∈a,s.heap.get? p.1=some p.2/\H p.1=none/\p.1≠X.env.locals/\p.1∉X.fs/\∀ v,p.2.data≠.cell v):Inv X a σ H s:=
 ⟨I.ok,I.os,I.bare,I.base,I.loc,I.cell,I.free,I.freeC,fun p b=>(QD.mp b).elim (fun z=>I.pin p (QY _ z)) (h p),I.hok,I.len⟩
theorem GN{N:List Str}(c:N.Nodup){i j:Nat}{x:Str}(a:N[i]?=some x)(b:N[j]?=some x):i=j:=by
 obtain⟨g,e⟩:=Qc.mp a;obtain⟨f,d⟩:=Qc.mp b
 exact(List.getElem_inj c).mp (e.trans d.symm)
theorem Ll{M:Model}{A:Around}{E:YP->JZ->Prop}{i:Nat}{x:Str}{v:V}{u:YP}{Q:Unit->JZ->Prop}(I:Inv X pins σ H s)(hN:X.N.Nodup)(W:X.N[i]?=some x)(B:Loc X.env.scope x)(r:RelV v u)
  (h:∀ s',Inv X pins (σ.set i (some v)) H s'->(∃ a,Zk a s.heap s'.heap/\(a=X.env.locals ∨ X.env.cells.lookup x=some a))->Q () s') (hf:X.fn x=true ∨ X.env.scope.names.lookup x=some .local:=by first | exact .inl rfl | exact .inr rfl | assumption):J1 M A (storeName X.env x u) Q E s:=by
 obtain⟨m,hn,hl⟩:=id I.loc
 have Y:(X.env.scope.kind == .class || (X.env.scope.kind == .module && X.env.locals != X.env.globals))=false:=by rw [I.ok.kind];rfl
 have K:i<σ.length:=by rw [I.len];exact(Qc.mp W).1
 have cne:=I.cne
 have g:∀{a:JY}{h':Heap},(∃ o,s.heap.get? a=some o/\H a=none)->Zk a s.heap h'->dE X.prog X.w H h':=fun{a h'} ha f b ob e=>by
  obtain⟨_,_,F⟩:=ha
  refine(I.hok b ob e).stay (fun c w' t q=>(f.2 c ?_).trans q) (fun _ q=>q) fun _ _ q=>q
  rintro rfl;rcases t with rfl | t
  ·rw [F]at e;cases e
  ·rw [F]at t;cases t
 rcases B with J | J
 ·refine wpAny_storeName_local J hn (fun h' a3 f=>?_) Y;obtain⟨oL,_,_,a2,_⟩:=id hn;refine h _ ⟨I.ok,I.os,I.bare,⟨fun b o e n S B=>?_,fun b o e n S B=>?_,I.base.free,fun b o e B=>?_,I.base.tups,I.base.frzs,I.base.tbls⟩,⟨_,a3,fun j y v' l G e3=>?_⟩,fun y c e=>?_,I.free,I.freeC,fun p hp=>?_,g ⟨oL,a2,I.free⟩ f,by simpa using I.len⟩ ⟨_,f,.inl rfl⟩
  ·exact(f.2 b (QB (QX (Qs e) I.ok.above))).trans (I.base.keep b o e n S B)
  ·obtain⟨sl,l⟩:=I.base.slot b o e n S B
   exact⟨sl,(f.2 b (QB (QX (Qs e) I.ok.above))).trans l⟩
  ·obtain⟨o',l⟩:=I.base.there b o e B
   exact⟨o',(f.2 b (QB (QX (Qs e) I.ok.above))).trans l⟩
  ·by_cases O:j=i
   ·subst O;rw [W]at l;cases l;rw [Qy K]at G;cases G
    exact⟨u,r,.inl ⟨J,by simp⟩⟩
   ·rw [Qr (Z2 O)]at G;obtain⟨u',r',q⟩:=hl j y v' l G e3
    refine⟨u',r',?_⟩
    rcases q with⟨k,e⟩ | ⟨k,c,e,z⟩
    ·refine .inl ⟨k,?_⟩
     have:y≠x:=fun e=>O (GN hN l (e ▸ W))
     simp [this,e]
    ·exact .inr ⟨k,c,e,z.sameBut f (cne y c e)⟩
  ·obtain⟨w',z⟩:=I.cell y c e
   exact⟨w',z.sameBut f (cne y c e)⟩
  ·obtain⟨e,n,ne,nf,d⟩:=I.pin p hp
   exact⟨(f.2 p.1 ne).trans e,n,ne,nf,d⟩
 ·have R:X.fn x=true:=by
   rcases hf with z | z
   ·exact z
   ·rw [z]at J;cases J
  obtain⟨c,t⟩:=I.ok.has x (.inl J);obtain⟨w',z⟩:=I.cell x c t;refine wpAny_storeName_cell I.ok.kind J t z (fun h' a0 f=>?_);obtain⟨oc,U,T⟩:=id z;refine h { s with heap:=h' } ⟨I.ok,I.os,I.bare,⟨fun b o e n S B=>?_,fun b o e n S B=>?_,I.base.free,fun b o e B=>?_,I.base.tups,I.base.frzs,I.base.tbls⟩,⟨m,hn.sameBut f (Z2 (cne x c t)),fun j y v' l G e3=>?_⟩,fun y c' e=>?_,I.free,I.freeC,fun p hp=>?_,g ⟨oc,U,I.freeC x c t⟩ f,by simpa using I.len⟩ ⟨c,f,.inr t⟩
  ·exact(f.2 b (QB (QX (Qs e) (I.ok.cab x c R t)))).trans (I.base.keep b o e n S B)
  ·obtain⟨sl,l⟩:=I.base.slot b o e n S B
   exact⟨sl,(f.2 b (QB (QX (Qs e) (I.ok.cab x c R t)))).trans l⟩
  ·obtain⟨o',l⟩:=I.base.there b o e B
   exact⟨o',(f.2 b (QB (QX (Qs e) (I.ok.cab x c R t)))).trans l⟩
  ·by_cases O:j=i
   ·subst O;rw [W]at l;cases l;rw [Qy K]at G;cases G
    exact⟨u,r,.inr ⟨.inl J,c,t,a0⟩⟩
   ·rw [Qr (Z2 O)]at G;obtain⟨u',r',q⟩:=hl j y v' l G e3
    refine⟨u',r',?_⟩
    rcases q with q | ⟨k,c',e,z'⟩
    ·exact .inl q
    ·refine .inr ⟨k,c',e,z'.sameBut f ?_⟩;rintro rfl;exact O (GN hN l (I.ok.inj _ _ _ e t ▸ W))
  ·by_cases Z:c'=c
   ·subst Z;exact⟨_,a0⟩
   ·obtain⟨w2,z2⟩:=I.cell y c' e
    exact⟨w2,z2.sameBut f Z⟩
  ·obtain⟨e,n,ne,nf,d⟩:=I.pin p hp
   refine⟨(f.2 p.1 ?_).trans e,n,ne,nf,d⟩
   intro q;rw [q,U]at e;have q':oc=p.2:=QC e;exact d w' (by rw [<- q'];exact T)
theorem Lk{M:Model}{A:Around}{E:YP->JZ->Prop}{i:Nat}{x:Str}{v:V}{u:YP}{Q:Unit->JZ->Prop}(I:Inv X pins σ H s)(d:X.N.Nodup)(b:X.N[i]?=some x)(a:Loc X.env.scope x)(r:RelV v u)
  (h:∀ s',Inv X pins (σ.set i (some v)) H s'->Q () s') (c:X.fn x=true ∨ X.env.scope.names.lookup x=some .local:=by first | exact .inl rfl | exact .inr rfl | assumption):J1 M A (storeName X.env x u) Q E s:=
 Ll I d b a r (fun s' e _=>h s' e) c
theorem Inv.call'{s':JZ}{ch:List JY}(I:Inv X pins σ H s)(g:s'.os=s.os)(u:Un (jH X.stack) ch H H' s.heap s'.heap)(a:dE X.prog X.w H' s'.heap)(h:UU s'.gens)
  (d:∀ b∈ch,(b∈X.ex ∨ X.s₀.heap.objs.size<=b)/\b≠X.env.locals/\(∀ x c,X.env.cells.lookup x=some c->c≠b)/\∀ p∈X.pn++pins,p.1≠b):Inv X pins σ H' s':=by
 obtain⟨i,g',d',t',f⟩:=s';have e:f=s.os:=g;subst e;exact I.call (g':=g') (t':=t') (d':=d') u a h d
end
abbrev XK:=YP->Option JY->Hp->Prop
abbrev St:=List (Option V)
abbrev VK:=V->Hp->Prop
abbrev TE:=St->Hp->VK->Prop
abbrev TT:=St->Hp->(Bool->Hp->Prop)->Prop
abbrev TA:=St->Hp->(List V->Hp->Prop)->Prop
structure jC where
 nx:St->Hp->Prop
 rt:VK
 bk:St->Hp->Prop:=fun _ _=>False
 ct:St->Hp->Prop:=fun _ _=>False
abbrev TS:=jC->St->Hp->Prop
def EP(X:Cx)(a:List (JY × Obj))(b:St)(Q:VK)(u:YP)(c:JZ):Prop:=∃ v H',Inv X a b H' c/\RelV v u/\Q v H'
def TP(X:Cx)(a:List (JY × Obj))(c:St)(Q:Bool->Hp->Prop)(b:Bool)(d:JZ):Prop:=∃ H',Inv X a c H' d/\Q b H'
def AP(X:Cx)(a:List (JY × Obj))(b:St)(Q:List V->Hp->Prop)(us:List YP)(c:JZ):Prop:=∃ vs H',Inv X a b H' c/\Vals vs us/\Q vs H'
def SP(X:Cx)(a:List (JY × Obj))(D:jC)(f:Flow)(b:JZ):Prop:=
 match f with
 | .next=>∃ σ' H',Inv X a σ' H' b/\D.nx σ' H'
 | .brk=>∃ σ' H',Inv X a σ' H' b/\D.bk σ' H'
 | .cont=>∃ σ' H',Inv X a σ' H' b/\D.ct σ' H'
 | .ret u=>∃ v σ' H',Inv X a σ' H' b/\RelV v u/\D.rt v H'
def PE(X:Cx)(e:Expr)(t:TE):Prop:=
 ∀(pins:List (JY × Obj)) (s:JZ) (σ:St) (H:Hp) (Q:VK),Inv X pins σ H s->t σ H Q->J1 (J3 X.prog X.w) X.A (Zh e X.env) (EP X pins σ Q) X.xe s
def PT(X:Cx)(e:Expr)(t:TT):Prop:=
 ∀(pins:List (JY × Obj)) (s:JZ) (σ:St) (H:Hp) (Q:Bool->Hp->Prop),Inv X pins σ H s->t σ H Q->J1 (J3 X.prog X.w) X.A (isTrue e X.env (Zh e X.env)) (TP X pins σ Q) X.xe s
def PW(X:Cx)(e:Expr)(t:TT):Prop:=
 ∀(whole:Sem YP) (pins:List (JY × Obj)) (s:JZ) (σ:St) (H:Hp) (Q:Bool->Hp->Prop),Inv X pins σ H s->t σ H Q->J1 (J3 X.prog X.w) X.A (isTrue e X.env whole) (TP X pins σ Q) X.xe s
theorem PW.pt{X:Cx}{e:Expr}{t:TT}(h:PW X e t):PT X e t:=h _
def PA(X:Cx)(es:List Expr)(t:TA):Prop:=
 ∀(pos:Pos) (pins:List (JY × Obj)) (s:JZ) (σ:St) (H:Hp) (Q:List V->Hp->Prop),Inv X pins σ H s->t σ H Q->J1 (J3 X.prog X.w) X.A (spliced (Zn pos (J0 es X.env))) (AP X pins σ Q) X.xe s
def PS(X:Cx)(a:Zm)(t:TS):Prop:=
 ∀(pins:List (JY × Obj)) (s:JZ) (σ:St) (H:Hp) (D:jC),Inv X pins σ H s->t D σ H->J1 (J3 X.prog X.w) X.A (exec a X.env) (SP X pins D) X.xe s
def gH(X:Cx)(a:List Zm)(t:TS):Prop:=
 ∀(pins:List (JY × Obj)) (s:JZ) (σ:St) (H:Hp) (D:jC),Inv X pins σ H s->t D σ H->J1 (J3 X.prog X.w) X.A (execs a X.env) (SP X pins D) X.xe s
theorem bC{b:Type}{t:Sem b}{Q c:b->JZ->Prop}{M:Model}{A:Around}{E:YP->JZ->Prop}{s:JZ}(h:J1 M A t Q E s)(d:∀ a s,Q a s->c a s):J1 M A t c E s:=Y6 h d fun _ _ x=>x
section
variable {X:Cx}
def AV(i:Nat):TE:=fun a H Q=>∃ v,a[i]?=some (some v)/\Q v H
def tC(v:V):TE:=fun _ H Q=>Q v H
theorem hW{i:Nat}{x:Str}{pos:Pos}(t:X.N[i]?=some x)(n:iB X.env.scope x)(f:(x == ("__debug__":Str))=false:=by decide)(g:(x == ("__classdict__":Str))=false:=by decide):PE X (.Name x pos) (AV i):=by
 intro d s k H Q I h;obtain⟨v,e,h⟩:=h;obtain⟨m,o,q⟩:=I.loc;obtain⟨u,r,l⟩:=q i x v t e n;have fin:EP X d k Q u s:=⟨v,H,I,r,h⟩;rcases l with⟨b,p⟩ | ⟨b,c,j,a⟩
 ·exact wpAny_Name (wpAny_loadName_local I.ok.kind b o p fin) f
 ·rcases b with b | b
  ·exact wpAny_Name (wpAny_loadName_cell I.ok.kind b j a fin) f
  ·exact wpAny_Name (wpAny_loadName_free I.ok.kind b j a fin g) f
theorem xW{i j pos}:PE X (.Constant (.int i) j pos) (tC (.int i)):=fun _ _ _ H _ I h=>wpAny_Constant_int ⟨.int i,H,I.tok _,⟨_,rfl⟩,h⟩
theorem IN{b j pos}:PE X (.Constant (.bool b) j pos) (tC (.bl b)):=fun _ _ _ H _ I h=>Constant_bool ⟨.bl b,H,I,rfl,h⟩
theorem TJ{j pos}:PE X (.Constant .none j pos) (tC .non):=fun _ _ _ H _ I h=>Constant_none ⟨.non,H,I,rfl,h⟩
theorem wM{x j pos}:PE X (.Constant (.str x) j pos) (tC (.str x)):=fun _ _ _ H _ I h=>Calls.Constant_str ⟨.str x,H,I.tok _,⟨_,rfl⟩,h⟩
def Gl(X:Cx)(x:Str):Prop:=X.env.kindOf x=some .globalImplicit
theorem HK{E:YP->JZ->Prop}{a:List (JY × Obj)}{s:JZ}{b:St}{H:Hp}{x:Str}{u:YP}{pos:Pos}{Q:YP->JZ->Prop}(I:Inv X a b H s)(d:Gl X x)(c:X.mg x=some u)(h:Q u s)
  (e:(x == ("__debug__":Str))=false:=by decide):J1 (J3 X.prog X.w) X.A (Zh (.Name x pos) X.env) Q E s:=
 Calls.Name_function_global I.ok.kind d (Calls.loadGlobal_global (by rw [I.ok.glob];exact I.mod.glob.keeps I.bk) c h) e
theorem nQ{E:YP->JZ->Prop}{a:List (JY × Obj)}{s:JZ}{b:St}{H:Hp}{x:Str}{u:YP}{pos:Pos}{Q:YP->JZ->Prop}(I:Inv X a b H s)(f:Gl X x)(e:X.mg x=none)(c:Zs x=some u)(h:Q u s)
  (d:x≠"__name__":=by decide) (g:(x == ("__debug__":Str))=false:=by decide):J1 (J3 X.prog X.w) X.A (Zh (.Name x pos) X.env) Q E s:=by
 obtain⟨k,j,i⟩:=I.mod.blt;exact Calls.Name_function_global I.ok.kind f (Calls.loadGlobal_builtin (by rw [I.ok.glob];exact I.mod.glob.keeps I.bk) e (by rw [I.ok.blt];exact j.keeps I.bk) ((i x d).trans c) h) g
theorem Vy{x:Str}{v:V}{u:YP}{pos:Pos}(d:Gl X x)(c:X.mg x=none)(a:Zs x=some u)(r:RelV v u)(b:x≠"__name__":=by decide)(e:(x == ("__debug__":Str))=false:=by decide):PE X (.Name x pos) (tC v):=
 fun _ _ _ H _ I h=>nQ I d c a ⟨v,H,I,r,h⟩ b e
variable {a b:Expr}{ta tb:TE}{pos:Pos}
def tB(t:TE):TT:=fun a H Q=>t a H fun x b=>∃ c,x=.bl c/\Q c b
theorem wP{e:Expr}{t:TE}(h:PE X e t)(he:∀ whole,isTrue e X.env whole=(do let v <- whole;standAt e.pos;UC [v] (truthy v)):=by intro _;rfl):PT X e (tB t):=by
 intro a s b H Q I g;refine isTrue_plain (bC (h a s b H _ I g) fun v k ⟨x,j,i,c,f⟩=>?_) (he _);obtain⟨d,rfl,q⟩:=f;cases c;exact YN ⟨j,i,q⟩
variable {tA tB':TT}{rest:List Expr}
def NZ(t u:TT):TT:=fun a H Q=>t a H fun c b=>if c=true then u a b Q else Q false b
def Oh(t u:TT):TT:=fun a H Q=>t a H fun c b=>if c=true then Q true b else u a b Q
def Of(t:TT):TT:=fun a H Q=>t a H fun c b=>Q (!c) b
theorem Tt(f:PT X a tA):PW X (.BoolOp .And [a] pos) tA:=by
 intro g b s d H Q I h;refine isTrue_and (bC (f b s d H Q I h) fun c i e=>?_)
 cases c with
 | true=>exact isTrue_and_nil e
 | false=>exact e
theorem Il(f:PT X a tA):PW X (.BoolOp .Or [a] pos) tA:=by
 intro g b s d H Q I h;refine isTrue_or (bC (f b s d H Q I h) fun c i e=>?_)
 cases c with
 | false=>exact isTrue_or_nil e
 | true=>exact e
theorem Ts(n:PT X a tA)(m:PW X (.BoolOp .And (b::rest) pos) tB'):PW X (.BoolOp .And (a::b::rest) pos) (NZ tA tB'):=by
 intro k d s e H Q I h;refine isTrue_and (bC (n d s e H _ I h) fun c l j=>?_);obtain⟨i,g,f⟩:=j
 cases c with
 | true=>exact m k d l e i Q g f
 | false=>exact⟨i,g,f⟩
theorem Ik(n:PT X a tA)(m:PW X (.BoolOp .Or (b::rest) pos) tB'):PW X (.BoolOp .Or (a::b::rest) pos) (Oh tA tB'):=by
 intro k d s e H Q I h;refine isTrue_or (bC (n d s e H _ I h) fun c l j=>?_);obtain⟨i,g,f⟩:=j
 cases c with
 | true=>exact⟨i,g,f⟩
 | false=>exact m k d l e i Q g f
theorem Ig(e:PT X a tA):PT X (.UnaryOp .Not a pos) (Of tA):=by
 intro b s d H Q I h;exact isTrue_not (e b s d H (fun c f=>Q (!c) f) I h)
def N0(e d:TE):TE:=fun a H Q=>e a H fun x b=>∃ c,x=.bl c/\if c=true then d a b Q else Q (.bl false) b
def Oi(e d:TE):TE:=fun a H Q=>e a H fun x b=>∃ c,x=.bl c/\if c=true then Q (.bl true) b else d a b Q
def Og(b:TE):TE:=fun a H Q=>b a H fun x d=>∃ c,x=.bl c/\Q (.bl (!c)) d
theorem IP{op}{t:TE}(h:PE X a t):PE X (.BoolOp op [a] pos) t:=fun b s c H Q I d=>BoolOp_one (h b s c H Q I d)
theorem IM(n:PE X a ta)(m:PE X (.BoolOp .And (b::rest) pos) tb):PE X (.BoolOp .And (a::b::rest) pos) (N0 ta tb):=by
 intro d s f H Q I h;refine BoolOp_and (bC (n d s f H _ I h) fun v k j=>?_);obtain⟨x,i,g,l,e⟩:=j;obtain⟨c,rfl,e⟩:=e;cases l;refine YN ?_
 cases c with
 | true=>exact m d k f i Q g e
 | false=>exact⟨.bl false,i,g,rfl,e⟩
theorem Nj(n:PE X a ta)(m:PE X (.BoolOp .Or (b::rest) pos) tb):PE X (.BoolOp .Or (a::b::rest) pos) (Oi ta tb):=by
 intro d s f H Q I h;refine BoolOp_or (bC (n d s f H _ I h) fun v k j=>?_);obtain⟨x,i,g,l,e⟩:=j;obtain⟨c,rfl,e⟩:=e;cases l;refine YN ?_
 cases c with
 | false=>exact m d k f i Q g e
 | true=>exact⟨.bl true,i,g,rfl,e⟩
theorem TM(i:PE X a ta):PE X (.UnaryOp .Not a pos) (Og ta):=by
 intro b s e H Q I h;refine UnaryOp_ (bC (i b s e H _ I h) fun v l f=>?_);obtain⟨x,k,j,g,d⟩:=f;obtain⟨c,rfl,d⟩:=d;cases g;exact not_of (YN ⟨.bl (!c),k,j,rfl,d⟩)
def N9(t:TT)(e d:TE):TE:=fun a H Q=>t a H fun c b=>if c=true then e a b Q else d a b Q
theorem BF{c:Expr}(m:PT X c tA)(o:PE X a ta)(n:PE X b tb):PE X (.IfExp c a b pos) (N9 tA ta tb):=by
 intro e s f H Q I h;refine wpAny_IfExp (bC (m e s f H _ I h) fun d g l=>?_);obtain⟨k,j,i⟩:=l
 cases d with
 | true=>exact o e g f k Q j i
 | false=>exact n e g f k Q j i
end
def cD(K:PySem.W.Frag)(H:Hp)(a:JY)(xs:List V):Prop:=
 Rd H a (.lst xs) ∨
  ∃(o:Obj) (its:Array YP) (n:Nat),K.lookup a=some o/\o.cls=.type "list"/\o.dict=none/\o.data=.seq its n/\its.size<=sizeLine/\Vals xs its.toList
def bP(K:PySem.W.Frag)(H:Hp)(a:JY)(xs:List V):Prop:=
 Rd H a (.tup xs) ∨
  ∃(o:Obj) (its:Array YP) (n:Nat),K.lookup a=some o/\o.cls=.type "tuple"/\o.data=.seq its n/\its.size<=sizeLine/\Vals xs its.toList
def LF:YP->Option V
 | .none=>some .non
 | .bool b=>some (.bl b)
 | .int i _=>some (.int i)
 | .str x _=>some (.str x)
 | .bytes b _=>some (.byt b)
 | .float b _=>some (.flt b)
 | .ref a=>some (.ref a)
 | .type n=>some (.ty n)
 | _=>none
theorem RelV.abs{x:V}{u:YP}(r:RelV x u):LF u=some x:=by
 cases x with
 | non=>cases r;rfl
 | bl _=>cases r;rfl
 | int _=>obtain⟨t,rfl⟩:=r;rfl
 | str _=>obtain⟨t,rfl⟩:=r;rfl
 | byt _=>obtain⟨t,rfl⟩:=r;rfl
 | flt _=>obtain⟨t,rfl⟩:=r;rfl
 | ref _=>cases r;rfl
 | ty _=>cases r;rfl
theorem RelV.inj{x y:V}{u:YP}(r:RelV x u)(q:RelV y u):x=y:=QC (r.abs.symm.trans q.abs)
theorem Vals.inj{xs ys:List V}{us:List YP}(h:Vals xs us)(h':Vals ys us):xs=ys:=by
 induction h generalizing ys with
 | nil=>cases h';rfl
 | cons r t c=>
  cases h' with
  | cons b a=>rw [r.inj b,c a]
section
variable {X:Cx}{pins:List (JY × Obj)}{σ:St}{H:Hp}{s:JZ}{a:JY}{xs ys:List V}
theorem cD.of{K:PySem.W.Frag}(h:H a=some (.lst xs)):cD K H a xs:=.inl (.inl h)
theorem Inv.list(I:Inv X pins σ H s)(h:cD X.K H a xs):∃ its:List YP,Vals xs its/\PlainL s.heap a its.toArray/\xs.length<=sizeLine:=by
 rcases h with h | ⟨o,its,n,c,f,d,b,g,r⟩
 ·obtain⟨z,its,n,r,e⟩:=h.ok I.hok
  exact⟨its,r,⟨_,n,e,rfl,rfl,rfl⟩,z⟩
 ·refine⟨its.toList,r,⟨o,n,I.kIn a o c,f,d,by simpa using b⟩,?_⟩
  have e:=r.length;simp only [Qg]at e;lia
theorem Inv.tuple(I:Inv X pins σ H s)(h:bP X.K H a xs):∃ its:List YP,Vals xs its/\IsTup s.heap a its.toArray/\xs.length<=sizeLine:=by
 rcases h with h | ⟨o,its,n,c,d,b,f,r⟩
 ·obtain⟨z,its,r,p⟩:=h.ok I.hok
  exact⟨its,r,p,z⟩
 ·refine⟨its.toList,r,⟨o,I.kIn a o c,d,n,by simpa using b⟩,?_⟩
  have e:=r.length;simp only [Qg]at e;lia
theorem Inv.list_inj(I:Inv X pins σ H s)(h:cD X.K H a xs)(h':cD X.K H a ys):xs=ys:=by
 obtain⟨b,r,⟨o,n,e,_,_,d⟩,_⟩:=I.list h;obtain⟨its',g,⟨i,j,c,_,_,f⟩,_⟩:=I.list h';rw [e]at c;cases c;rw [d]at f
 injection f with d1 _
 have:b=its':=by simpa using congrArg Array.toList d1
 subst this;exact r.inj g
theorem Inv.tuple_inj(I:Inv X pins σ H s)(h:bP X.K H a xs)(h':bP X.K H a ys):xs=ys:=by
 obtain⟨b,r,⟨o,e,_,n,d⟩,_⟩:=I.tuple h;obtain⟨its',g,⟨i,c,_,j,f⟩,_⟩:=I.tuple h';rw [e]at c;cases c;rw [d]at f
 injection f with d1 _
 have:b=its':=by simpa using congrArg Array.toList d1
 subst this;exact r.inj g
end
abbrev Cx.wish(X:Cx)(E:YP->JZ->Prop):Cx:={ X with xe:=E }
abbrev Cx.nox(X:Cx):Cx:=X.wish fun _ _=>False
theorem Cx.Ok.wish{X:Cx}(ok:X.Ok)(E:YP->JZ->Prop):(X.wish E).Ok:=
 ⟨ok.mod,ok.kind,ok.glob,ok.blt,ok.above,ok.inj,ok.has,ok.cab,ok.hd,ok.frames,ok.stk,ok.exf,ok.bs,ok.bsz,ok.noex,ok.exfs,ok.funs,ok.frf⟩
theorem Cx.Ok.unwish{X:Cx}{E:YP->JZ->Prop}(ok:(X.wish E).Ok):X.Ok:=
 ⟨ok.mod,ok.kind,ok.glob,ok.blt,ok.above,ok.inj,ok.has,ok.cab,ok.hd,ok.frames,ok.stk,ok.exf,ok.bs,ok.bsz,ok.noex,ok.exfs,ok.funs,ok.frf⟩
section
variable {X:Cx}{pins:List (JY × Obj)}{σ:St}{H:Hp}{s:JZ}{E:YP->JZ->Prop}
theorem Inv.wish(I:Inv X pins σ H s)(E:YP->JZ->Prop):Inv (X.wish E) pins σ H s:=⟨I.ok.wish E,I.os,I.bare,I.base,I.loc,I.cell,I.free,I.freeC,I.pin,I.hok,I.len⟩
theorem Inv.unwish(I:Inv (X.wish E) pins σ H s):Inv X pins σ H s:=⟨I.ok.unwish,I.os,I.bare,I.base,I.loc,I.cell,I.free,I.freeC,I.pin,I.hok,I.len⟩
theorem SP.unwish{D:jC}{f:Flow}{s':JZ}(h:SP (X.wish E) pins D f s'):SP X pins D f s':=by
 cases f with
 | next=>obtain⟨a,b,I,q⟩:=h;exact⟨a,b,I.unwish,q⟩
 | brk=>obtain⟨a,b,I,q⟩:=h;exact⟨a,b,I.unwish,q⟩
 | cont=>obtain⟨a,b,I,q⟩:=h;exact⟨a,b,I.unwish,q⟩
 | ret u=>obtain⟨v,a,b,I,r,q⟩:=h;exact⟨v,a,b,I.unwish,r,q⟩
theorem gH.nox{b:List Zm}{t:TS}(h:gH X.nox b t):gH X b t:=fun a s c H D I d=>
 Y6 (h a s c H D (I.wish _) d) (fun _ _ q=>q.unwish) fun _ _ z=>ZE z
end
section
variable {X:Cx}{st:Zm}{rest:List Zm}{t u:TS}{e:Expr}{te:TE}{pos:Pos}
def Oe:TS:=fun D a H=>D.nx a H
def Om(t u:TS):TS:=fun D a H=>t { D with nx:=u D } a H
theorem Ie:gH X [] Oe:=fun _ _ a H _ I h=>UK ⟨a,H,I,h⟩
theorem jS(g:PS X st t)(e:gH X rest u):gH X (st::rest) (Om t u):=by
 intro a s c H D I h;refine wpAny_execs_cons (bC (g a s c H { D with nx:=u D } I h) fun f d q=>?_)
 cases f with
 | next=>
  obtain⟨b,j,i,q⟩:=q;exact e a d b j D i q
 | ret v=>exact q
 | brk=>exact q
 | cont=>exact q
theorem kM(c:PS X st t):gH X [st] t:=by
 intro a s b H D I h;refine wpAny_execs_cons (bC (c a s b H D I h) fun f d q=>?_)
 cases f with
 | next=>exact UK q
 | ret v=>exact q
 | brk=>exact q
 | cont=>exact q
theorem Inv.quiet{a:List (JY × Obj)}{b:St}{H:Hp}{s:JZ}(I:Inv X a b H s):interactive X.env=false:=by simp [interactive,I.ok.kind]
def N7(te:TE):TS:=fun D a H=>te a H fun _ b=>D.nx a b
theorem kL(he:PE X e te)(hs:Zw e none pos.line X.env=pure false:=by rfl):PS X (.Expr e pos) (N7 te):=by
 intro a s b H D I h;exact wpAny_Expr_any (bC (he a s b H _ I h) fun v g ⟨x,f,d,i,c⟩=>⟨b,f,d,c⟩) I.quiet hs
def Ol(te:TE):TS:=fun D a H=>te a H D.rt
theorem qV(he:PE X e te):PS X (.Return (some e) pos) (Ol te):=by
 intro a s b H D I h;exact wpAny_Return_some (bC (he a s b H _ I h) fun v i ⟨x,g,f,c,d⟩=>⟨x,b,g,f,c,d⟩)
def Ob(c:TT)(t u:TS):TS:=fun D a H=>c a H fun b d=>if b=true then t D a d else u D a d
theorem Id{c:Expr}{a b:List Zm}{g:TT}(n:PT X c g)(p:gH X a t)(o:gH X b u):PS X (.If c a b pos) (Ob g t u):=by
 intro e s f H D I h;refine wpAny_If (bC (n e s f H _ I h) fun d i m=>?_);obtain⟨l,k,j⟩:=m
 cases d with
 | true=>exact p e i f l D k j
 | false=>exact o e i f l D k j
end
abbrev TG:=V->St->Hp->(St->Hp->Prop)->Prop
abbrev lQ:=List V->St->Hp->(St->Hp->Prop)->Prop
def PG(X:Cx)(a:Expr)(t:TG):Prop:=
 ∀(pins:List (JY × Obj)) (s:JZ) (σ:St) (H:Hp) (v:V) (u:YP) (Q:St->Hp->Prop),Inv X pins σ H s->RelV v u->t v σ H Q->
  J1 (J3 X.prog X.w) X.A (assign a X.env u) (fun _ b=>∃ σ' H',Inv X pins σ' H' b/\Q σ' H') X.xe s
def n6(X:Cx)(a:List Expr)(t:lQ):Prop:=
 ∀(pins:List (JY × Obj)) (s:JZ) (σ:St) (H:Hp) (vs:List V) (us:List YP) (Q:St->Hp->Prop),Inv X pins σ H s->Vals vs us->t vs σ H Q->
  J1 (J3 X.prog X.w) X.A (assignInOrder ((ZY a X.env).map (·.2)) us) (fun _ b=>∃ σ' H',Inv X pins σ' H' b/\Q σ' H') X.xe s
section
variable {X:Cx}{pos:Pos}
def yF(i:Nat):TG:=fun v a H Q=>Q (a.set i (some v)) H
theorem IV{i:Nat}{x:Str}(e:X.N.Nodup)(c:X.N[i]?=some x)(b:Loc X.env.scope x)(d:X.fn x=true ∨ X.env.scope.names.lookup x=some .local:=by first | exact .inl rfl | exact .inr rfl | assumption):PG X (.Name x pos) (yF i):=by
 intro a s g H v u Q I r h;exact wpAny_assign_Name (Lk I e c b r (fun j f=>⟨_,H,f,h⟩) d)
def L9:lQ:=fun b a H Q=>b=[]/\Q a H
def L8(t:TG)(u:lQ):lQ:=fun c b H Q=>∃ v r,c=v::r/\t v b H fun a d=>u r a d Q
theorem TY:n6 X [] L9:=by
 intro a s b H c d Q I r h;obtain⟨e,h⟩:=h;subst e;cases r;exact assignInOrder_nil ⟨b,H,I,h⟩
theorem TW{e:Expr}{es:List Expr}{t:TG}{u:lQ}(k:PG X e t)(j:n6 X es u)
  (hs:(ZY (e::es) X.env).map (·.2)=assign e X.env::(ZY es X.env).map (·.2):=by rfl):n6 X (e::es) (L8 t u):=by
 intro a s c H o q Q I r h;obtain⟨v,p,l,h⟩:=h;subst l
 cases r with
 | cons r g=>
  rw [hs];refine assignInOrder_cons (bC (k a s c H _ _ _ I r h) fun _ f d=>?_);obtain⟨b,n,m,i⟩:=d;exact j a f b n _ _ Q m g i
def Ma(K:PySem.W.Frag)(n:Nat)(t:lQ):TG:=fun v b H Q=>∃ a xs,v=.ref a/\bP K H a xs/\xs.length=n/\t xs b H Q
theorem TV{es:List Expr}{k:Nat}{t:lQ}{n:Nat}(y:X.calm=true)(h:n6 X es t)
  (w:(ZY es X.env).length=n:=by rfl) (f:(ZY es X.env).findIdx? (·.1)=none:=by rfl):PG X (.Tuple es k pos) (Ma X.K n t):=by
 intro c s g H v u Q I r d;obtain⟨a,j,A,q,x,d⟩:=d;subst A;cases r;obtain⟨l,i,p,E⟩:=I.tuple q;refine assign_Tuple_tuple (I.ok.hd y) p (by simp [w,<- x,i.length]) f fun z m=>?_;have B:Inv X c g H { s with heap:=z }:=I.kept (t':=s.toks) fun b o e=>m b o (QB (Qs e)) e;exact h c _ g H j _ Q B (by simpa using i) d
def Ew(te:TE)(g:TG):TS:=fun D a H=>te a H fun x b=>g x a b D.nx
theorem l7{i:Nat}{x:Str}{e:Expr}{te:TE}{a:Pos}(l:X.N.Nodup)(j:X.N[i]?=some x)(g:Loc X.env.scope x)(he:PE X e te)(hs:Zw e (some (.Name x a)) pos.line X.env=pure false:=by rfl)(k:X.fn x=true ∨ X.env.scope.names.lookup x=some .local:=by first | exact .inl rfl | exact .inr rfl | assumption):
  PS X (.Assign [.Name x a] e pos) (Ew te (yF i)):=by
 intro b s c H D I h;refine wpAny_Assign_Name (bC (he b s c H _ I h) fun v q ⟨y,o,n,d,f⟩=>?_) hs;exact Lk n l j g d (fun p m=>⟨_,o,m,f⟩) k
end
section
variable {X:Cx}{pos:Pos}
def VE(c:TT)(e:TS):TS:=fun D a H=>∃ W:Nat->St->Hp->Prop,(∃ m,W m a H)/\∀ m a H,W m a H->
 c a H fun b d=>if b=true then ∃ N:St->Hp->Prop,(∀ σ' H',N σ' H'->∃ m',m'<m/\W m' σ' H')/\e { D with nx:=N,ct:=N,bk:=D.nx } a d else D.nx a d
theorem U6{c:Expr}{g:List Zm}{r:TT}{t:TS}(u:PassesOwn (J3 X.prog X.w) X.A X.env X.xe)(R:PT X c r)(S:gH X g t):PS X (.While c g [] pos) (VE r t):=by
 intro d s E H D I h;obtain⟨W,⟨Q,J⟩,turn⟩:=h;refine wpAny_While (codeAny_whileLoop (fun n O=>∃ σ' H',Inv X d σ' H' O/\W n σ' H') ?_ Q ⟨E,H,I,J⟩);rintro n M ⟨e,B,T,G⟩;refine Ji u (bC (R d M e B _ T (turn n e B G)) fun b K F=>?_);obtain⟨z,y,k⟩:=F
 cases b with
 | true=>
  obtain⟨N,x,k⟩:=k;rw [if_pos rfl];refine Ji u (bC (S d K e z _ y k) fun f U j=>?_)
  cases f with
  | next=>
   obtain⟨a,i,q,m⟩:=j;obtain⟨o,p,l⟩:=x a i m
   exact⟨o,p,a,i,q,l⟩
  | cont=>
   obtain⟨a,i,q,m⟩:=j;obtain⟨o,p,l⟩:=x a i m
   exact⟨o,p,a,i,q,l⟩
  | brk=>exact j
  | ret v=>exact j
 | false=>
  rw [if_neg Qq];exact UK ⟨e,z,y,k⟩
end
structure It where
 go:Nat->Hp->Prop
 yld:Nat->Hp->V->Hp->Prop
 stop:Nat->Hp->Prop
def hZ(X:Cx)(a:List (JY × Obj))(H:Hp)(b:JY):Prop:=
 H b=none/\b≠X.env.locals/\b∉X.fs/\(b∈X.ex ∨ X.s₀.heap.objs.size<=b)/\(∀ x c,X.env.cells.lookup x=some c->c≠b)/\∀ p∈X.pn++a,p.1≠b
theorem Inv.fpOk{X:Cx}{a:List (JY × Obj)}{g:St}{H f:Hp}{s:JZ}{b:JY}(I:Inv X a g H s)(d:s.heap.objs.size<=b)(i:f b=none):hZ X a f b:=by
 refine⟨i,Y9 (QX I.lt d),I.nofs d,.inr (QL I.sz d),fun x c e z=>?_,fun p h z=>?_⟩
 ·obtain⟨v,q⟩:=I.cell x c e;exact absurd (QX q.lt (by rw [z];exact d)) (JH _)
 ·exact absurd (QX (Qs (I.pin p h).1) (by rw [z];exact d)) (JH _)
structure mY(P:J2)(w:J5)(K:PySem.W.Frag)(tg:Expr)(J:It)(fp:List JY)(it:JY)(tn:Nat->Heap->Prop):Prop where
 mem:it∈fp
 obj:∀ i h,tn i h->∀ b∈fp,∃ o,h.get? b=some o/\∀ v,o.data≠.cell v
 keep:∀ i h h',tn i h->(∀ b∈fp,∀ o,h.get? b=some o->h'.get? b=some o)->tn i h'
 item:∀(X:Cx),X.prog=P->X.w=w->X.K=K->X.calm=true->∀(i:Nat) (pins:List (JY × Obj)) (s:JZ) (σ:St) (H:Hp) (E:YP->JZ->Prop),Inv X pins σ H s->(∀ b∈fp,hZ X pins H b)->tn i s.heap->J.go i H->
  J1 (J3 P w) X.A (Ux (.ref it)) (fun r s1=>∃ u,r=some u /\
   J1 (J3 P w) X.A (letOwnedTupleGo tg (.ref it) u) (fun _ s2=>∃ x H',Inv X pins σ H' s2/\RelV x u/\J.yld i H x H'/\tn (i+1) s2.heap/\∀ b∈fp,H' b=none) E s1) E s
 done:∀(X:Cx),X.prog=P->X.w=w->X.K=K->X.calm=true->∀(i:Nat) (pins:List (JY × Obj)) (s:JZ) (σ:St) (H:Hp) (E:YP->JZ->Prop),Inv X pins σ H s->(∀ b∈fp,hZ X pins H b)->tn i s.heap->J.stop i H->
  J1 (J3 P w) X.A (Ux (.ref it)) (fun r s1=>r=none/\Inv X pins σ H s1) E s
 self:∀(A:Around) (i:Nat) (s:JZ) (Q:YP->JZ->Prop) (E:YP->JZ->Prop),tn i s.heap->Q (.ref it) s->J1 (J3 P w) A (pyIter (.ref it)) Q E s
abbrev TI:=St->Hp->(It->Hp->Prop)->Prop
def DR(X:Cx)(a:List (JY × Obj))(e:St)(f:Expr)(R:It->Hp->Prop)(c:YP)(d:JZ):Prop:=
 ∃(it:JY) (fp:List JY) (tn:Nat->Heap->Prop) (J:It) (H':Hp),c=.ref it/\Inv X a e H' d/\mY X.prog X.w X.K f J fp it tn/\tn 0 d.heap/\(∀ b∈fp,hZ X a H' b)/\R J H'
def PI(X:Cx)(c a:Expr)(b:TI):Prop:=
 ∀(pins:List (JY × Obj)) (s:JZ) (σ:St) (H:Hp) (R:It->Hp->Prop),Inv X pins σ H s->b σ H R->
  J1 (J3 X.prog X.w) X.A (Zh a X.env) (fun v d=>J1 (J3 X.prog X.w) X.A (pyIter v) (DR X pins σ c R) X.xe d) X.xe s
theorem BG{M:Model}{A:Around}{E:YP->JZ->Prop}{s:JZ}{b:Expr}{c:JY}{u:YP}{o:Obj}{n:String}{vs:Array YP}{Q:Unit->JZ->Prop}(d:s.heap.get? c=some o)(g:o.cls=.type n)(f:o.data=.fields vs)
  (e:["enumerate","zip","dict_itemiterator","dict_reverseitemiterator","odict_iterator","itertools.zip_longest","itertools.pairwise"].contains n=false) (a:Q () s):J1 M A (letOwnedTupleGo b (.ref c) u) Q E s:=by
 unfold letOwnedTupleGo
 cases b <;> first
  | exact Qb a
  | (cases u <;> first
    | exact Qb a
    | (refine Qa (wpAny_load d ?_)
       rw [g,f]
       show J1 M A (if(["enumerate","zip","dict_itemiterator","dict_reverseitemiterator","odict_iterator","itertools.zip_longest","itertools.pairwise"].contains n && vs[0]? == some (Uy _))=true then _ else _) Q E s
       rw [if_neg (by intro h;rw [e,Bool.false_and]at h;cases h)]
       exact Qb a))
def Dp(K:PySem.W.Frag)(a:JY):It:=
 ⟨fun i H=>∃ xs x,cD K H a xs/\xs[i]?=some x,fun i H x b=>b=H/\∀ xs,cD K H a xs->xs[i]?=some x,fun i H=>∃ xs,cD K H a xs/\xs.length<=i⟩
def Dq(K:PySem.W.Frag)(a:JY):It:=
 ⟨fun i H=>∃ xs x,bP K H a xs/\xs[i]?=some x,fun i H x b=>b=H/\∀ xs,bP K H a xs->xs[i]?=some x,fun i H=>∃ xs,bP K H a xs/\xs.length<=i⟩
def u9(a:Int)(n:Nat):It:=⟨fun i _=>i<n,fun i H x b=>b=H/\x=.int (a+i),fun i _=>n<=i⟩
theorem WL{P:J2}{w:J5}{K:PySem.W.Frag}{U:Expr}(a it:JY):mY P w K U (Dp K a) [it] it (fun i h=>h.IsListIter it a i) where
 mem:=by simp
 obj:=fun i h f b j=>by
  have e:b=it:=by simpa using j
  subst e;obtain⟨o,e,c,d⟩:=f
  exact⟨o,e,fun v z=>by rw [d]at z;cases z⟩
 keep:=fun i h q f k=>f.at fun o e=>k it (by simp) o e
 item:=by
  intro X F A G S i g s R H E I n f B;subst F A G;obtain⟨T,x,m,y⟩:=B;obtain⟨t,r,p,hz⟩:=I.list m;obtain⟨u,hu,Z⟩:=r.get y;obtain⟨Q,O,f2,N,M,J⟩:=n it (by simp);refine wpAny_pyNext_list_item f p.isList (x:=u) (by simpa using hu) fun q l Y=>?_;have I1:Inv X g R H { s with heap:=q }:=I.turned (t':=s.toks) (fun b o j e=>(Y.2 b j).trans e) Q O N M J;obtain⟨o,e,c,d⟩:=id l
  exact⟨u,rfl,BG (s:={ s with heap:=q }) e c d (by decide) ⟨x,H,I1,Z,⟨rfl,fun ys hy=>by rw [I.list_inj hy m];exact y⟩,l,fun b j=>(n b j).1⟩⟩
 done:=by
  intro X F A G S i g s R H E I n f B;subst F A G;obtain⟨T,m,y⟩:=B;obtain⟨t,r,p,hz⟩:=I.list m;obtain⟨Q,O,f2,N,M,J⟩:=n it (by simp);have hl:=r.length;exact wpAny_pyNext_list_end (I.ok.hd S) f p.isList (by simp;lia) fun q eb=>⟨rfl,I.turned (t':=s.toks) (fun b o j e=>eb b o j e) Q O N M J⟩
 self:=fun _ _ _ _ _ f h=>wpAny_pyIter_listiter f h
theorem WN{P:J2}{w:J5}{K:PySem.W.Frag}{U:Expr}(a it:JY):mY P w K U (Dq K a) [it] it (fun i h=>h.IsTupleIter it a i) where
 mem:=by simp
 obj:=fun i h f b l=>by
  have e:b=it:=by simpa using l
  subst e;obtain⟨o,e,c,d⟩:=f
  exact⟨o,e,fun v z=>by rw [d]at z;cases z⟩
 keep:=fun i h r f k=>f.at fun o e=>k it (by simp) o e
 item:=by
  intro X F A G S i g s R H E I q f B;subst F A G;obtain⟨T,x,n,y⟩:=B;obtain⟨j,t,p,hz⟩:=I.tuple n;obtain⟨u,hu,Z⟩:=t.get y;obtain⟨Q,O,f2,N,M,J⟩:=q it (by simp);refine wpAny_pyNext_tuple_item f (show s.heap.IsTuple a j.toArray from p) (x:=u) (by simpa using hu) fun r m Y=>?_;have I1:Inv X g R H { s with heap:=r }:=I.turned (t':=s.toks) (fun b o l e=>(Y.2 b l).trans e) Q O N M J;obtain⟨o,e,c,d⟩:=id m
  exact⟨u,rfl,BG (s:={ s with heap:=r }) e c d (by decide) ⟨x,H,I1,Z,⟨rfl,fun ys hy=>by rw [I.tuple_inj hy n];exact y⟩,m,fun b l=>(q b l).1⟩⟩
 done:=by
  intro X F A G S i g s R H E I q f B;subst F A G;obtain⟨T,n,y⟩:=B;obtain⟨j,t,p,hz⟩:=I.tuple n;obtain⟨Q,O,f2,N,M,J⟩:=q it (by simp);have hl:=t.length;exact wpAny_pyNext_tuple_end (I.ok.hd S) f (show s.heap.IsTuple a j.toArray from p) (by simp;lia) fun r eb=>⟨rfl,I.turned (t':=s.toks) (fun b o l e=>eb b o l e) Q O N M J⟩
 self:=fun _ _ _ _ _ f h=>wpAny_pyIter_tupleiter f h
theorem WM{P:J2}{w:J5}{K:PySem.W.Frag}{N:Expr}(it:JY)(g:Int)(n:Nat):mY P w K N (u9 g n) [it] it (fun i h=>IsRangeIter h it (g+(i:Nat) * 1) ((n:Int)-(i:Nat)) 1) where
 mem:=by simp
 obj:=fun i h a b d=>by
  have e:b=it:=by simpa using d
  subst e
  exact⟨_,a,fun v z=>by
   have M:Data.fields _=Data.cell v:=z
   cases M⟩
 keep:=fun i h l a k=>k it (by simp) _ a
 item:=by
  intro X r m u q i c s G H E I j a p;subst r m u;obtain⟨F,B,R,A,y,x⟩:=j it (by simp);have W:=Walks.range (prog:=X.prog) (w:=X.w) (I.ok.hd q) it g 1 n;refine W.item i s _ _ p a fun v l J Q f O=>?_;obtain⟨t,rfl⟩:=Q;have T:Inv X c G H { s with heap:=l,toks:=J }:=I.turned (fun b o d e=>O b o (by simpa using d) e) F B A y x
  refine⟨_,rfl,BG (s:={ s with heap:=l,toks:=J }) (n:="range_iterator") f rfl rfl (by decide) ⟨.int (g+i),H,T,⟨t,?_⟩,⟨rfl,rfl⟩,f,fun b d=>(j b d).1⟩⟩
  rw [Int.mul_one]
 done:=by
  intro X r m u q i c s G H E I j a p;subst r m u;obtain⟨F,B,R,A,y,x⟩:=j it (by simp);exact wpAny_pyNext_range_end (I.ok.hd q) a (by have:n<=i:=p;lia) fun l S=>⟨rfl,I.turned (t':=s.toks) (fun b o d e=>S b o d e) F B A y x⟩
 self:=fun _ _ _ _ _ a h=>wpAny_pyIter_rangeiter a h
section
variable {X:Cx}{tg:Expr}
theorem Wf{c:List (JY × Obj)}{d:St}{H:Hp}{s:JZ}{R:It->Hp->Prop}{E:YP->JZ->Prop}{lo a:Int}{t u v:Tok}{tk:Nat}(I:Inv X c d H s)(j:-(2 ^ 62)<=lo)(i:lo<2 ^ 62)(h:-(2 ^ 62)<=a)(g:a<2 ^ 62)
  (q:R (u9 lo (a-lo).toNat) H):J1 (J3 X.prog X.w) X.A (pyIter (.ref s.heap.objs.size)) (DR X c d tg R) E { s with heap:=s.heap.push { cls:=.type "range",data:=.fields #[.int lo t,.int a u,.int 1 v] },toks:=tk }:=by
 refine wpAny_pyIter_range (IsRange.new ..) (small_one j i h g) ?_;have I1:Inv X c d H { s with heap:=s.heap.push { cls:=.type "range",data:=.fields #[.int lo t,.int a u,.int 1 v] },toks:=tk }:=I.kept fun b o e=>Qh _ e
 refine⟨(s.heap.push { cls:=.type "range",data:=.fields #[.int lo t,.int a u,.int 1 v] }).objs.size,[(s.heap.push { cls:=.type "range",data:=.fields #[.int lo t,.int a u,.int 1 v] }).objs.size],_,_,H,rfl,
  I1.kept (t':=tk) fun b o e=>Qh _ e,WM _ lo (a-lo).toNat,?_,fun b f=>?_,q⟩
 ·have l:lo+((0:Nat):Int) * 1=lo:=by simp
  have k:(((a-lo).toNat:Nat):Int)-((0:Nat):Int)=Builtin.Range.rangeSize lo a 1:=by rw [rangeSize_one];split <;> lia
  show IsRangeIter _ _ (lo+((0:Nat):Int) * 1) ((((a-lo).toNat:Nat):Int)-((0:Nat):Int)) 1
  rw [l,k];exact Qz _ rfl
 ·have e:b=(s.heap.push { cls:=.type "range",data:=.fields #[.int lo t,.int a u,.int 1 v] }).objs.size:=by simpa using f
  subst e;exact I1.fpOk (Ql _) (I1.hok.fresh (Ql _))
def j8(c:TA):TI:=fun a H R=>c a H fun b d=>∃ j:Int,b=[.int j]/\-(2 ^ 62)<=j/\j<2 ^ 62/\R (u9 0 j.toNat) d
theorem T3{a:Expr}{d:TA}{p pos:Pos}(m:Gl X "range")(l:X.mg "range"=none)(n:PA X [a] d)(hs:J0 [a] X.env=[(false,Zh a X.env)]:=by rfl):PI X tg (.Call (.Name "range" p) [a] [] pos) (j8 d):=by
 intro b s f H R I h;refine Call_ (nQ I m l boot_range (YM (bC (n pos b s f H _ I h) fun v w ⟨u,x,o,i,c⟩=>?_) hs rfl));obtain⟨j,e,c,k,q⟩:=c;subst e
 cases i with
 | cons r g=>
  cases g;obtain⟨t,rfl⟩:=r;exact call_range_1 (Wf o (by lia) (by lia) c k (by simpa using q))
def N8(c:TI)(g:TG)(d:TS):TS:=fun D a H=>c a H fun J f=>∃ W:Nat->Nat->St->Hp->Prop,(∃ m,W 0 m a f)/\∀ i m a H,W i m a H->
 (J.stop i H/\D.nx a H) ∨ (J.go i H/\∃ N:St->Hp->Prop,(∀ σ' H',N σ' H'->∃ m',m'<m/\W (i+1) m' σ' H')/\∀ x H',J.yld i H x H'->g x a H' fun b e=>d { D with nx:=N,ct:=N,bk:=D.nx } b e)
def tT(a:List JY)(h:Heap):List (JY × Obj):=a.filterMap fun b=>(h.get? b).map fun o=>(b,o)
theorem xH{a:List JY}{h:Heap}{b:JY}{o:Obj}(c:b∈a)(e:h.get? b=some o):(b,o)∈tT a h:=List.mem_filterMap.mpr ⟨b,c,by rw [e];rfl⟩
theorem RV{a:List JY}{h:Heap}{p:JY × Obj}(c:p∈tT a h):p.1∈a/\h.get? p.1=some p.2:=by
 obtain⟨b,d,e⟩:=List.mem_filterMap.mp c
 cases q:h.get? b with
 | none=>rw [q]at e;cases e
 | some o=>
  rw [q]at e;have f:(b,o)=p:=QC e;subst f
  exact⟨d,q⟩
theorem Inv.pinned{a:List (JY × Obj)}{f:St}{H:Hp}{s:JZ}{c:List JY}(I:Inv X a f H s)(k:∀ b∈c,hZ X a H b)(j:∀ b∈c,∃ o,s.heap.get? b=some o/\∀ v,o.data≠.cell v):Inv X (a++tT c s.heap) f H s:=
 I.pins_of fun p i=>(QD.mp i).elim (fun z=>I.pin p (Qv _ z)) fun z=>by
  obtain⟨g,e⟩:=RV z;obtain⟨n,m,l,_⟩:=k p.1 g;obtain⟨o,h,d⟩:=j p.1 g;rw [e]at h;cases h
  exact⟨e,n,m,l,d⟩
theorem Inv.unpinned{a pl:List (JY × Obj)}{b:St}{H:Hp}{s:JZ}(I:Inv X (a++pl) b H s):Inv X a b H s:=I.pins_of fun p c=>I.pin p (Qv _ (QY _ c))
theorem Ic{l:Expr}{z:List Zm}{wi:TI}{g:TG}{tb:TS}{pos:Pos}(M:PassesOwn (J3 X.prog X.w) X.A X.env X.xe)(hc:X.calm=true)(hi:PI X tg l wi)(hg:PG X tg g)(p:gH X z tb)
  (hs:∀ x,ZD l X.env x=pure x:=by intro _;rfl):PS X (.For tg l z [] pos) (N8 wi g tb):=by
 intro c s σ H D I h;refine wpAny_For (bC (hi c s σ H _ I h) fun v s1 h1=>bC h1 fun a3 s2 h2=>?_) hs;obtain⟨it,Q,tn,J,H2,e,I2,T,U,f2,W,⟨m0,w0⟩,turn⟩:=h2;subst e;have k:∀{H':Hp},(∀ b∈Q,H' b=none)->∀ b∈Q,hZ X c H' b:=fun hn b p=>⟨hn b p,(f2 b p).2⟩;refine codeAny_forLoop_any (fun n s'=>∃ i σ' H',Inv X c σ' H' s'/\tn i s'.heap/\(∀ b∈Q,H' b=none)/\W i n σ' H') ?_ m0 ⟨0,σ,H2,I2,U,fun b p=>(f2 b p).1,w0⟩;rintro n s3 ⟨i,j,R,I3,G,O,w3⟩;rcases turn i n j R w3 with⟨F,qn⟩ | ⟨go,N,hN,step⟩
 ·refine Ji M (bC (T.done X rfl rfl rfl hc i c s3 j R X.xe I3 (k O) G F) fun r s4 B=>?_);obtain⟨Z,I4⟩:=B;subst Z;exact UK ⟨j,R,I4,qn⟩
 ·refine Ji M (bC (T.item X rfl rfl rfl hc i c s3 j R X.xe I3 (k O) G go) fun r s4 B=>?_);obtain⟨u,Z,h4⟩:=B;subst Z;refine Ji M (bC h4 fun _ s5 B=>?_);obtain⟨x,H5,I5,r5,y5,E,a0⟩:=B;have a2:=I5.pinned (k a0) (T.obj _ _ E);refine Ji M (bC (hg _ s5 j H5 x u _ a2 r5 (step x H5 y5)) fun _ s6 B=>?_);obtain⟨S,H6,I6,q6⟩:=B;refine Ji M (bC (p _ s6 S H6 _ I6 q6) fun f Y y=>?_)
  have q:∀{a:St}{t:Hp},Inv X (c++tT Q s5.heap) a t Y->N a t->∃ m,m<n/\∃ i σ' H',Inv X c σ' H' Y/\tn i Y.heap/\(∀ b∈Q,H' b=none)/\W i m σ' H':=fun{a t} I7 K=>by
   obtain⟨m',hm,w7⟩:=hN a t K
   refine⟨m',hm,i+1,a,t,I7.unpinned,T.keep _ _ _ E fun b p o e=>(I7.pin (b,o) (Qv _ (Qv _ (xH p e)))).1,fun b p=>?_,w7⟩
   obtain⟨o,e,d⟩:=T.obj _ _ E b p
   exact(I7.pin (b,o) (Qv _ (Qv _ (xH p e)))).2.1
  cases f with
  | next=>obtain⟨a,t,I7,K⟩:=y;exact q I7 K
  | cont=>obtain⟨a,t,I7,K⟩:=y;exact q I7 K
  | brk=>obtain⟨a,t,I7,y⟩:=y;exact⟨a,t,I7.unpinned,y⟩
  | ret v=>obtain⟨x7,a,t,I7,r7,y⟩:=y;exact⟨x7,a,t,I7.unpinned,r7,y⟩
end
abbrev R2:=V->V->Hp->VK->Prop
def bI(X:Cx)(f:YP->YP->Sem YP)(r:R2):Prop:=
 ∀(pins:List (JY × Obj)) (s:JZ) (σ:St) (H:Hp) (x y:V) (v u:YP) (Q:VK),Inv X pins σ H s->RelV x v->RelV y u->r x y H Q->
  J1 (J3 X.prog X.w) X.A (f v u) (EP X pins σ Q) X.xe s
def oA(X:Cx)(f:YP->Sem YP)(r:V->Hp->VK->Prop):Prop:=
 ∀(pins:List (JY × Obj)) (s:JZ) (σ:St) (H:Hp) (x:V) (v:YP) (Q:VK),Inv X pins σ H s->RelV x v->r x H Q->
  J1 (J3 X.prog X.w) X.A (f v) (EP X pins σ Q) X.xe s
def fV(X:Cx)(f:YP)(r:List V->Hp->VK->Prop):Prop:=
 ∀(pins:List (JY × Obj)) (s:JZ) (σ:St) (H:Hp) (xs:List V) (us:List YP) (Q:VK),Inv X pins σ H s->Vals xs us->r xs H Q->
  J1 (J3 X.prog X.w) X.A (call f us) (EP X pins σ Q) X.xe s
def oM(r:R2)(c b:TE):TE:=fun a H Q=>c a H fun x e=>b a e fun y d=>r x y d Q
def Oq(r:V->Hp->VK->Prop)(b:TE):TE:=fun a H Q=>b a H fun x c=>r x c Q
def rI(C:Int->Int->Prop)(g:Int->Int->V):R2:=fun x y H Q=>∃ i j,x=.int i/\y=.int j/\C i j/\Q (g i j) H
def lY(g:Int->Int->V):R2:=fun x y H Q=>∃ i j,x=.int i/\y=.int j/\Q (g i j) H
def rU(g:Int->V):V->Hp->VK->Prop:=fun x H Q=>∃ i,x=.int i/\Q (g i) H
section
variable {X:Cx}{a b c:Expr}{ta tb tc:TE}{pos:Pos}
theorem Aq(o:PE X a ta)(n:PE X b tb){c:List (JY × Obj)}{s:JZ}{d:St}{H:Hp}{R:V->V->Hp->Prop}(I:Inv X c d H s)
  (h:ta d H fun x H1=>tb d H1 fun y H2=>R x y H2) {Q:YP->JZ->Prop}{f:YP->YP->Sem YP}
  (m:∀ v u s2 x y H2,Inv X c d H2 s2->RelV x v->RelV y u->R x y H2->J1 (J3 X.prog X.w) X.A (f v u) Q X.xe s2):
  J1 (J3 X.prog X.w) X.A (Zh a X.env) (fun v s₁=>J1 (J3 X.prog X.w) X.A (Zh b X.env) (fun u s₂=>J1 (J3 X.prog X.w) X.A (f v u) Q X.xe s₂) X.xe s₁) X.xe s:=by
 refine bC (o c s d H _ I h) fun v g e=>?_;obtain⟨x,H1,q,j,l⟩:=e;refine bC (n c g d H1 _ q l) fun u s2 e=>?_;obtain⟨y,H2,p,i,k⟩:=e;exact m v u s2 x y H2 p j i k
theorem IQ{op:Operator}{r:R2}(i:bI X (Zv op) r)(k:PE X a ta)(j:PE X b tb):PE X (.BinOp a op b pos) (oM r ta tb):=by
 intro c s d H Q I h;exact wpAny_BinOp (Aq k j I h fun v u e x y m l g f q=>i c e d m x y v u Q l g f q)
theorem Nk{op:UnaryOp}{r:V->Hp->VK->Prop}(g:oA X (unaryOp op) r)(i:PE X a ta):PE X (.UnaryOp op a pos) (Oq r ta):=by
 intro b s c H Q I h;exact UnaryOp_ (bC (i b s c H _ I h) fun v d ⟨x,k,j,e,f⟩=>g b d c k x v Q j e f)
theorem Az{f:YP->YP->Sem YP}{C:Int->Int->Prop}{g:Int->Int->Int}
  (a:∀(i j:Int) (t u:Tok) (s:JZ) (Q:YP->JZ->Prop) (E:YP->JZ->Prop),C i j->Q (.int (g i j) s.toks) { s with toks:=s.toks+1 }->J1 (J3 X.prog X.w) X.A (f (.int i t) (.int j u)) Q E s):
  bI X f (rI C fun i j=>.int (g i j)):=by
 intro b s l H x y v u Q I e d h;obtain⟨i,j,rfl,rfl,k,q⟩:=h;obtain⟨t,rfl⟩:=e;obtain⟨c,rfl⟩:=d;exact a i j t c s _ _ k ⟨.int (g i j),H,I.tok _,⟨_,rfl⟩,q⟩
theorem Ep{f:YP->YP->Sem YP}{g:Int->Int->Int}
  (a:∀(i j:Int) (t u:Tok) (s:JZ) (Q:YP->JZ->Prop) (E:YP->JZ->Prop),Q (.int (g i j) s.toks) { s with toks:=s.toks+1 }->J1 (J3 X.prog X.w) X.A (f (.int i t) (.int j u)) Q E s):
  bI X f (lY fun i j=>.int (g i j)):=by
 intro b s k H x y v u Q I e d h;obtain⟨i,j,rfl,rfl,q⟩:=h;obtain⟨t,rfl⟩:=e;obtain⟨c,rfl⟩:=d;exact a i j t c s _ _ ⟨.int (g i j),H,I.tok _,⟨_,rfl⟩,q⟩
theorem vO{f:YP->YP->Sem YP}{g:Int->Int->Bool}
  (a:∀(i j:Int) (t u:Tok) (s:JZ) (Q:YP->JZ->Prop) (E:YP->JZ->Prop),Q (.bool (g i j)) s->J1 (J3 X.prog X.w) X.A (f (.int i t) (.int j u)) Q E s):
  bI X f (lY fun i j=>.bl (g i j)):=by
 intro b s k H x y v u Q I e d h;obtain⟨i,j,rfl,rfl,q⟩:=h;obtain⟨t,rfl⟩:=e;obtain⟨c,rfl⟩:=d;exact a i j t c s _ _ ⟨.bl (g i j),H,I,rfl,q⟩
def Ls(i j:Int):Prop:=0<j/\j<1073741824
def u4(i j:Int):Prop:=(-(2 ^ 64)<i/\i<2 ^ 64) ∨ (-(2 ^ 64)<j/\j<2 ^ 64)
theorem u4.ok{i j:Int}(h:u4 i j):IntMulOk i j:=by
 rcases h with⟨b,a⟩ | ⟨b,a⟩
 ·exact .of_left (intBits_le_64 b a)
 ·exact .of_right (intBits_le_64 b a)
theorem Vj:bI X (Zv .Add) (lY fun i j=>.int (i+j)):=Ep fun _ _ _ _ _ _ _ q=>add_int q
theorem Vq:bI X (Zv .Sub) (lY fun i j=>.int (i-j)):=Ep fun _ _ _ _ _ _ _ q=>sub_int q
theorem Vo:bI X (Zv .Mult) (rI u4 fun i j=>.int (i * j)):=Az fun _ _ _ _ _ _ _ a q=>mul_int q a.ok
theorem Vl:bI X (Zv .FloorDiv) (rI Ls fun i j=>.int (i / j)):=Az fun i j _ _ _ _ _ a q=>by
 have c:(0:Int)<j:=a.1;have b:j<1073741824:=a.2;exact floordiv_int (by lia) (by rw [Int.fdiv_eq_ediv_of_nonneg i (by lia)];exact q) (.inl (PyProof.noPylong_small (by lia)))
theorem Vn:bI X (Zv .Mod) (rI (fun _ j=>0<j) fun i j=>.int (i % j)):=Az fun i j _ _ _ _ _ a q=>by
 have b:(0:Int)<j:=a;exact mod_int' (by lia) (by rw [Int.fmod_eq_emod_of_nonneg i (by lia)];exact q)
theorem Ot{f:YP->Sem YP}{g:Int->Int}
  (a:∀(i:Int) (t:Tok) (s:JZ) (Q:YP->JZ->Prop) (E:YP->JZ->Prop),Q (.int (g i) s.toks) { s with toks:=s.toks+1 }->J1 (J3 X.prog X.w) X.A (f (.int i t)) Q E s):
  oA X f (rU fun i=>.int (g i)):=by
 intro b s d H x v Q I c h;obtain⟨i,rfl,q⟩:=h;obtain⟨t,rfl⟩:=c;exact a i t s _ _ ⟨.int (g i),H,I.tok _,⟨_,rfl⟩,q⟩
theorem WR:oA X (unaryOp .USub) (rU fun i=>.int (-i)):=Ot fun _ _ _ _ _ q=>neg_int q
end
section
variable {X:Cx}{a b c:Expr}{ta tb tc:TE}{pos:Pos}
theorem RG{a:List (JY × Obj)}{b:St}{H:Hp}{s:JZ}{Q:VK}{k c:Bool}(I:Inv X a b H s)(q:Q (.bl k) H)(e:k=c):EP X a b Q (.bool c) s:=by
 subst e
 exact⟨.bl k,H,I,rfl,q⟩
theorem Nh:bI X (Ze .Lt) (lY fun i j=>.bl (decide (i<j))):=vO fun _ _ _ _ _ _ _ q=>lt_int q
theorem Ng:bI X (Ze .LtE) (lY fun i j=>.bl (decide (i<=j))):=vO fun _ _ _ _ _ _ _ q=>le_int q
theorem Nf:bI X (Ze .Gt) (lY fun i j=>.bl (decide (j<i))):=vO fun _ _ _ _ _ _ _ q=>gt_int q
theorem Nd:bI X (Ze .GtE) (lY fun i j=>.bl (decide (j<=i))):=vO fun _ _ _ _ _ _ _ q=>ge_int q
theorem Vp:bI X (Ze .IsNot) (fun x y H Q=>y=.non/\Q (.bl (!decide (x=.non))) H):=by
 intro b s d H x y v u Q I a c h;obtain⟨rfl,q⟩:=h;cases c;refine isnot_none_gen (RG I q ?_)
 cases x <;> first
  | (cases a;rfl)
  | (obtain⟨t,rfl⟩:=a;rfl)
theorem bI.or{f:YP->YP->Sem YP}{r e:R2}(h:bI X f r)(h':bI X f e):bI X f (fun x y H Q=>r x y H Q ∨ e x y H Q):=by
 intro a s b H x y v u Q I d c q;rcases q with q | q
 ·exact h a s b H x y v u Q I d c q
 ·exact h' a s b H x y v u Q I d c q
theorem c6(b:Expr){op:CmpOp}(h:op≠.In:=by decide)(a:op≠.NotIn:=by decide):Zz op b=false:=by
 have d:(op == CmpOp.In)=false:=by cases op <;> first | rfl | exact absurd rfl h
 have c:(op == CmpOp.NotIn)=false:=by cases op <;> first | rfl | exact absurd rfl a
 cases b <;> simp [Zz,d,c]
theorem BE{op:CmpOp}{r:R2}(i:bI X (Ze op) r)(l:PE X a ta)(k:PE X b tb)(j:Zz op b=false):PE X (.Compare a [op] [b] pos) (oM r ta tb):=by
 intro c s d H Q I h;exact wpAny_Compare1 (Aq l k I h fun v u e x y n m g f q=>i c e d n x y v u Q m g f q) j
def CI(t:TE):TT:=fun a H Q=>t a H fun x b=>∃ k,x=.bl k/\Q k b
theorem CZ{op:CmpOp}{r:R2}(q:bI X (Ze op) r)(A:PE X a ta)(w:PE X b tb)(t:Zz op b=false):PT X (.Compare a [op] [b] pos) (CI (oM r ta tb)):=by
 intro d s f H Q I h
 refine wpAny_isTrue_Compare1 (bC (A d s f H _ I h) fun v i ⟨x,K,F,m,p⟩=>bC (w d i f K _ F p) fun u g ⟨y,J,E,l,o⟩=>
  bC (q d g f J x y v u _ E m l o) fun c M ⟨z,G,B,j,k,e,n⟩=>?_) t
 subst e;cases j;exact YN ⟨G,B,n⟩
def Lo(r g:R2)(f e d:TE):TE:=fun a H Q=>f a H fun x j=>e a j fun y i=>r x y i fun z b=>∃ k,z=.bl k /\
 (if k=true then d a b fun c h=>g y c h Q else Q (.bl false) b)
theorem Tz{op g:CmpOp}{r m:R2}(O:bI X (Ze op) r)(j:bI X (Ze g) m)(U:PE X a ta)(T:PE X b tb)(S:PE X c tc)
  (R:lastMarks [op,g] [b,c]=false:=by with_unfolding_all rfl):PE X (.Compare a [op,g] [b,c] pos) (Lo r m ta tb tc):=by
 intro f s i H Q I h
 refine Compare_chain (bC (U f s i H _ I h) fun v E ⟨x,H1,Z,J,N⟩=>chain_link (bC (T f E i H1 _ Z N) fun u B ⟨y,H2,Y,l,M⟩=>
  bC (O f B i H2 x y v u _ Y J l M) fun d A ⟨z,p,o,G,k,e,n⟩=>?_)) R
 subst e;cases G;refine YN ?_
 cases k with
 | false=>exact ite_ff ⟨.bl false,p,o,rfl,n⟩
 | true=>exact ite_tt (chain_last (bC (S f A i p _ o n) fun t w ⟨q,H4,W,F,K⟩=>j f w i H4 y q u t Q W l F K))
theorem B6:(sizeLine:Nat)<2 ^ 63:=by rw [Yj];decide
theorem kP{x:V}{us:List YP}(r:Vals [x] us):∃ u,us=[u]/\RelV x u:=by
 cases r with
 | cons b a=>cases a;exact⟨_,rfl,b⟩
theorem Ow{x y:V}{us:List YP}(r:Vals [x,y] us):∃ u w',us=[u,w']/\RelV x u/\RelV y w':=by
 cases r with
 | cons d c=>
  cases c with
  | cons b a=>cases a;exact⟨_,_,rfl,d,b⟩
theorem Pq:fV X (.builtin "abs") (fun xs H Q=>∃ i,xs=[.int i]/\Q (.int (if i<0 then -i else i)) H):=by
 intro a s b H xs c Q I r h;obtain⟨i,rfl,q⟩:=h;obtain⟨u,rfl,t,rfl⟩:=kP r;exact call_abs_int fun u d=>⟨.int (if i<0 then -i else i),H,I.tok _,⟨_,rfl⟩,q⟩
end
structure n5(h:Heap)(x dx C:JY)(mA:Str->Option YP):Prop where
 obj:h.get? x=some (PySem.W.instObj C dx)
 ns:h.Ns1 dx mA
 ne:dx≠x
theorem Td{h:Heap}{f:JY}{c:Str->Option YP}(n:h.Ns1 f c):∃ od,h.get? f=some od/\∀ name,PySem.W.lookIn name od=some (c name):=by
 obtain⟨o,d,p,i,l,k,_,j⟩:=n
 refine⟨o,i,fun name=>?_⟩
 have e:=j name;unfold nsFind findBy at e;rw [<- Array.find?_toList]at e;unfold PySem.W.lookIn;rw [l];dsimp only;split
 ·rename_i y q;rw [q]at e;exact congrArg some e
 ·rename_i q;rw [q]at e
  have a:d.toList.any (·.refKey)=false:=by
   rw [List.any_eq_false];intro y g;obtain⟨z,t,b⟩:=k y (Array.mem_toList_iff.mp g)
   simp [DictEntry.refKey,b]
  have m:¬ d.toList.any (·.refKey)=true:=by rw [a];exact Qq
  rw [if_neg m];exact congrArg some e
theorem n5.look{h:Heap}{x b C:JY}{a:Str->Option YP}(I:n5 h x b C a):∃ od,PySem.W.InstAt h x (PySem.W.instObj C b) C (some od)/\∀ name,PySem.W.lookIn name od=some (a name):=
 let⟨od,ho,hl⟩:=Td I.ns
 ⟨od,⟨I.obj,rfl,rfl,ho⟩,hl⟩
section
variable {prog:J2}{w:J5}{A:Around}{E:YP->JZ->Prop}{s:JZ}{K:PySem.W.Frag}{x dx C f:JY}{mA:Str->Option YP}{name:Str}{v:YP}
theorem RO{a:Bool}{Q:YP->JZ->Prop}(X:K.In s.heap)(I:n5 s.heap x dx C mA)(f:PySem.W.plainGet K C name=true)(e:PySem.W.hasDictIn K C=true)
  (g:PySem.W.findIn K (.ref C) name=some none) (c:mA name=some v) (b:PySem.W.handedIn v=true) (h:Q v { s with toks:=s.toks+1 }):
  J1 (J3 prog w) A (getAttr (.ref x) name a) Q E s:=by
 obtain⟨i,J,d⟩:=I.look;exact PySem.W.get_value X J (PySem.W.plainGet_of f).1 (PySem.W.findObj_own e g rfl (by rw [d,c])) b h
theorem RP{pl:Sem Bool}{Q:YP × List YP->JZ->Prop}(X:K.In s.heap)(I:n5 s.heap x dx C mA)(a:PySem.W.plainGet K C name=true)
  (g:PySem.W.findIn K (.ref C) name=some (some (.ref f))) (d:PySem.W.isFn K (.ref f)=true) (c:mA name=none) (h:Q (.ref f,[.ref x]) s):
  J1 (J3 prog w) A (UP (.ref x) name pl) Q E s:=by
 obtain⟨b,J,e⟩:=I.look;exact PySem.W.method_fn X J (PySem.W.plainGet_of a).1 (PySem.W.plainGet_of a).2 g (beq_iff_eq.mp d) (by show(PySem.W.lookIn name b).map (·.isSome)=some false;rw [e,c];rfl) h
theorem VN{ns:List Str}{Q:Unit->JZ->Prop}(X:K.In s.heap)(I:n5 s.heap x dx C mA)
  (hs:PySem.W.findIn K (.ref C) "__setattr__"=some (some (.builtin "object.__setattr__"))) (m:PySem.W.plainOver K C=true) (l:PySem.W.takerIn K C name=some none) (n:PySem.W.hasDictIn K C=true)
  (k:PySem.Within mA ns) (hsz:ns.length<=sizeLine)
  (h:∀ h',n5 h' x dx C (fun y=>if y=name then some v else mA y)->Zk dx s.heap h'->Q () { s with heap:=h',toks:=s.toks+2 }):
  J1 (J3 prog w) A (setAttr (.ref x) name v) Q E s:=by
 obtain⟨t,J,z⟩:=I.look;refine PySem.W.set_plain X J hs (PySem.W.osa_open (s:={ s with toks:=s.toks+1 }) (r:=none) X J m l fun b=>?_);obtain⟨B,o,g⟩:=PySem.W.any_some n;have j:s.heap.get? x=some ⟨.ref C,some dx,.plain,#[]⟩:=I.obj;refine Qa (Qb (Qa (Qa (wpAny_loadPart j (Qa (PySem.W.Looks.here (s:={ s with toks:=s.toks+1 }) (PySem.W.looks_clsIn X o) ?_))))));rw [g];refine Qb (a:=some dx) (Qa (Qb (Qa ?_)));refine wpAny_nsSet1 (s:={ s with toks:=s.toks+1 }) I.ns fun h' d c=>?_;obtain⟨u,p,q,e,f,i⟩:=d.count (PySem.Within.cons name v k);refine Qa (wpAny_lookBehind e (by rw [f];exact pastItsLine_dict (QL i (by rw [Qt];lia))) ?_);exact Qb (h _ ⟨(c.2 _ (Z2 I.ne)).trans I.obj,d,I.ne⟩ c)
theorem Tg{R:Result->JZ->Prop}{vs:List YP}{b:List (Str × YP)}(X:K.In s.heap)(c:PySem.W.makesIn K C=true)
  (e:PySem.W.findIn K (.ref C) "__init__"=some (some (.ref f))) (i:PySem.W.typeIn K (.ref f)=some (.type "function"))
  (h:Uc (J3 prog w) (A.under (.builtin "type.__call__" ⟨.ref C::vs,b⟩)) (.call (.ref f) ⟨.ref (s.heap.objs.size+1)::vs,b⟩) (PySem.W.InitBack (s.heap.objs.size+1) R)
   { s with heap:=(s.heap.push PySem.W.emptyDict).push (PySem.W.instObj C s.heap.objs.size) }):
  Uc (J3 prog w) A (.call (.ref C) ⟨vs,b⟩) R s:=by
 obtain⟨k,g,d,t,j⟩:=s;exact PySem.W.make_core (PySem.W.makes_of X c) (PySem.W.looks_findIn X e) (fun a=>PySem.W.bind_fn X a i) (.inl rfl) h
end
def bL(f:Str)(v:V):List (Str × V)->List (Str × V)
 | []=>[(f,v)]
 | (g,x)::r=>if g=f then(g,v)::r else(g,x)::bL f v r
theorem G4(f g:Str)(v:V):∀ fs:List (Str × V),(bL f v fs).lookup g=if g=f then some v else fs.lookup g
 | []=>by
  show List.lookup g [(f,v)]=_
  by_cases h:g=f
  ·have a:(g == f)=true:=beq_iff_eq.mpr h;simp only [List.lookup,a,if_pos h]
  ·have a:(g == f)=false:=beq_eq_false_iff_ne.mpr h;simp only [List.lookup,a,if_neg h]
 | (k,x)::r=>by
  have c:=G4 f g v r;rw [show bL f v ((k,x)::r)=(if k=f then(k,v)::r else(k,x)::bL f v r)from rfl];by_cases b:k=f
  ·rw [if_pos b];by_cases h:g=k
   ·have a:(g == k)=true:=beq_iff_eq.mpr h;simp only [List.lookup,a,if_pos (h.trans b)]
   ·have a:(g == k)=false:=beq_eq_false_iff_ne.mpr h;simp only [List.lookup,a,if_neg (fun e:g=f=>h (e.trans b.symm))]
  ·rw [if_neg b];by_cases h:g=k
   ·have a:(g == k)=true:=beq_iff_eq.mpr h;simp only [List.lookup,a,if_neg (fun e:g=f=>b (h.symm.trans e))]
   ·have a:(g == k)=false:=beq_eq_false_iff_ne.mpr h;simp only [List.lookup,a];exact c
theorem BZ(f:Str)(v:V):∀ fs:List (Str × V),f∈(bL f v fs).map (·.1)/\∀ g,g∈fs.map (·.1)->g∈(bL f v fs).map (·.1)
 | []=>⟨by simp [bL],fun g h=>by simp at h⟩
 | (k,x)::r=>by
  obtain⟨c,b⟩:=BZ f v r;rw [show bL f v ((k,x)::r)=(if k=f then(k,v)::r else(k,x)::bL f v r)from rfl];by_cases a:k=f
  ·rw [if_pos a];subst a
   exact⟨by simp,fun g h=>by simpa using h⟩
  ·rw [if_neg a]
   refine⟨?_,fun g h=>?_⟩
   ·rw [Qm];exact Qf _ c
   ·rw [Qm]at h ⊢;rcases Qp.mp h with e | e
    ·exact Qp.mpr (.inl e)
    ·exact Qf _ (b g e)
theorem GV(f:Str)(v:V):∀ fs:List (Str × V),(bL f v fs).length<=fs.length+1
 | []=>by simp [bL]
 | (k,x)::r=>by
  have b:=GV f v r;rw [show bL f v ((k,x)::r)=(if k=f then(k,v)::r else(k,x)::bL f v r)from rfl];by_cases a:k=f
  ·rw [if_pos a,Qt,Qt];lia
  ·rw [if_neg a,Qt,Qt];lia
theorem kX.some_of{v:V}{o:Option YP}(r:kX (some v) o):∃ u,o=some u/\RelV v u:=by
 cases o with
 | none=>exact(show False from r).elim
 | some u=>exact⟨u,rfl,r⟩
theorem kX.none_of{o:Option YP}(r:kX none o):o=none:=by
 cases o with
 | none=>rfl
 | some u=>exact(show False from r).elim
theorem P2{v:V}{u:YP}(r:RelV v u):PySem.W.handedIn u=true:=by
 cases v with
 | non=>cases(show u=Zp from r);rfl
 | bl b=>cases(show u=ZQ b from r);rfl
 | int i=>obtain⟨t,e⟩:=(show ∃ t,u=UO i t from r);cases e;rfl
 | str x=>obtain⟨t,e⟩:=(show ∃ t,u=Value.str x t from r);cases e;rfl
 | byt b=>obtain⟨t,e⟩:=(show ∃ t,u=Value.bytes b t from r);cases e;rfl
 | flt b=>obtain⟨t,e⟩:=(show ∃ t,u=Value.float b t from r);cases e;rfl
 | ref a=>cases(show u=J4 a from r);rfl
 | ty n=>cases(show u=ZH n from r);rfl
section
variable {P:J2}{w:J5}{H H':Hp}{h h':Heap}{a C dx:JY}{fs fs':List (Str × V)}
theorem BS(b:dE P w H h)(e:H a=some (.ins C dx fs)):∃ mA,n5 h a dx C mA/\(∀ f,kX (fs.lookup f) (mA f))/\PySem.Within mA (fs.map (·.1))/\fs.length<=1000/\H dx=some (.own a):=by
 obtain⟨d,z,g,c,mA,n,r,q⟩:=(show e9 P w H h a (.ins C dx fs)from b a _ e)
 exact⟨mA,⟨c,n,g⟩,r,q,z,d⟩
end
structure fX(K:PySem.W.Frag)(C:JY):Prop where
 pg:PySem.W.plainGet K C Str.empty=true
 hd:PySem.W.hasDictIn K C=true
 po:PySem.W.plainOver K C=true
 sa:PySem.W.findIn K (.ref C) "__setattr__"=some (some (.builtin "object.__setattr__"))
theorem fX.get{K:PySem.W.Frag}{C:JY}(c:fX K C)(f:Str):PySem.W.plainGet K C f=true:=c.pg
def gU(K:PySem.W.Frag)(C:JY)(f:Str):Prop:=PySem.W.findIn K (.ref C) f=some none
theorem gU.taker{K:PySem.W.Frag}{C:JY}{f:Str}(n:gU K C f):PySem.W.takerIn K C f=some none:=by
 unfold PySem.W.takerIn;rw [show PySem.W.findIn K (.ref C) f=some none from n];rfl
structure kW(K:PySem.W.Frag)(C:JY)(m:Str)(f:JY):Prop where
 at_:PySem.W.findIn K (.ref C) m=some (some (.ref f))
 fn:PySem.W.isFn K (.ref f)=true
 kp:PySem.W.keepIn K (.ref f)=true
section
variable {X:Cx}{pins:List (JY × Obj)}{σ:St}{H:Hp}{s:JZ}{a C dx:JY}{fs:List (Str × V)}{f:Str}{v:V}{A:Around}{E:YP->JZ->Prop}
theorem PY{b:Bool}{Q:YP->JZ->Prop}(I:Inv X pins σ H s)(e:H a=some (.ins C dx fs))(c:fX X.K C)(n:gU X.K C f)(l:fs.lookup f=some v)
  (h:∀ u s',Inv X pins σ H s'->RelV v u->Q u s'):J1 (J3 X.prog X.w) A (getAttr (.ref a) f b) Q E s:=by
 obtain⟨g,O,r,_,_,_⟩:=BS I.hok e;obtain⟨u,i,d⟩:=kX.some_of (v:=v) (o:=g f) (by rw [<- l];exact r f);exact RO I.kIn O (c.get f) c.hd n i (P2 d) (h u _ (I.tok _) d)
theorem Gd{m:Str}{g:JY}{pl:Sem Bool}{Q:YP × List YP->JZ->Prop}(I:Inv X pins σ H s)(e:H a=some (.ins C dx fs))(c:fX X.K C)(k:kW X.K C m g)(l:fs.lookup m=none)
  (h:Q (.ref g,[.ref a]) s):J1 (J3 X.prog X.w) A (UP (.ref a) m pl) Q E s:=by
 obtain⟨b,O,r,_,_,_⟩:=BS I.hok e;have d:b m=none:=kX.none_of (by rw [<- l];exact r m);exact RP I.kIn O (c.get m) k.at_ k.fn d h
theorem VO{y:V}{u:YP}{Q:Unit->JZ->Prop}(I:Inv X pins σ H s)(e:H a=some (.ins C dx fs))(c:fX X.K C)(n:gU X.K C f)(F:fs.length<1000)(l:RelV y u)
  (h:∀ s',Inv X pins σ (aJ H a (.ins C dx (bL f y fs))) s'->Q () s'):J1 (J3 X.prog X.w) A (setAttr (.ref a) f u) Q E s:=by
 obtain⟨i,O,r,d,_,j⟩:=BS I.hok e
 have m:(fs.map (·.1)).length<=sizeLine:=by rw [Qi,Yj];lia
 refine VN I.kIn O c.sa c.po n.taker c.hd d m fun B O' k=>h _ ?_;have t:∃ o,B.get? dx=some o:=let⟨o,_,_,e',_⟩:=O'.ns;⟨o,e'⟩;refine I.write (x:=a) (e:=dx) (by rw [e];exact Uf) (.inr j) (fun b q v z=>(k.2 b v).trans z) t ?_
 refine⟨by rw [aZ O.ne];exact j,?_,O.ne,O'.obj,_,O'.ns,fun g=>?_,fun g p=>?_⟩
 ·have:=GV f y fs;lia
 ·show kX ((bL f y fs).lookup g) (if g=f then some u else i g)
  rw [G4];by_cases q:g=f
  ·rw [if_pos q,if_pos q];exact l
  ·rw [if_neg q,if_neg q];exact r g
 ·by_cases q:g=f
  ·rw [q];exact(BZ f y fs).1
  ·refine(BZ f y fs).2 g (d g fun z=>p ?_)
   show(if g=f then some u else i g)=none
   rw [if_neg q];exact z
theorem Inv.made(I:Inv X pins σ H s):Inv X pins σ (aJ (aJ H s.heap.objs.size (.own (s.heap.objs.size+1))) (s.heap.objs.size+1) (.ins C s.heap.objs.size []))
  { s with heap:=(s.heap.push PySem.W.emptyDict).push (PySem.W.instObj C s.heap.objs.size) }:=by
 have d:(s.heap.push PySem.W.emptyDict).get? s.heap.objs.size=some PySem.W.emptyDict:=Qz s.heap rfl
 have i:((s.heap.push PySem.W.emptyDict).push (PySem.W.instObj C s.heap.objs.size)).get? (s.heap.objs.size+1)=some (PySem.W.instObj C s.heap.objs.size):=by
  have:=Qz (s.heap.push PySem.W.emptyDict) (o:=PySem.W.instObj C s.heap.objs.size) rfl
  rwa [YD]at this
 have h:(s.heap.push PySem.W.emptyDict).Ns s.heap.objs.size (fun _=>none):=⟨PySem.W.emptyDict,#[],_,d,rfl,(fun e g=>absurd g (by simp)),fun _=>rfl⟩;have I1:=I.laid (a:=s.heap.objs.size) (o:=.own (s.heap.objs.size+1)) (h':=s.heap.push PySem.W.emptyDict) (t':=s.toks) (fun b u q=>Qh _ q) (Ql _) ⟨_,d⟩;refine I1.laid (a:=s.heap.objs.size+1) (o:=.ins C s.heap.objs.size []) (t':=s.toks) (fun b u q=>Qh _ q) (Nat.le_of_eq (YD _ _)) ?_;have c:s.heap.objs.size≠s.heap.objs.size+1:=QB (JQ _)
 refine⟨by rw [aZ c,cS],Q9 _,c,i,fun _=>none,(Heap.Ns1.of_empty h).at fun o q=>Qh _ q,fun _=>Uf,fun y f=>absurd rfl f⟩
theorem Ph{prog:J2}{w:J5}{env:Env}{e:Expr}{f:Str}{pos:Pos}{s:JZ}{Q:YP->JZ->Prop}(a:ZA e f env (Zh e env)=Zh e env)
  (h:J1 (J3 prog w) A (Zh e env) (fun o s₁=>J1 (J3 prog w) A (getAttr o f true) Q E s₁) E s):J1 (J3 prog w) A (Zh (.Attribute e f pos) env) Q E s:=
 Attribute_any_ h (by rw [arm_eval_Attribute,a])
end
def EA(K:PySem.W.Frag)(d:TE)(f:Str):TE:=fun c H Q=>d c H fun x b=>∃ a C dx fs v,x=.ref a/\b a=some (.ins C dx fs)/\fX K C/\gU K C f/\fs.lookup f=some v/\Q v b
def NF(K:PySem.W.Frag)(e d:TE)(f:Str):TS:=fun D b H=>d b H fun y g=>e b g fun x c=>∃ a C dx fs,x=.ref a/\c a=some (.ins C dx fs)/\fX K C/\gU K C f/\fs.length<1000 /\
 D.nx b (aJ c a (.ins C dx (bL f y fs)))
section
variable {X:Cx}{o e value:Expr}{f:Str}{pos pos' tpos:Pos}{ta tv:TE}
theorem gN(he:PE X e ta)(k:ZA e f X.env (Zh e X.env)=Zh e X.env):PE X (.Attribute e f pos) (EA X.K ta f):=by
 intro b s d H Q I h;refine Ph k (bC (he b s d H _ I h) fun u z g=>?_);obtain⟨x,t,r,i,a,C,A,fs,v,m,o,c,n,l,q⟩:=g;subst m
 obtain rfl:u=J4 a:=i
 exact PY r o c n l fun w y p j=>⟨v,t,p,j,q⟩
theorem l6(p:PE X o ta)(m:PE X value tv)(hs:Zw value (some (.Attribute o f pos')) pos.line X.env=pure false):PS X (.Assign [.Attribute o f pos'] value pos) (NF X.K ta tv f):=by
 intro b s d H D I h;refine plainObj_wpAny_Assign_Attribute (bC (m b s d H _ I h) fun u e ⟨y,A,z,g,q⟩=>bC (p b e d A _ z q) fun k E ⟨x,G,w,i,a,C,F,fs,r,t,c,n,l,j⟩=>?_) hs;subst r
 obtain rfl:k=J4 a:=i
 exact VO w t c n l g fun B v=>⟨d,_,v,j⟩
end
section
variable {X:Cx}{pins:List (JY × Obj)}{σ:St}{H:Hp}{s:JZ}{A:Around}{E:YP->JZ->Prop}{Q:YP->JZ->Prop}{c:YP}{b:Bool}
end
structure cM(k:Nat)(A:Around):Prop where
 hd:A.handled=none
 dp:A.depth+3 * k+5<recursionLimit
 un:A.units+16 * k+200<Zc
 gd:A.guards=some []
theorem cM.mono{j k:Nat}{A:Around}(r:cM k A)(h:j<=k):cM j A:=⟨r.hd,by have:=r.dp;lia,by have:=r.un;lia,r.gd⟩
theorem cM.deeper{k:Nat}{A:Around}(r:cM (k+1) A)(env:Env):cM k (A.deeper env):=
 ⟨r.hd,by have:=r.dp;show A.depth+1+3 * k+5<_;lia,by have:=r.un;show A.units+3+16 * k+200<_;lia,r.gd⟩
theorem Tf{A:Around}{C:JY}{us:List YP}{a:List (Str × YP)}:(A.under (.builtin "type.__call__" ⟨.ref C::us,a⟩)).depth=A.depth+1:=by
 first | rfl | simp [Around.under,Code.weight,Code.isCreation,Code.isGuard,Code.isCaller,Code.frames,Code.isFrame,guardIds]
theorem Th{A:Around}{C:JY}{us:List YP}{a:List (Str × YP)}:(A.under (.builtin "type.__call__" ⟨.ref C::us,a⟩)).units=A.units+1:=by
 first | rfl | simp [Around.under,Code.cUnits,Code.frames,Code.isFrame]
theorem cM.make{k:Nat}{A:Around}(r:cM (k+1) A)(C:JY)(us:List YP)(a:List (Str × YP)):cM k (A.under (.builtin "type.__call__" ⟨.ref C::us,a⟩)):=
 ⟨r.hd,by have:=r.dp;rw [Tf];lia,by have:=r.un;rw [Th];lia,by first | exact r.gd | simpa [Around.under,Code.guards,Code.isGuard,pushGuards,guardIds]using r.gd⟩
theorem cM.depth{k:Nat}{A:Around}(r:cM k A):A.depth<recursionLimit:=by have:=r.dp;lia
def EB:TA:=fun _ H Q=>Q [] H
def N4(d:TE)(c:TA):TA:=fun a H Q=>d a H fun x f=>c a f fun b e=>Q (x::b) e
section
variable {X:Cx}{e:Expr}{es:List Expr}{te:TE}{t:TA}{pos:Pos}
theorem dC:PA X [] EB:=fun _ _ _ _ H Q I h=>Calls.spliced_nil ⟨[],H,I,.nil,h⟩
theorem cL(n:PE X e te)(m:PA X es t)(hs:J0 (e::es) X.env=(false,Zh e X.env)::J0 es X.env:=by rfl):PA X (e::es) (N4 te t):=by
 intro b a s c H Q I h;rw [hs]
 show J1 _ _ (spliced ((false,Zh e X.env)::Zn b (J0 es X.env))) _ _ s
 refine Calls.spliced_cons (bC (n a s c H _ I h) fun u g d=>?_);obtain⟨x,r,p,j,l⟩:=d;exact bC (m b a g c r _ p l) fun v w ⟨f,q,o,i,k⟩=>⟨x::f,q,o,.cons j i,k⟩
def Op(t:TA):TE:=fun c H Q=>t c H fun a b=>a.length<=sizeLine/\∀ p,b p=none->Q (.ref p) (aJ b p (.tup a))
def Oc(t:TA):TE:=fun c H Q=>t c H fun a b=>a.length<=sizeLine/\∀ p,b p=none->Q (.ref p) (aJ b p (.lst a))
theorem IR{x1}(h:PA X es t):PE X (.Tuple es x1 pos) (Op t):=by
 intro a s f H Q I j;refine wpAny_Tuple_spliced (bC (h pos a s f H _ I j) fun i c ⟨g,d,I1,r,z,q⟩=>⟨by rw [<- r.length];exact z,?_⟩);have k:d c.heap.objs.size=none:=I1.hok.fresh (Ql _)
 refine⟨.ref c.heap.objs.size,aJ d c.heap.objs.size (.tup g),I1.laid (t':=c.toks) (fun b u e=>Qh _ e) (Ql _) ?_,rfl,q _ k⟩
 exact⟨z,i,r,⟨_,Qz _ rfl,rfl,_,rfl⟩⟩
theorem qT(h:PA X es t):PE X (.List es pos) (Oc t):=by
 intro a s f H Q I j;refine wpAny_List_spliced (bC (h pos a s f H _ I j) fun i c ⟨g,d,I1,r,z,q⟩=>⟨by rw [<- r.length];exact z,?_⟩);have k:d c.heap.objs.size=none:=I1.hok.fresh (Ql _)
 refine⟨.ref c.heap.objs.size,aJ d c.heap.objs.size (.lst g),I1.laid (t':=c.toks) (fun b u e=>Qh _ e) (Ql _) ?_,rfl,q _ k⟩
 exact⟨z,i,0,r,Qz _ rfl⟩
end
abbrev Sp:=List V->Hp->VK->XK->Prop
abbrev iT:=List Env->Hp->JZ->XK->YP->JZ->Prop
structure n4(P:J2)(w:J5)(K:PySem.W.Frag)(mg:Str->Option YP)(base:Heap)(A:Around)(outer:List Env)(s:JZ)(H:Hp):Prop where
 frames:A.frames=some outer
 mod:Mod K mg base
 bs:∀ b o,base.get? b=some o->s.heap.get? b=some o/\H b=none
 bsz:base.objs.size<=s.heap.objs.size
 funs:s.heap.FunFrames base outer
 frf:∀ b∈jH outer,H b=none
 hok:dE P w H s.heap
 bare:UU s.gens
def CE(outer:List Env)(P:J2)(w:J5)(H:Hp)(s:JZ)(Q:VK)(u:YP)(a:JZ):Prop:=
 ∃ v H',a.os=s.os/\UU a.gens/\Un (jH outer) [] H H' s.heap a.heap/\dE P w H' a.heap/\RelV v u/\Q v H'
def CR(CX:iT)(outer:List Env)(P:J2)(w:J5)(H:Hp)(s:JZ)(Q:VK)(E:XK)(r:Result)(a:JZ):Prop:=
 match r with
 | .ok (.ret u)=>CE outer P w H s Q u a
 | .ok _=>False
 | .error e=>CX outer H s E e a
structure aM(P:J2)(w:J5)(K:PySem.W.Frag)(mg:Str->Option YP)(base:Heap)(CX:iT)(k:Nat)(f:JY)(fd:J6)(ps:List Str)(sp:Sp):Prop where
 len:∀ vs H Q E,sp vs H Q E->vs.length=ps.length
 run:∀(A:Around) (outer:List Env) (s:JZ) (H:Hp) (args:Args) (us:List YP) (vs:List V) (Q:VK) (E:XK),cM k A->n4 P w K mg base A outer s H->BindsTo s fd args (ps.zip us)->Vals vs us->sp vs H Q E->
  Uc (J3 P w) A (.call (.ref f) args) (CR CX outer P w H s Q E) s
theorem aM.imp{P:J2}{w:J5}{K:PySem.W.Frag}{c:Str->Option YP}{base:Heap}{CX:iT}{k:Nat}{f:JY}{d:J6}{ps:List Str}{sp sp':Sp}(F:aM P w K c base CX k f d ps sp)
  (h:∀ vs H Q E,sp' vs H Q E->sp vs H Q E):aM P w K c base CX k f d ps sp':=
 ⟨fun vs H Q E q=>F.len vs H Q E (h _ _ _ _ q),fun A a s H b e vs Q E j l m g i=>F.run A a s H b e vs Q E j l m g (h _ _ _ _ i)⟩
theorem n4.make{P:J2}{w:J5}{K:PySem.W.Frag}{a:Str->Option YP}{base:Heap}{A:Around}{outer:List Env}{s:JZ}{H:Hp}(e:n4 P w K a base A outer s H)(C:JY)(us:List YP)(b:List (Str × YP)):
  n4 P w K a base (A.under (.builtin "type.__call__" ⟨.ref C::us,b⟩)) outer s H:=⟨by first | exact e.frames | (simpa [Around.under,Code.envs,Code.isFrame,pushEnvs]using e.frames),e.mod,e.bs,e.bsz,e.funs,e.frf,e.hok,e.bare⟩
section
variable {X:Cx}{pins:List (JY × Obj)}{σ:St}{H:Hp}{s s':JZ}
theorem Inv.env0(I:Inv X pins σ H s):n4 X.prog X.w X.K X.mg X.base X.A X.stack s H:=
 ⟨I.ok.frames,I.ok.mod,I.bs,QL I.ok.bsz I.sz,I.stack,I.stkFree,I.hok,I.bare⟩
theorem Inv.after{Q:VK}{u:YP}(I:Inv X pins σ H s)(h:CE X.stack X.prog X.w H s Q u s'):EP X pins σ Q u s':=by
 obtain⟨v,i,os,a,un,e,r,q⟩:=h;obtain⟨f,g,d,t,c⟩:=s'
 obtain rfl:c=s.os:=os
 exact⟨v,i,I.call (h':=f) (g':=g) (d':=d) (t':=t) (ch:=[]) un e a (fun b z=>absurd z (by simp)),r,q⟩
end
def N3(sp:Sp)(a:List V)(E:XK)(t:TA):TE:=fun b H Q=>t b H fun c d=>sp (c++a) d Q E
def Lp(C:JY)(m:Str)(sp:Sp)(b:List V)(E:XK)(f:TE)(t:TA):TE:=fun c H Q=>f c H fun x d=>∃ a dx fs,x=.ref a/\d a=some (.ins C dx fs)/\fs.lookup m=none /\
 t c d fun e g=>sp (x::(e++b)) g Q E
def Od(C:JY)(sp:Sp)(a:List V)(E:XK)(t:TA):TE:=fun c H Q=>t c H fun d b=>∀ x dx,b x=none->b dx=none->dx≠x->
 sp (.ref x::(d++a)) (aJ (aJ b dx (.own x)) x (.ins C dx [])) (fun v e=>v=.non/\Q (.ref x) e) E
def Binds(K:PySem.W.Frag)(a:J6)(ps:List Str)(ds:List YP):Prop:=
 ∀(s:JZ) (us:List YP),K.In s.heap->(us++ds).length=ps.length->BindsTo s a ⟨us,[]⟩ (ps.zip (us++ds))
theorem Binds.all{K:PySem.W.Frag}{b:J6}{ps:List Str}(h:∀ us:List YP,us.length=ps.length->ZU b ⟨us,[]⟩=pure (ps.zip us)):Binds K b ps []:=fun s us _ a=>by
 rw [QR]at a ⊢;exact .of_eq (h us a)
def oW(CX:iT)(X:Cx)(E:XK):Prop:=∀(pins:List (JY × Obj)) (σ:St) (H:Hp) (s:JZ) (e:YP) (s':JZ),Inv X pins σ H s->CX X.stack H s E e s'->X.xe e s'
section
variable {X:Cx}{CX:iT}{k:Nat}{f C:JY}{fd:J6}{ps:List Str}{sp:Sp}{dvs:List V}{ds:List YP}{E:XK}{x m:Str}{p pos apos:Pos}{e o:Expr}{es:List Expr}{ta:TE}{t:TA}
theorem Da{a:List (JY × Obj)}{c:St}{H:Hp}{s:JZ}{Q:VK}{us:List YP}{vs:List V}(F:aM X.prog X.w X.K X.mg X.base CX k f fd ps sp)(j:cM k X.A)(n:Binds X.K fd ps ds)(m:Vals dvs ds)(i:oW CX X E)
  (I:Inv X a c H s) (r:Vals vs us) (h:sp (vs++dvs) H Q E):J1 (J3 X.prog X.w) X.A (call (.ref f) us) (EP X a c Q) X.xe s:=by
 have d:Vals (vs++dvs) (us++ds):=r.append m
 have l:(us++ds).length=ps.length:=by rw [<- d.length];exact F.len _ _ _ _ h
 refine wpAny_call (JA (F.run X.A X.stack s H ⟨us,[]⟩ (us++ds) (vs++dvs) Q E j I.env0 (n s us I.kIn l) d h) fun r g b=>?_)
 cases r with
 | error e=>exact i a c H s e g I b
 | ok fl=>
  cases fl with
  | ret u=>exact I.after b
  | next=>exact ZE b
  | brk=>exact ZE b
  | cont=>exact ZE b
theorem jR(F:aM X.prog X.w X.K X.mg X.base CX k f fd ps sp)(g:cM k X.A)(l:Gl X x)(i:X.mg x=some (.ref f))(j:PySem.W.keepIn X.K (.ref f)=true)(n:Binds X.K fd ps ds)(m:Vals dvs ds)(d:oW CX X E)
  (o:PA X (e::es) t) (b:(x == ("__debug__":Str))=false:=by decide) (he:J0 (e::es) X.env=(false,Zh e X.env)::J0 es X.env:=by rfl) (hpl:(Zn pos (J0 es X.env)).any (·.1)=false:=by rfl):
  PE X (.Call (.Name x p) (e::es) [] pos) (N3 sp dvs E t):=by
 intro a s c H Q I h;refine Je (HK I l i ?_ b);refine PySem.W.callWith_K (h₀:=X.base) I.ok.mod.kin j (bC (o pos a s c H _ I h) fun v y ⟨u,z,I1,r,q⟩=>⟨I1.kIn,?_⟩) he hpl;exact Da F g n m d I1 r q
theorem qU{pl:Sem Bool}(he:PE X o ta)(c:fX X.K C)(i:kW X.K C m f)(F:aM X.prog X.w X.K X.mg X.base CX k f fd ps sp)(B:cM k X.A)(J:Binds X.K fd ps ds)(G:Vals dvs ds)(y:oW CX X E)(M:PA X (e::es) t)
  (d:J0 (e::es) X.env=(false,Zh e X.env)::J0 es X.env:=by rfl) (hpl:(Zn pos (J0 es X.env)).any (·.1)=false:=by rfl)
  (z:Zh (.Call (.Attribute o m apos) (e::es) [] pos) X.env=(do
   let ov <- Zh o X.env
   standAt apos.atName
   let(f,first) <- UC [ov] (UP ov m pl)
   callWith pos f first (Zn pos (J0 (e::es) X.env)) (Z5 pos (ZG [] X.env))):=by rfl):
  PE X (.Call (.Attribute o m apos) (e::es) [] pos) (Lp C m sp dvs E ta t):=by
 intro b s g H Q I h;refine PySem.W.methodCall_KW (pl:=pl) (bC (he b s g H _ I h) fun u n ⟨x,R,j,p,a,T,fs,N,O,l,q⟩=>?_) z;subst N
 obtain rfl:u=J4 a:=p
 refine Gd j O c i l ?_;refine PySem.W.callWith_K (first:=[.ref a]) (h₀:=X.base) I.ok.mod.kin i.kp (bC (M pos b n g R _ j q) fun us S ⟨vs,U,I2,r,v⟩=>⟨I2.kIn,?_⟩) d hpl;exact Da (us:=.ref a::us) (vs:=.ref a::vs) F B J G y I2 (.cons rfl r) v
theorem TF{pl:Sem Bool}(he:PE X o ta)(c:fX X.K C)(d:kW X.K C m f)(F:aM X.prog X.w X.K X.mg X.base CX k f fd ps sp)(n:cM k X.A)(r:Binds X.K fd ps ds)(p:Vals dvs ds)(i:oW CX X E)
  (j:Zh (.Call (.Attribute o m apos) [] [] pos) X.env=(do
   let ov <- Zh o X.env
   standAt apos.atName
   let(f,first) <- UC [ov] (UP ov m pl)
   callWith pos f first (Zn pos (J0 [] X.env)) (Z5 pos (ZG [] X.env))):=by rfl):
  PE X (.Call (.Attribute o m apos) [] [] pos) (Lp C m sp dvs E ta EB):=by
 intro b s e H Q I h;refine PySem.W.methodCall_KW (pl:=pl) (bC (he b s e H _ I h) fun u y ⟨x,B,I1,g,a,z,fs,t,v,l,q⟩=>?_) j;subst t
 obtain rfl:u=J4 a:=g
 refine Gd I1 v c d l ?_;exact PySem.W.callWith_K0 (first:=[.ref a]) I1.kIn d.kp (Da (us:=[.ref a]) (vs:=[.ref a]) F n r p i I1 (.cons rfl .nil) q)
structure Mk(K:PySem.W.Frag)(C f:JY):Prop where
 makes:PySem.W.makesIn K C=true
 init:PySem.W.findIn K (.ref C) "__init__"=some (some (.ref f))
 fn:PySem.W.isFn K (.ref f)=true
 kp:PySem.W.keepIn K (.ref C)=true
theorem Wq{a:List (JY × Obj)}{c:St}{H:Hp}{s:JZ}{Q:VK}{us:List YP}{vs:List V}(M:Mk X.K C f)(F:aM X.prog X.w X.K X.mg X.base CX k f fd ps sp)(n:cM (k+1) X.A)(q:Binds X.K fd ps ds)(p:Vals dvs ds)
  (m:oW CX X E) (I:Inv X a c H s) (r:Vals vs us)
  (h:∀ x dx,H x=none->H dx=none->dx≠x->sp (.ref x::(vs++dvs)) (aJ (aJ H dx (.own x)) x (.ins C dx [])) (fun v H2=>v=.non/\Q (.ref x) H2) E):
  J1 (J3 X.prog X.w) X.A (call (.ref C) us) (EP X a c Q) X.xe s:=by
 have g:=h (s.heap.objs.size+1) s.heap.objs.size (I.hok.fresh (Nat.le_succ _)) (I.hok.fresh (Ql _)) (QB (JQ _));have I2:=Inv.made (C:=C) I;have d:Vals (V.ref (s.heap.objs.size+1)::(vs++dvs)) (J4 (s.heap.objs.size+1)::(us++ds)):=.cons rfl (r.append p)
 have o:(J4 (s.heap.objs.size+1)::us++ds).length=ps.length:=by
  have e:=d.length;rw [F.len _ _ _ _ g]at e;exact e.symm
 refine wpAny_call (Tg (f:=f) I.kIn M.makes M.init (beq_iff_eq.mp M.fn) (JA (F.run _ X.stack _ _ ⟨J4 (s.heap.objs.size+1)::us,[]⟩ (J4 (s.heap.objs.size+1)::(us++ds)) _ _ E (n.make C us [])
  (I2.env0.make C us []) (q _ (J4 (s.heap.objs.size+1)::us) I2.kIn o) d g) fun r i b=>?_))
 cases r with
 | error e=>exact m a c _ _ e i I2 b
 | ok fl=>
  cases fl with
  | ret u=>
   obtain⟨v,z,y,j,t,l⟩:=I2.after b;subst t
   exact⟨j,⟨V.ref (s.heap.objs.size+1),z,y,rfl,l⟩⟩
  | next=>exact ZE b
  | brk=>exact ZE b
  | cont=>exact ZE b
theorem TD(M:Mk X.K C f)(F:aM X.prog X.w X.K X.mg X.base CX k f fd ps sp)(g:cM (k+1) X.A)(j:Gl X x)(i:X.mg x=some (.ref C))(m:Binds X.K fd ps ds)(l:Vals dvs ds)(d:oW CX X E)
  (n:PA X (e::es) t) (b:(x == ("__debug__":Str))=false:=by decide) (he:J0 (e::es) X.env=(false,Zh e X.env)::J0 es X.env:=by rfl) (hpl:(Zn pos (J0 es X.env)).any (·.1)=false:=by rfl):
  PE X (.Call (.Name x p) (e::es) [] pos) (Od C sp dvs E t):=by
 intro a s c H Q I h;refine Je (HK I j i ?_ b);refine PySem.W.callWith_K (h₀:=X.base) I.ok.mod.kin M.kp (bC (n pos a s c H _ I h) fun u v ⟨o,y,I1,r,q⟩=>⟨I1.kIn,?_⟩) he hpl;exact Wq M F g m l d I1 r q
end
section
variable {X:Cx}{CX:iT}{k:Nat}{f C:JY}{fd:J6}{ps ks:List Str}{sp:Sp}{E:XK}{x m:Str}{p pos apos kpos:Pos}{e o:Expr}{es:List Expr}{kws:List Ud}{te ta:TE}{t tk:TA}{nm:Option Str}
variable {g:List YP->List YP->List YP}{gV:List V->List V->List V}
end
structure bR(N P:List Str)(sc:ZX):Prop where
 kind:sc.kind=.function
 co:sc.isCoroutine=false
 gen:sc.isGenerator=false
 nd:N.Nodup
 pre:N.take P.length=P
 par:∀ x∈P,sc.names.lookup x=some .local ∨ sc.names.lookup x=some .cell
 nofree:∀ y∈sc.names,y.2≠.free
theorem EQ{a:Str->Option UG}{x:Str}:∀{binds:List (Str × YP)}{m:Str->Option YP},(∀ v,(x,v)∉binds)->bindL a binds m x=m x
 | [],_,_=>rfl
 | (n,v)::r,m,h=>by
  unfold bindL;rw [EQ fun w b=>h w (Qf _ b)];split
  ·have:x≠n:=by rintro rfl;exact h v Qo
   simp [this]
  ·rfl
theorem EN{a:Str->Option UG}{x:Str}:∀{binds:List (Str × YP)}{m:Str->Option YP},(∀ v,(x,v)∉binds)->bindC a binds m x=m x
 | [],_,_=>rfl
 | (n,v)::r,m,h=>by
  unfold bindC;rw [EN fun w b=>h w (Qf _ b)];split
  ·rfl
  ·have:x≠n:=by rintro rfl;exact h v Qo
   simp [this]
theorem EO{a:Str->Option UG}{x:Str}{v:YP}:∀{P:List Str}{vs:List YP}{i:Nat}{m:Str->Option YP},P.Nodup->P[i]?=some x->vs[i]?=some v->a x=some .local->
  bindL a (P.zip vs) m x=some v
 | [],_,_,_,_,h,_,_=>by simp at h
 | _::_,[],_,_,_,_,h,_=>by simp at h
 | p::P,w::vs,0,m,nd,h1,h2,hk=>by
  simp at h1 h2;subst h1;subst h2
  show bindL a ((p,w)::P.zip vs) m p=_
  unfold bindL;rw [EQ fun v b=>(Ye.mp nd).1 (List.of_mem_zip b).1,if_pos hk];simp
 | p::P,w::vs,i+1,m,nd,h1,h2,hk=>by
  show bindL a ((p,w)::P.zip vs) m x=_
  unfold bindL;exact EO (i:=i) (Ye.mp nd).2 (by simpa using h1) (by simpa using h2) hk
theorem EM{a:Str->Option UG}{x:Str}{v:YP}:∀{P:List Str}{vs:List YP}{i:Nat}{m:Str->Option YP},P.Nodup->P[i]?=some x->vs[i]?=some v->a x≠some .local->
  bindC a (P.zip vs) m x=some v
 | [],_,_,_,_,h,_,_=>by simp at h
 | _::_,[],_,_,_,_,h,_=>by simp at h
 | p::P,w::vs,0,m,nd,h1,h2,hk=>by
  simp at h1 h2;subst h1;subst h2
  show bindC a ((p,w)::P.zip vs) m p=_
  unfold bindC;rw [EN fun v b=>(Ye.mp nd).1 (List.of_mem_zip b).1,if_neg hk];simp
 | p::P,w::vs,i+1,m,nd,h1,h2,hk=>by
  show bindC a ((p,w)::P.zip vs) m x=_
  unfold bindC;exact EM (i:=i) (Ye.mp nd).2 (by simpa using h1) (by simpa using h2) hk
def start(N:List Str)(vs:List V):St:=vs.map some++List.replicate (N.length-vs.length) none
def kY(CX:iT)(P:J2)(w:J5)(K:PySem.W.Frag)(mg:Str->Option YP)(base:Heap)(N:List Str)(a:Str)(scope:ZX)(f:JY)(c:YP)(A:Around)(outer:List Env)(s:JZ)(H:Hp)(E:XK):Cx where
 prog:=P
 w:=w
 K:=K
 mg:=mg
 base:=base
 A:=A.deeper (UL a scope s.heap.objs.size f c)
 N:=N
 s₀:=s
 H₀:=H
 env:=UL a scope s.heap.objs.size f c
 outer:=outer
 stack:=UL a scope s.heap.objs.size f c::outer
 ex:=[]
 calm:=true
 fn:=fun _=>true
 pn:=[]
 xe:=fun e d=>J1 (J3 P w) (A.deeper (UL a scope s.heap.objs.size f c)) (leaving (UL a scope s.heap.objs.size f c) e) (fun _ b=>CX outer H s E e b) (fun g b=>CX outer H s E g b) d
theorem Gf{a:ZX}{n:Nat}{x:Str}(h:a.names.lookup x=some .cell):∃ c,(cellsFrom n a.names []).lookup x=some c:=by
 have q:=PySem.W.cellsFrom_some a.names n [] (.inl h);exact Option.isSome_iff_exists.mp q
theorem Ra{CX:iT}{P:J2}{w:J5}{K:PySem.W.Frag}{I:Str->Option YP}{base:Heap}{N ps:List Str}{d:Str}{scope:ZX}{f:JY}{G:YP}{A:Around}{outer:List Env}{s s1:JZ}{H:Hp}{E:XK}{us:List YP}{vs:List V}
  (S:bR N ps scope) (R:A.handled=none) (j:n4 P w K I base A outer s H) (X:vs.length=ps.length) (r:Vals vs us)
  (x:InCallC s s.heap.objs.size (bindL (UL d scope s.heap.objs.size f G).kindOf (ps.zip us) fun _=>none) (cellsFrom (s.heap.objs.size+1) scope.names []) (bindC (UL d scope s.heap.objs.size f G).kindOf (ps.zip us) fun _=>none) s1):
  Inv (kY CX P w K I base N d scope f G A outer s H E) [] (start N vs) H s1:=by
 have Q:ps.length<=N.length:=by have:=congrArg List.length S.pre;rw [QS]at this;lia
 obtain⟨F,U,rfl,M⟩:=x.done;have l:∀ b:JY,b∉(kY CX P w K I base N d scope f G A outer s H E).ex:=fun b z=>absurd (show b∈([]:List JY)from z) (by simp)
 refine⟨⟨j.mod,S.kind,rfl,rfl,Ql _,fun y z c F g=>?_,fun y m=>?_,fun y c _ h=>?_,fun _=>R,Around.frames_deeper j.frames,.inr ⟨rfl,rfl⟩,fun b z=>absurd z (l b),j.bs,j.bsz,fun b _ _=>l b,fun b z=>absurd z (l b),j.funs,j.frf⟩,
  rfl,j.bare,Un.kept M,⟨_,x.toInCall.ns,fun i y v F g Y=>?_⟩,fun y c h=>⟨_,x.cell y c h⟩,j.hok.fresh (Ql _),fun y c h=>?_,fun p t=>absurd (show p∈([]:List (JY × Obj))from t) (by simp),j.hok.kept M,?_⟩
 ·exact name_of_addr x.apart (PySem.mem_of_lookup F) (PySem.mem_of_lookup g)
 ·have m:scope.names.lookup y=some .cell ∨ scope.names.lookup y=some .free:=m;rcases m with m | m
  ·exact Gf m
  ·exact absurd rfl (S.nofree _ (PySem.mem_of_lookup m))
 ·exact Y2 (x.above y c (PySem.mem_of_lookup h))
 ·have B:i<vs.length:=by
   unfold start at g;by_cases B:i<vs.length
   ·exact B
   ·rw [QI (by simpa using B)]at g;rw [YJ]at g
    split at g <;> cases g
  have T:vs[i]?=some v:=by
   unfold start at g;rw [QQ (by simpa using B),QF]at g
   cases e:vs[i]? with
   | none=>rw [e]at g;cases g
   | some a=>rw [e]at g;cases g;rfl
  obtain⟨u,J,O⟩:=r.get T
  have t:ps[i]?=some y:=by
   rw [<- S.pre,List.getElem?_take_of_lt (by lia)];exact F
  have o:ps.Nodup:=by rw [<- S.pre];exact S.nd.sublist (List.take_sublist _ _)
  refine⟨u,O,?_⟩
  rcases S.par y (QP t)with k | k
  ·exact .inl ⟨k,EO o t J k⟩
  ·obtain⟨c,e⟩:=Gf (n:=s.heap.objs.size+1) k;refine .inr ⟨.inl k,c,e,?_⟩;have q:=x.cell y c e;rw [EM o t J (by show scope.names.lookup y≠_;rw [k];decide)]at q;exact q
 ·exact j.hok.fresh (Y2 (x.above y c (PySem.mem_of_lookup h)))
 ·unfold start
  show _=N.length
  rw [Qd,Qi,List.length_replicate];lia
theorem L6{CX:iT}{P:J2}{w:J5}{K:PySem.W.Frag}{B:Str->Option YP}{base:Heap}{k:Nat}{f:JY}{name a:Str}{d:Arguments}{g:List Zm}{scope:ZX}{U kV z T c ct oc:YP}{Y od:Option JY}
  {G:Array (Option YP)}{N ps:List Str}{sp:Sp} (lk:K.lookup f=some ⟨oc,od,.func (PySem.W.fnOf name a d g scope U kV z T Y c ct),G⟩) (R:PySem.W.codeIn K c a=true) (S:bR N ps scope)
  (len:∀ vs H Q E,sp vs H Q E->vs.length=ps.length)
  (j:∀(A:Around) (outer:List Env) (s:JZ) (H:Hp) (vs:List V) (Q:VK) (E:XK),cM k (A.deeper (UL a scope s.heap.objs.size f c))->sp vs H Q E->
   ∃ t,gH (kY CX P w K B base N a scope f c A outer s H E) g t/\t { nx:=fun _ H'=>Q .non H',rt:=Q } (start N vs) H):
  aM P w K B base CX (k+1) f (PySem.W.fnOf name a d g scope U kV z T Y c ct) ps sp:=by
 refine⟨len,fun A outer s H X us vs Q E O p hb r m=>?_⟩
 have hl:=len _ _ _ _ m;have Z:K.In s.heap:=p.mod.kin.keeps fun b o e=>(p.bs b o e).1;have M:s.heap.NoLimit:=p.mod.nolimit.keeps fun b o e=>(p.bs b o e).1
 have i:∀ y∈ps.zip us,scope.names.lookup y.1=some .local ∨ (scope.names.lookup y.1=some .cell/\((cellsFrom (s.heap.objs.size+1) scope.names []).lookup y.1).isSome=true):=fun zz hy=>by
  obtain⟨n,v⟩:=zz;rcases S.par n (List.of_mem_zip hy).1 with q | q
  ·exact .inl q
  ·exact .inr ⟨q,PySem.W.cellsFrom_some _ _ _ (.inl q)⟩
 refine codeAny_call_function O.depth (Z _ _ lk) rfl S.co S.gen rfl (PySem.W.codeRec_of Z R) (hb _ _ _ _ ?_);refine wpAny_newFunctionEnv_cells S.kind i fun a0 he s1 x=>?_;subst he
 refine⟨M.keeps x.toInCall.keep,codeAny_func ?_⟩
 obtain⟨t,ht,hq⟩:=j A outer s H vs Q E (O.deeper _) m;have I:Inv (kY CX P w K B base N a scope f c A outer s H E) [] (start N vs) H s1:=Ra S O.hd p hl r x;refine Y6 (ht [] s1 (start N vs) H _ I hq) (fun fl s' l=>?_) fun e s' l=>l
 have fin:∀{h:St}{H':Hp}{v:V}{u:YP},Inv (kY CX P w K B base N a scope f c A outer s H E) [] h H' s'->RelV v u->Q v H'->CE outer P w H s Q u s':=
  fun{h H' v u} J F q=>⟨v,H',J.os,J.bare,J.base,J.hok,F,q⟩
 cases fl with
 | ret u=>
  obtain⟨v,h,H',J,F,q⟩:=l;exact fin J F q
 | next=>
  obtain⟨h,H',J,q⟩:=l;exact fin (v:=V.non) (u:=Zp) J rfl q
 | brk=>
  obtain⟨_,_,_,q⟩:=l;exact ZE q
 | cont=>
  obtain⟨_,_,_,q⟩:=l;exact ZE q
section
variable {X:Cx}{x:Str}{p pos:Pos}{e:Expr}{es:List Expr}{t:TA}{id T:String}{r:List V->Hp->VK->Prop}
def AU(r:List V->Hp->VK->Prop)(t:TA):TE:=fun a H Q=>t a H fun b c=>r b c Q
theorem xV(o:fV X (.builtin id) r)(n:Gl X x)(m:X.mg x=none)(k:Zs x=some (.builtin id))(q:PA X (e::es) t)(l:x≠"__name__":=by decide)(b:(x == ("__debug__":Str))=false:=by decide)
  (he:J0 (e::es) X.env=(false,Zh e X.env)::J0 es X.env:=by rfl) (hpl:(Zn pos (J0 es X.env)).any (·.1)=false:=by rfl):PE X (.Call (.Name x p) (e::es) [] pos) (AU r t):=by
 intro a s c H Q I h;refine Je (nQ I n m k ?_ l b);exact PyProof.Rows.callWith_builtin1 (bC (q pos a s c H _ I h) fun f g ⟨d,v,u,i,j⟩=>o a g c v d f Q u i j) he hpl
theorem BD(o:fV X (.type T) r)(n:Gl X x)(m:X.mg x=none)(k:Zs x=some (.type T))(q:PA X (e::es) t)(l:x≠"__name__":=by decide)(b:(x == ("__debug__":Str))=false:=by decide)
  (he:J0 (e::es) X.env=(false,Zh e X.env)::J0 es X.env:=by rfl) (hpl:(Zn pos (J0 es X.env)).any (·.1)=false:=by rfl):PE X (.Call (.Name x p) (e::es) [] pos) (AU r t):=by
 intro a s c H Q I h;refine Je (nQ I n m k ?_ l b);exact YM (bC (q pos a s c H _ I h) fun f g ⟨d,v,u,i,j⟩=>o a g c v d f Q u i j) he hpl
end
end L2
namespace HT
open PySem PyProof.Rows
def lexLt:List Int->List Int->Bool
 | [],[]=>false
 | [],_::_=>true
 | _::_,[]=>false
 | x::xs,y::ys=>if x=y then lexLt xs ys else decide (x<y)
theorem lexLt_cons(x y:Int)(xs a:List Int):lexLt (x::xs) (y::a)=if x=y then lexLt xs a else decide (x<y):=rfl
theorem SY:lexLt [] []=false:=rfl
theorem SX(y:Int)(a:List Int):lexLt [] (y::a)=true:=rfl
theorem SW(x:Int)(xs:List Int):lexLt (x::xs) []=false:=rfl
theorem RB(A:Around)(s:JZ)(a:Int)(t:Tok)(c:Int)(u:Tok):∃ e,SeqAt.EqAt A s (.int a t) (.int c u) e/\(e=true ↔ a=c):=
 ⟨(a == c),SeqAt.EqAt.int_int a t c u,by simp⟩
theorem rcLt_int(A:Around)(s:JZ)(a:Int)(t:Tok)(c:Int)(u:Tok)(prog:J2)(w:J5)(E:YP->JZ->Prop)(Q:YP->JZ->Prop)(h:Q (.bool (decide (a<c))) s):
  J1 (J3 prog w) A (richCompare .Lt (.int a t) (.int c u)) Q E s:=
 (PyProof.Rows.lt_int h:J1 (J3 prog w) A (Ze .Lt (.int a t) (.int c u)) Q E s)
section
open PySem.SeqAt
open PySem.AutoSeq1 (wpAny_loadPart')
open PySem.MeetsSeq PySem.MeetsSeq2 PySem.MeetsSeq3
theorem WJ(l b:JY)(i f:Array YP)(n n2:Nat)(dd U:Option JY)(Z Q:Array (Option YP))(ns N:List Int)(Y:ZW i.toList ns)(X:ZW f.toList N):
  Meets (Builtin.«tuple.__lt__» ⟨[.ref l,.ref b],[]⟩)
   (fun _ R s=>s.heap.get? l=some { cls:=.type "tuple",dict:=dd,data:=.seq i n,slots:=Z }/\s.heap.get? b=some { cls:=.type "tuple",dict:=U,data:=.seq f n2,slots:=Q } /\
    R (.ok (.ret (.bool (lexLt ns N)))) s):=
 .of_wp fun v w A R s h=>by
  obtain⟨O,g,d,K,M⟩:=s;obtain⟨hl,hb,h⟩:=h;have f2:=AutoSeq1.sub_tuple_tuple
  have z1:i.size=ns.length:=by rw [<- Y.length];simp
  have z2:f.size=N.length:=by rw [<- X.length];simp
  wp_walk using ZF hl,ZF hb,Yw _ (fun r b S=>b.1=none/\S=⟨O,g,d,K,M⟩/\∃(J I:List YP) (k m:List Int),r=J.zip I /\
   ZW J k/\ZW I m/\k.length+f.size=m.length+i.size/\R (.ok (.ret (.bool (lexLt k m)))) ⟨O,g,d,K,M⟩) _
  case turn=>
   rintro⟨y,x⟩ r b S ⟨F,rfl,J,I,k,m,o,E,p,j,B⟩
   cases E with
   | nil=>rw [List.zip_nil_left]at o;cases o
   | cons a t H=>
    cases p with
    | nil=>rw [List.zip_nil_right]at o;cases o
    | cons c u G=>
     rw [JB]at o
     injection o with hyx hrest
     injection hyx with hy hx
     subst hy hx;rw [lexLt_cons]at B;simp only [Qt]at j;obtain⟨e,he,z⟩:=RB A.in1 ⟨O,g,d,K,M⟩ a t c u;refine Qa (he v w _ _ ?_)
     cases e with
     | true=>
      rw [if_pos (z.mp rfl)]at B
      wp_walk
      exact⟨rfl,rfl,_,_,_,_,hrest,H,G,by lia,B⟩
     | false=>
      rw [if_neg (fun q=>absurd (z.mpr q) Qq)]at B;have T:=rcLt_int A.in1 ⟨O,g,d,K,M⟩ a t c u v w
      wp_walk using T
      exact⟨_,rfl,by simpa using B⟩
  case fin=>
   rintro⟨b1,b2⟩ S ⟨F,rfl,J,I,k,m,o,E,p,j,B⟩
   simp only at F
   subst F
   have W:lexLt k m=decide (i.size<f.size):=by
    cases E with
    | nil=>
     cases p with
     | nil=>
      simp only [List.length_nil]at j;rw [SY]
      exact(decide_eq_false (by lia)).symm
     | cons c u hw=>
      simp only [List.length_nil,Qt]at j;rw [SX]
      exact(decide_eq_true (by lia)).symm
    | cons a t W=>
     cases p with
     | nil=>
      simp only [List.length_nil,Qt]at j;rw [SW]
      exact(decide_eq_false (by lia)).symm
     | cons c u hw=>
      rw [JB]at o;cases o
   rw [W]at B
   wp_walk
   exact⟨_,rfl,by simpa [Builtin.Tuple.tupleCompareSizes]using B⟩
  case h=>
   exact⟨rfl,rfl,i.toList,f.toList,ns,N,rfl,Y,X,by lia,h⟩
end
section
variable {prog:J2}{w:J5}{A:Around}{E:YP->JZ->Prop}{s:JZ}
theorem lt_tupInts{l b:JY}{c a:Array YP}{ns d:List Int}{Q:YP->JZ->Prop}(y:IsTup s.heap l c)(G:IsTup s.heap b a)(B:ZW c.toList ns)(z:ZW a.toList d)
  (v:A.units<Zc) (h:Q (.bool (lexLt ns d)) s):J1 (J3 prog w) A (Ze .Lt (.ref l) (.ref b)) Q E s:=by
 obtain⟨⟨H,dd,q,t⟩,m,p,n,o⟩:=id y;obtain⟨⟨r,j,k,i⟩,e,g,u,f⟩:=id G
 simp only at p o g f
 subst p o g f
 exact richCompare_meets_room (op:=.Lt) ⟨_,m,rfl⟩ ⟨_,e,rfl⟩ PySem.F.slot_tuple_lt PySem.F.entry_tuple_lt (PySem.F.args_tuple_lt_2 _ _) (WJ l b c a n u dd j t i ns d B z)
  ⟨m,e,show ZQ (lexLt ns d)≠Value.notImplemented/\Q (.bool (lexLt ns d)) s from⟨(fun x=>nomatch x),h⟩⟩ v
theorem cat_tup{t b:JY}{vs a:List YP}{Q:YP->JZ->Prop}(u:IsTup s.heap t vs.toArray)(v:IsTup s.heap b a.toArray)(o:vs≠[])
  (y:a=[]->Q (.ref t) s) (x:a≠[]->Q (.ref s.heap.objs.size) { s with heap:=s.heap.push { cls:=.type "tuple",data:=.seq (vs++a).toArray } })
  (hsz:vs.length+a.length<=sizeLine):J1 (J3 prog w) A (Zv .Add (.ref t) (.ref b)) Q E s:=by
 obtain⟨⟨cls,dd,data,l⟩,j,q,n,p⟩:=id u;obtain⟨⟨r,h,k,d⟩,c,g,m,f⟩:=id v
 simp only at q p g f
 subst q p g f
 have e:vs.toArray++a.toArray=(vs++a).toArray:=by simp
 by_cases i:a=[]
 ·exact concat_meets ⟨_,j,rfl⟩ ⟨_,c,rfl⟩ noFill_tuple_add seq_tuple_add PySem.F.slot_tuple_add PySem.F.entry_tuple_add (PySem.F.args_tuple_add_2 _ _)
   (tuple_addW1 t b vs.toArray a.toArray n m dd h l d (by simpa using o) (by simp [i])) ⟨j,c,y i⟩
 ·refine concat_meets ⟨_,j,rfl⟩ ⟨_,c,rfl⟩ noFill_tuple_add seq_tuple_add PySem.F.slot_tuple_add PySem.F.entry_tuple_add (PySem.F.args_tuple_add_2 _ _)
   (tuple_addW2 t b vs.toArray a.toArray n m dd h l d (by simpa using o) (by simpa using i) (by rw [QK,QK];exact hsz)) ⟨j,c,?_⟩
  rw [e];exact x i
def sIx(n d:Nat):Option Int->Nat
 | none=>d
 | some v=>if v<0 then(v+(n:Int)).toNat else min v.toNat n
theorem sIx_none(n d:Nat):sIx n d none=d:=rfl
theorem sIx_nat(n d k:Nat):sIx n d (some (k:Int))=min k n:=by
 show(if(k:Int)<0 then((k:Int)+(n:Int)).toNat else min (k:Int).toNat n)=min k n
 rw [if_neg (by lia),Y4]
theorem Wr(n d:Nat)(b:d<=n)(o:Option Int):sIx n d o<=n:=by
 cases o with
 | none=>exact b
 | some v=>
  show(if v<0 then(v+(n:Int)).toNat else min v.toNat n)<=n
  by_cases a:v<0
  ·rw [if_pos a];lia
  ·rw [if_neg a];exact Nat.min_le_right _ _
theorem sb1{i:Int}{n:Nat}(h:i<0):max 0 (min (i+(n:Int)) (n:Int))=(((i+(n:Int)).toNat:Nat):Int):=by
 rw [Int.min_eq_left (by lia),Int.max_comm,<- Int.ofNat_toNat]
theorem Ev{i:Int}{n:Nat}(h:¬ i<0):min i (n:Int)=((min i.toNat n:Nat):Int):=by
 obtain⟨k,rfl⟩:=Int.eq_ofNat_of_zero_le (Int.not_lt.mp h);rw [Y4];by_cases c:k<=n
 ·rw [Nat.min_eq_left c,Int.min_eq_left (Int.ofNat_le.mpr c)]
 ·rw [Nat.min_eq_right (Nat.le_of_not_le c),Int.min_eq_right (Int.ofNat_le.mpr (Nat.le_of_not_le c))]
theorem sb2{i:Int}{n:Nat}(h:¬ i<0):max 0 (min i (n:Int))=((min i.toNat n:Nat):Int):=by
 rw [Ev h,Int.max_eq_right (Int.natCast_nonneg _)]
theorem NI{i:Int}{n:Nat}:max (i+(n:Int)) 0=(((i+(n:Int)).toNat:Nat):Int):=(Int.ofNat_toNat _).symm
theorem Gh(v:Int)(n d:Nat):(if v<0 then max (v+(n:Int)) 0 else min v (n:Int))=((sIx n d (some v):Nat):Int):=by
 show(if v<0 then max (v+(n:Int)) 0 else min v (n:Int))=(((if v<0 then(v+(n:Int)).toNat else min v.toNat n):Nat):Int)
 by_cases a:v<0
 ·simp only [if_pos a];exact NI
 ·simp only [if_neg a];exact Ev a
theorem Pf(a b:Option Int)(n:Nat):Z4 a b 1 (n:Int)=(((sIx n 0 a:Nat):Int),((sIx n n b:Nat):Int)):=by
 have c:¬ ((1:Int)<0):=by lia
 unfold Z4;simp only [c,if_false];refine Jk ?_ ?_
 ·cases a with
  | none=>rfl
  | some v=>exact Gh v n 0
 ·cases b with
  | none=>rfl
  | some v=>exact Gh v n n
theorem T6(i j:Nat):ZI (i:Int) (j:Int) 1=j-i:=by
 unfold ZI
 have a:(1:Int) > 0:=by lia
 simp only [a,if_true,Int.ediv_one]
 split <;> lia
theorem La{v:YP}{o:Option Int}{Q:Option Int->JZ->Prop}(p:UY v o)(h:Q o s):J1 (J3 prog w) A (Builtin.Slice.slicePartIndex v) Q E s:=by
 cases p with
 | none=>exact slicePart_none h
 | int i t=>exact slicePart_int h
theorem K9{g:JY}{f e:YP}{a c:Option Int}{n:Nat}{Q:Int × Int × Nat->JZ->Prop}(hs:s.heap.IsSliceOf g f e .none)(pl:UY f a)(i:UY e c)
  (h:Q (((sIx n 0 a:Nat):Int),1,sIx n n c-sIx n 0 a) s):J1 (J3 prog w) A (Builtin.Slice.sliceApplied (.ref g) (pure (n:Int))) Q E s:=by
 obtain⟨k,b,j,d⟩:=id hs;unfold Builtin.Slice.sliceApplied Builtin.Slice.sliceFields;refine Qa (Qa (JX b d (x:=f) rfl (Qa (JX b d (x:=e) rfl (Qa (JX b d (x:=.none) rfl (Qb ?_)))))));refine Qa (slicePart_none ?_)
 show J1 _ _ (if((1:Int) == 0)=true then _ else _) _ _ s
 rw [if_neg (by decide)];refine Qa (La pl (Qa (La i (Qa (Qb ?_)))))
 show J1 _ _ (match Z4 a c 1 (n:Int)with | (a,c)=>pure (a,(1:Int),ZI a c 1)) _ _ s
 rw [Pf a c n]
 show J1 _ _ (pure (((sIx n 0 a:Nat):Int),(1:Int),ZI ((sIx n 0 a:Nat):Int) ((sIx n n c:Nat):Int) 1)) _ _ s
 rw [T6];exact Qb h
theorem T5(xs:Array YP)(i k:Nat):((List.range k).filterMap fun(m:Nat)=>xs[((i:Int)+(m:Int) * 1).toNat]?).toArray=((xs.toList.drop i).take k).toArray:=by
 have e:(fun(m:Nat)=>xs[((i:Int)+(m:Int) * 1).toNat]?)=fun m=>xs[i+m]?:=by
  funext m
  have:((i:Int)+(m:Int) * 1).toNat=i+m:=by lia
  rw [this]
 rw [e]
 have:=pick_run xs i k
 rw [List.filterMap_map]at this;have a:((fun x=>xs[x]?) ∘ fun x=>i+x)=fun m=>xs[i+m]?:=rfl;rw [a]at this;rw [this]
theorem getItem_tuple_cut{t f:JY}{a:Array YP}{n l:YP}{c d:Option Int}{Q:YP->JZ->Prop}(e:IsTup s.heap t a)(hs:s.heap.IsSliceOf f n l .none)(pl:UY n c)(o:UY l d)
  (r:¬ (sIx a.size 0 c=0/\sIx a.size a.size d=a.size))
  (h:Q (.ref s.heap.objs.size) { s with heap:=s.heap.push { cls:=.type "tuple",data:=.seq ((a.toList.drop (sIx a.size 0 c)).take (sIx a.size a.size d-sIx a.size 0 c)).toArray } })
  (hsz:a.size<=sizeLine):J1 (J3 prog w) A (getItem (.ref t) (.ref f)) Q E s:=by
 have b:sizeOk (.seq ((a.toList.drop (sIx a.size 0 c)).take (sIx a.size a.size d-sIx a.size 0 c)).toArray):=by
  show((a.toList.drop (sIx a.size 0 c)).take (sIx a.size a.size d-sIx a.size 0 c)).toArray.size<=sizeLine
  rw [QK,QS,Yb,Qg];lia
 have y:sIx a.size a.size d<=a.size:=Wr _ _ (Ql _) d;obtain⟨p,g,j,u⟩:=id hs;have k:s.TypeIs (.ref f) "slice":=⟨p,g,j⟩;unfold getItem
 try with_reducible refine Yg ?_
 first | refine Qa (Qb ?_) | skip
 refine Qa (wpAny_sequenceKey e.typeIs (by decide) ?_)
 refine Qa (Yq (name:=ZR "__getitem__") e.typeIs YT
  (Yc YT e.typeIs entry_tuple_getitem ?_ (args_tuple_getitem _ _)))
 show J1 _ _ (ZZ (.ref t) >>= _) _ _ s
 refine Qa (tupleItemsOf_ e ?_);refine Qa (Ja k ?_);rw [if_pos (by decide)];refine Qa (K9 hs pl o ?_)
 have i:¬ ((((sIx a.size 0 c:Nat):Int) == 0 && (1:Int) == 1 && (sIx a.size a.size d-sIx a.size 0 c) == a.size)=true):=by
  intro q;rw [QH,QH]at q;have x:((sIx a.size 0 c:Nat):Int)=0:=Yv q.1.1;have v:sIx a.size a.size d-sIx a.size 0 c=a.size:=Yv q.2;exact r ⟨by lia,by lia⟩
 show J1 _ _ (if(((sIx a.size 0 c:Nat):Int) == 0 && (1:Int) == 1 && (sIx a.size a.size d-sIx a.size 0 c) == a.size)=true then _ else _) _ _ s
 rw [if_neg i,T5]
 first
  | exact Qa (m:=ZB _) (Yk (Qb ⟨_,rfl,Qb h⟩) b)
  | exact Qa (m:=ZB _) (Yk (Qa (Qb (Qb ⟨_,rfl,Qb h⟩))) b)
  | exact Qa (Qa (m:=ZB _) (Yk (Qb (Qb ⟨_,rfl,Qb h⟩)) b))
  | exact Qa (Qa (m:=ZB _) (Yk (Qb ⟨_,rfl,Qb h⟩) b))
end
end HT
namespace L2
open PySem PySem.Spec PyProof.Rows
abbrev TO:=St->Hp->(Option Int->Hp->Prop)->Prop
def PO(X:Cx)(e:Option Expr)(t:TO):Prop:=
 ∀(pins:List (JY × Obj)) (s:JZ) (σ:St) (H:Hp) (Q:Option Int->Hp->Prop),Inv X pins σ H s->t σ H Q->
  J1 (J3 X.prog X.w) X.A (evalPart e X.env) (fun u a=>∃ o H',Inv X pins σ H' a/\UY u o/\Q o H') X.xe s
def VD:TO:=fun _ H Q=>Q none H
def Oj(t:TE):TO:=fun a H Q=>t a H fun x b=>∃ i,x=.int i/\Q (some i) b
theorem Hw{ns:List Int}:∀{us:List YP},Vals (ns.map V.int) us->ZW us ns:=by
 induction ns with
 | nil=>intro us r;rw [List.map_nil]at r;cases r;exact .nil
 | cons n ns c=>
  intro us r;rw [Qm]at r
  cases r with
  | cons b a=>
   obtain⟨t,e⟩:=b;subst e;exact .cons n t (c a)
section
variable {X:Cx}{e:Expr}{te:TE}{lo hi:Option Expr}{tl th:TO}{pos p2:Pos}
theorem T9:PO X none VD:=by
 intro a s b H Q I h;rw [evalPart_none];exact Qb ⟨none,H,I,.none,h⟩
theorem U1(h:PE X e te):PO X (some e) (Oj te):=by
 intro a s b H Q I g;rw [evalPart_some];refine bC (h a s b H _ I g) fun u l c=>?_;obtain⟨x,k,j,d,f⟩:=c;obtain⟨i,rfl,q⟩:=f;obtain⟨t,rfl⟩:=d
 exact⟨some i,k,j,.int i t,q⟩
def mW(X:Cx)(r:V->Option Int->Option Int->Hp->VK->Prop):Prop:=
 ∀(pins:List (JY × Obj)) (s:JZ) (σ:St) (H:Hp) (x:V) (v vl vu:YP) (lo hi:Option Int) (sl:JY) (Q:VK),Inv X pins σ H s->RelV x v->s.heap.IsSliceOf sl vl vu .none->UY vl lo->UY vu hi->r x lo hi H Q->
  ∃ T id,typeLookup (.type T) "__getitem__"=pure (some (.builtin id))/\s.TypeIs v T/\J1 (J3 X.prog X.w) X.A (getItem v (.ref sl)) (EP X pins σ Q) X.xe s
theorem mW.or{r g:V->Option Int->Option Int->Hp->VK->Prop}(h:mW X r)(h':mW X g):mW X (fun x lo hi H Q=>r x lo hi H Q ∨ g x lo hi H Q):=by
 intro a s b H x v d c lo hi e Q I f k j i q;rcases q with q | q
 ·exact h a s b H x v d c lo hi e Q I f k j i q
 ·exact h' a s b H x v d c lo hi e Q I f k j i q
def Oo(r:V->Option Int->Option Int->Hp->VK->Prop)(te:TE)(b c:TO):TE:=fun a H Q=>te a H fun x f=>b a f fun l e=>c a e fun u d=>r x l u d Q
theorem TN{r:V->Option Int->Option Int->Hp->VK->Prop}(F:mW X r)(he:PE X e te)(G:PO X lo tl)(B:PO X hi th):PE X (.Subscript e (.Slice lo hi none p2) pos) (Oo r te tl th):=by
 intro a s d H Q I h;refine Subscript_ (bC (he a s d H _ I h) fun v m i=>?_);obtain⟨x,S,O,n,t⟩:=i;refine wpAny_Slice (bC (G a m d S _ O t) fun g k ⟨l,R,N,z,p⟩=>bC (B a k d R _ N p) fun f c i=>?_);obtain⟨u,j,I3,y,o⟩:=i;rw [evalPart_none];refine Qb ?_;have M:Inv X a d j { c with heap:=c.heap.push { cls:=.type "slice",data:=.fields #[g,f,.none] } }:=I3.kept (t':=c.toks) fun b U q=>Qh _ q;obtain⟨T,id,K,E,J⟩:=F a { c with heap:=c.heap.push { cls:=.type "slice",data:=.fields #[g,f,.none] } } d j x v g f l u c.heap.objs.size Q M n (Heap.IsSliceOf.new ..) z y o
 show J1 (J3 X.prog X.w) X.A (subscriptTail e (.Slice lo hi none p2) v (.ref c.heap.objs.size)) (EP X a d Q) X.xe { c with heap:=c.heap.push { cls:=.type "slice",data:=.fields #[g,f,.none] } }
 exact tail_any (ops:=[.ref c.heap.objs.size,v]) E K J (by with_unfolding_all rfl)
def m7(xs:List V)(a b:Option Int):List V:=(xs.drop (HT.sIx xs.length 0 a)).take (HT.sIx xs.length xs.length b-HT.sIx xs.length 0 a)
theorem Go(xs:List V)(a b:Option Int):(m7 xs a b).length<=xs.length:=by
 unfold m7;rw [QS,Yb];lia
def NC(K:PySem.W.Frag):V->Option Int->Option Int->Hp->VK->Prop:=fun x b c H Q=>∃ a xs,x=.ref a/\bP K H a xs /\
 ¬ (HT.sIx xs.length 0 b=0/\HT.sIx xs.length xs.length c=xs.length)/\∀ p,H p=none->Q (.ref p) (aJ H p (.tup (m7 xs b c)))
theorem VU:mW X (NC X.K):=by
 intro i s w H x v z y e g A Q I l u n m h;obtain⟨a,d,rfl,p,t,q⟩:=h;cases l;obtain⟨f,r,k,j⟩:=I.tuple p
 have c:f.toArray.size=d.length:=by rw [QK];exact r.length.symm
 refine⟨"tuple",_,YT.lookup,k.typeIs,?_⟩
 refine HT.getItem_tuple_cut k u n m (by rw [c];exact t) ?_ (by rw [c];exact j);rw [c]
 refine⟨.ref s.heap.objs.size,_,I.laid (t':=s.toks) (o:=.tup (m7 d e g)) (fun b B q=>Qh _ q) (Ql _) ?_,rfl,q _ (I.hok.fresh (Ql _))⟩
 exact⟨QL (Go d e g) j,_,(r.drop (HT.sIx d.length 0 e)).take (HT.sIx d.length d.length g-HT.sIx d.length 0 e),IsTup.new _ _⟩
def Nx(K:PySem.W.Frag):R2:=fun x y H Q=>∃ a b ns ms,x=.ref a/\y=.ref b/\bP K H a (ns.map V.int)/\bP K H b (ms.map V.int)/\Q (.bl (HT.lexLt ns ms)) H
theorem Vm(o:X.A.units<Zc):bI X (Ze .Lt) (Nx X.K):=by
 intro e s t H x y v u Q I g f h;obtain⟨a,b,ns,ms,rfl,rfl,r,p,q⟩:=h;cases g;cases f;obtain⟨d,j,l,_⟩:=I.tuple r;obtain⟨c,i,k,_⟩:=I.tuple p;have n:ZW d.toArray.toList ns:=Hw j;have m:ZW c.toArray.toList ms:=Hw i;exact HT.lt_tupInts l k n m o ⟨.bl (HT.lexLt ns ms),H,I,rfl,q⟩
def Nt(K:PySem.W.Frag):R2:=fun x y H Q=>∃ a b xs ys,x=.ref a/\y=.ref b/\bP K H a xs/\bP K H b ys/\xs≠[]/\xs.length+ys.length<=sizeLine /\
 (ys=[]->Q (.ref a) H)/\(ys≠[]->∀ p,H p=none->Q (.ref p) (aJ H p (.tup (xs++ys))))
theorem Vals.nil_iff{xs:List V}{us:List YP}(r:Vals xs us):us=[] ↔ xs=[]:=by
 cases r with
 | nil=>simp
 | cons _ _=>simp
theorem Vk:bI X (Zv .Add) (Nt X.K):=by
 intro e s F H x y v u Q I l k h;obtain⟨a,b,j,i,rfl,rfl,E,B,A,g,n,m⟩:=h;cases l;cases k;obtain⟨t,d,r,_⟩:=I.tuple E;obtain⟨f,c,p,_⟩:=I.tuple B;refine HT.cat_tup r p (fun z=>A (d.nil_iff.mp z)) (fun z=>⟨.ref a,H,I,rfl,n (c.nil_iff.mp z)⟩) (fun z=>?_) (by rw [<- d.length,<- c.length];exact g)
 refine⟨.ref s.heap.objs.size,_,I.laid (t':=s.toks) (o:=.tup (j++i)) (fun b G q=>Qh _ q) (Ql _) ?_,rfl,m (fun w=>z (c.nil_iff.mpr w)) _ (I.hok.fresh (Ql _))⟩
 exact⟨by rw [Qd];exact g,_,d.append c,IsTup.new _ _⟩
end
def ixN(n:Nat)(i:Int):Option Nat:=if 0<=i then(if i<n then some i.toNat else none)else if -(n:Int)<=i then some (i+n).toNat else none
def atI{α:Type}(xs:List α)(i:Int):Option α:=(ixN xs.length i).bind fun j=>xs[j]?
theorem Rj{n:Nat}{i:Int}{j:Nat}(h:ixN n i=some j):seqIndex? i n=some j/\j<n/\-(n:Int)<=i/\i<n:=by
 unfold ixN at h;by_cases b:0<=i
 ·rw [if_pos b]at h;by_cases a:i<n
  ·rw [if_pos a]at h;have e:i.toNat=j:=QC h
   exact⟨by rw [seqIndex_of b a,e],by lia,by lia,a⟩
  ·rw [if_neg a]at h;cases h
 ·rw [if_neg b]at h;by_cases a:-(n:Int)<=i
  ·rw [if_pos a]at h;have e:(i+n).toNat=j:=QC h
   exact⟨by rw [seqIndex_neg (by lia) a,e],by lia,a,by lia⟩
  ·rw [if_neg a]at h;cases h
theorem EH{a:Type}{xs:List a}{i:Int}{v:a}(h:atI xs i=some v):∃ j,seqIndex? i xs.length=some j/\xs[j]?=some v/\j<xs.length/\-(xs.length:Int)<=i/\i<xs.length:=by
 unfold atI at h
 cases e:ixN xs.length i with
 | none=>rw [e]at h;cases h
 | some j=>
  rw [e]at h;obtain⟨f,d,c,b⟩:=Rj e
  exact⟨j,f,h,d,c,b⟩
def Bg(b:Expr):Prop:=∀ o i,subscripted b false o i=operate [o,i] (getItem o i)
def jD(X:Cx)(r:R2):Prop:=
 ∀(value slice:Expr) (pins:List (JY × Obj)) (s:JZ) (σ:St) (H:Hp) (x y:V) (v u:YP) (Q:VK),Inv X pins σ H s->RelV x v->RelV y u->r x y H Q->
  subscripted slice false v u=operate [v,u] (getItem v u)->J1 (J3 X.prog X.w) X.A (subscriptTail value slice v u) (EP X pins σ Q) X.xe s
def Aa(X:Cx)(id:String)(r:V->List V->Hp->VK->Prop):Prop:=
 ∀(pins:List (JY × Obj)) (s:JZ) (σ:St) (H:Hp) (x:V) (xs:List V) (v:YP) (us:List YP) (Q:VK),Inv X pins σ H s->RelV x v->Vals xs us->r x xs H Q->
  J1 (J3 X.prog X.w) X.A (call (.builtin id) (v::us)) (EP X pins σ Q) X.xe s
section
variable {X:Cx}{a b:Expr}{ta tb:TE}{pos:Pos}
theorem jD.or{r g:R2}(h:jD X r)(h':jD X g):jD X (fun x y H Q=>r x y H Q ∨ g x y H Q):=by
 intro a b c s d H x y v u Q I f e q i;rcases q with q | q
 ·exact h a b c s d H x y v u Q I f e q i
 ·exact h' a b c s d H x y v u Q I f e q i
theorem IO{r:R2}(i:jD X r)(k:PE X a ta)(j:PE X b tb)(hs:Bg b):PE X (.Subscript a b pos) (oM r ta tb):=by
 intro c s d H Q I h;exact Subscript_ (Aq k j I h fun v u e x y m l g f q=>i a b c e d m x y v u Q l g f q (hs _ _))
def Nv(K:PySem.W.Frag):R2:=fun x y H Q=>∃ p xs i v,x=.ref p/\y=.int i/\cD K H p xs/\atI xs i=some v/\Q v H
def Nw(K:PySem.W.Frag):R2:=fun x y H Q=>∃ p xs i v,x=.ref p/\y=.int i/\bP K H p xs/\atI xs i=some v/\Q v H
theorem Rl:jD X (Nv X.K):=by
 intro c d a s l H x y v u Q I E B h m;obtain⟨p,O,i,z,rfl,rfl,F,J,q⟩:=h;cases E;obtain⟨t,rfl⟩:=B;obtain⟨g,r,f,R⟩:=I.list F;obtain⟨j,b,N,T,M,h5⟩:=EH J;obtain⟨w,o,e⟩:=r.get N;have G:=r.length;have S:=B6;have fin:EP X a l Q w s:=⟨z,H,I,e,q⟩;by_cases n:0<=i
 ·have k:i.toNat=j:=by
   rw [seqIndex_of n h5]at b;exact QC b
  exact item_listR f.isList n (by lia) (by rw [k];simpa using o) fin m
 ·have k:(i+(g.toArray.size:Int)).toNat=j:=by
   rw [seqIndex_neg (by lia) M]at b;rw [QK,<- G];exact QC b
  exact subscriptTail_builtinR (x:=w) f.isList.typeIs slot_list_getitem.lookup
   (wpAny_getItem_list_neg (Q:=fun r A=>r=w/\EP X a l Q r A) f.isList (by lia) (by rw [QK] <;> lia) (by lia) (by rw [k];simpa using o) ⟨rfl,fin⟩) m
theorem Rm:jD X (Nw X.K):=by
 intro b c a s e H x y v u Q I l k h n;obtain⟨p,J,i,z,rfl,rfl,o,B,q⟩:=h;cases l;obtain⟨t,rfl⟩:=k;obtain⟨m,r,f,M⟩:=I.tuple o;obtain⟨j,F,E,R,O,h5⟩:=EH B;obtain⟨w,G,d⟩:=r.get E;have A:=r.length;have N:=B6;have fin:EP X a e Q w s:=⟨z,H,I,d,q⟩
 exact subscriptTail_builtinR (x:=w) f.typeIs slot_tuple_getitem.lookup
  (getItem_tuple (j:=j) (Q:=fun r g=>r=w/\EP X a e Q r g) f (by lia) (by lia) (by rw [QK,<- A];exact F) (by simpa using G) ⟨rfl,fin⟩) n
theorem VW(a b:Option Int)(n:Nat):(Ui a b none n).1=((HT.sIx n 0 a:Nat):Int)/\(Ui a b none n).2.1=((HT.sIx n n b:Nat):Int)/\(Ui a b none n).2.2=1:=by
 refine⟨?_,?_,rfl⟩
 ·cases a with
  | none=>simp [Ui,HT.sIx]
  | some i=>
   simp only [Ui,HT.sIx,Option.getD_none,show(1:Int) > 0 by decide,if_true];by_cases h:i<0
   ·simp only [h,if_true];exact HT.sb1 h
   ·simp only [h,if_false];exact HT.sb2 h
 ·cases b with
  | none=>simp [Ui,HT.sIx]
  | some i=>
   simp only [Ui,HT.sIx,Option.getD_none,show(1:Int) > 0 by decide,if_true];by_cases h:i<0
   ·simp only [h,if_true];exact HT.sb1 h
   ·simp only [h,if_false];exact HT.sb2 h
theorem VV(a:List YP)(b c:Option Int):slicePick a.toArray b c none=((a.drop (HT.sIx a.length 0 b)).take (HT.sIx a.length a.length c-HT.sIx a.length 0 b)).toArray:=by
 obtain⟨f,e,d⟩:=VW b c a.toArray.size;unfold slicePick;rw [f,e,d]
 simp only [sliceRange_one,pick_run,QK] <;> rfl
def NB(K:PySem.W.Frag):V->Option Int->Option Int->Hp->VK->Prop:=fun x b c H Q=>∃ a xs,x=.ref a/\cD K H a xs/\∀ p,H p=none->Q (.ref p) (aJ H p (.lst (m7 xs b c)))
theorem VS:mW X (NB X.K):=by
 intro g s u H x v y w e f z Q I j t l k h;obtain⟨a,c,rfl,p,q⟩:=h;cases j;obtain⟨m,r,i,n⟩:=I.list p;have d:=r.length
 refine⟨"list",_,slot_list_getitem.lookup,i.isList.typeIs,?_⟩
 refine wpAny_getItem_list_slice i.isList t l k .none (by simp) ?_ (by rw [QK] <;> lia);rw [VV,<- d]
 refine⟨.ref s.heap.objs.size,_,I.laid (t':=s.toks) (o:=.lst (m7 c e f)) (fun b A q=>Qh _ q) (Ql _) ?_,rfl,q _ (I.hok.fresh (Ql _))⟩
 exact⟨QL (Go c e f) n,_,0,(r.drop (HT.sIx c.length 0 e)).take (HT.sIx c.length c.length f-HT.sIx c.length 0 e),Qz _ rfl⟩
theorem Pt:fV X (.builtin "len") (fun xs H Q=>∃ p ys,xs=[.ref p]/\(cD X.K H p ys ∨ bP X.K H p ys)/\Q (.int ys.length) H):=by
 intro f s j H xs k Q I r h;obtain⟨p,ys,rfl,b,q⟩:=h;obtain⟨u,rfl,g⟩:=kP r;cases g;have l:=B6;rcases b with b | b
 ·obtain⟨e,c,d,i⟩:=I.list b;have a:=c.length;exact Calls.call_len_list d.isList (by simp only [QK] <;> lia) ⟨.int ys.length,H,I.tok _,⟨s.toks+1,by rw [QK,a]⟩,q⟩
 ·obtain⟨e,c,d,i⟩:=I.tuple b;have a:=c.length;exact len_tuple d (by simp only [QK] <;> lia) ⟨.int ys.length,H,I.tok _,⟨s.toks+1,by rw [QK,a]⟩,q⟩
theorem Py:fV X (.type "tuple") (fun xs H Q=>∃ p ys,xs=[.ref p]/\((cD X.K H p ys/\∀ l,H l=none->Q (.ref l) (aJ H l (.tup ys))) ∨ (bP X.K H p ys/\Q (.ref p) H))):=by
 intro a s j H xs x Q I r h;obtain⟨p,ys,rfl,h⟩:=h;obtain⟨u,rfl,n⟩:=kP r;cases n;rcases h with⟨i,q⟩ | ⟨i,q⟩
 ·obtain⟨c,f,g,k⟩:=I.list i;have m:=f.length;refine call_tuple_list g.isList (fun d t=>?_) (by simp only [QK] <;> lia);have I1:Inv X a j H { s with heap:=d }:=I.kept (t':=s.toks) t
  have v:Inv X a j (aJ H d.objs.size (.tup ys)) { s with heap:=d.push { cls:=.type "tuple",data:=.seq c.toArray } }:=
   I1.laid (t':=s.toks) (fun b o e=>Qh _ e) (Ql _) (show e9 X.prog X.w _ _ _ (.tup ys)from⟨k,c,f,IsTup.new _ _⟩)
  exact⟨.ref d.objs.size,_,v,rfl,q _ (I1.hok.fresh (Ql _))⟩
 ·obtain⟨c,f,g,k⟩:=I.tuple i;exact call_tuple_same g ⟨.ref p,H,I,rfl,q⟩
def EC(K:PySem.W.Frag)(T:String)(x:V)(H:Hp):Prop:=match x with
 | .str _=>T="str"
 | .int _=>T="int"
 | .ref p=>(T="list"/\∃ xs,cD K H p xs) ∨ (T="tuple"/\∃ o,K.lookup p=some o/\o.cls=.type "tuple"/\o.dict=none) ∨
   (T="dict"/\((∃ kvs,H p=some (.dK kvs)) ∨ ∃ kvs,H p=some (.dT kvs))) ∨ (T="set"/\∃ S n,H p=some (.set S n))
 | _=>False
theorem WQ{f:List (JY × Obj)}{l:St}{H:Hp}{s:JZ}{T:String}{x:V}{v:YP}(I:Inv X f l H s)(r:RelV x v)(ty:EC X.K T x H):
  s.TypeIs v T/\∀ a,v=.ref a->∃ ob,s.heap.get? a=some ob/\ob.dict=none:=by
 cases x with
 | str z=>
  obtain⟨t,rfl⟩:=r
  cases(show T="str" from ty)
  exact⟨typeIs_str s z t,fun _ e=>nomatch e⟩
 | int i=>
  obtain⟨t,rfl⟩:=r
  cases(show T="int" from ty)
  exact⟨typeIs_int s i t,fun _ e=>nomatch e⟩
 | ref p=>
  cases r;rcases ty with⟨rfl,w,q⟩ | ⟨rfl,o,b,u,h⟩ | ⟨rfl,b⟩ | ⟨rfl,S,n,b⟩
  ·obtain⟨m,_,k,_⟩:=I.list q
   refine⟨k.isList.typeIs,fun a e=>?_⟩
   cases e;obtain⟨o,n,e,c,h,_⟩:=k
   exact⟨o,e,h⟩
  ·refine⟨⟨o,I.kIn p o b,u⟩,fun a e=>?_⟩
   cases e
   exact⟨o,I.kIn _ o b,h⟩
  ·have z:∃ o,s.heap.get? p=some o/\o.ExactDict:=by
    rcases b with⟨g,b⟩ | ⟨g,b⟩
    ·obtain⟨_,_,_,_,o,_,_,e,d,_⟩:=I.hok p _ b
     exact⟨o,e,d⟩
    ·obtain⟨_,_,_,_,o,_,_,e,d,_⟩:=I.hok p _ b
     exact⟨o,e,d⟩
   obtain⟨o,e,d⟩:=z
   refine⟨⟨o,e,d.1⟩,fun a j=>?_⟩
   cases j
   exact⟨o,e,d.2.1⟩
  ·obtain⟨o,_,_,_,e,d,_⟩:=I.hok p _ b
   refine⟨⟨o,e,d.1⟩,fun a j=>?_⟩
   cases j
   exact⟨o,e,d.2.1⟩
 | _=>exact ZE ty
def N1(K:PySem.W.Frag)(T:String)(r:V->List V->Hp->VK->Prop)(to:TE)(t:TA):TE:=fun a H Q=>to a H fun x b=>EC K T x b/\t a b fun c d=>r x c d Q
variable {o e:Expr}{es:List Expr}{to:TE}{t:TA}{name:Str}{apos cpos:Pos}{T id:String}{r:V->List V->Hp->VK->Prop}
theorem xU(A:PlainAttrs T)(slot:Slot T name id)(i:typeOf (.builtin id)=pure (.type "method_descriptor"))(E:Aa X id r)(B:PE X o to)(F:PA X (e::es) t)
  (d:ZA o name X.env (Zh o X.env)=Zh o X.env:=by rfl)
  (f:((Zn cpos (J0 (e::es) X.env)).all (fun x => !x.1) && (Z5 cpos (ZG [] X.env)).all (fun x=>x.1.isSome)
   && decide ((e::es).length+([]:List Ud).length+(if([]:List Ud).isEmpty then 0 else 1)<30))=true:=by rfl)
  (c:(apos.endLine == cpos.line)=true:=by rfl) (hs:J0 (e::es) X.env=(false,Zh e X.env)::J0 es X.env:=by rfl) (b:(Zn cpos (J0 es X.env)).any (·.1)=false:=by rfl):
  PE X (.Call (.Attribute o name apos) (e::es) [] cpos) (N1 X.K T r to t):=by
 intro a s g H Q I h;refine wpAny_Call_method_late d f c rfl (bC (B a s g H _ I h) fun v u m=>?_);obtain⟨x,O,l,j,ty,z⟩:=m;obtain⟨J,G⟩:=WQ l j ty
 refine⟨T,id,A,slot,i,J,G,?_⟩
 have k:=F cpos a u g O _ l z;rw [hs]at k ⊢;refine Calls.callWith_builtin (by show(false || (Zn cpos (J0 es X.env)).any (·.1))=false;rw [b] <;> rfl) (Calls.evalArgs_plain ?_);exact bC k fun p q ⟨n,N,M,w,y⟩=>E a q g N x n v p Q M j w y
end
def Ds(X:Cx)(id:String)(r:V->List V->Hp->VK->Prop):Prop:=
 ∀(pins:List (JY × Obj)) (s:JZ) (σ:St) (H:Hp) (x:V) (xs:List V) (v:YP) (us:List YP) (Q:VK),Inv X pins σ H s->RelV x v->Vals xs us->r x xs H Q->
  J1 (J3 X.prog X.w) X.A (call (.builtin id) (v::us)) (EP X pins σ Q) X.xe s
theorem Vals.one{x:V}{us:List YP}(h:Vals [x] us):∃ u,us=[u]/\RelV x u:=by
 cases h with
 | cons r h=>cases h;exact⟨_,rfl,r⟩
theorem Vals.two{x y:V}{us:List YP}(h:Vals [x,y] us):∃ u v,us=[u,v]/\RelV x u/\RelV y v:=by
 cases h with
 | cons r h=>obtain⟨v,rfl,q⟩:=Vals.one h;exact⟨_,v,rfl,r,q⟩
section
variable {X:Cx}{pins:List (JY × Obj)}{σ:St}{H:Hp}{s:JZ}{l b:JY}{xs ys zs:List V}
theorem Inv.lset{a its':List YP}{n:Nat}{f:Array YP->Array YP}{t':Nat}(I:Inv X pins σ H s)(h:H l=some (.lst xs))
  (e:s.heap.get? l=some { cls:=.type "list",data:=.seq a.toArray n }) (d:f a.toArray=its'.toArray) (b:Vals ys its') (hz:ys.length<=sizeLine):
  Inv X pins σ (aJ H l (.lst ys)) { s with heap:=s.heap.update l (Ug f),toks:=t' }:=by
 have q:=PySem.IsL.update e f;rw [d]at q;refine I.write (x:=l) (e:=l) (by rw [h];exact trivial) (.inl rfl) (fun i u g c=>(Heap.get?_update_other s.heap (Ug f) (Z2 g)).trans c) ⟨_,q⟩ ?_
 exact⟨hz,its',_,b,q⟩
theorem Inv.lstM(I:Inv X pins σ H s)(a:H l=some (.lst xs)):xs.length<=sizeLine/\∃(its:List YP) (n:Nat),Vals xs its/\xs.length=its.length/\s.heap.get? l=some { cls:=.type "list",data:=.seq its.toArray n }:=by
 obtain⟨z,its,n,r,e⟩:=I.hok l _ a
 exact⟨z,its,n,r,r.length,e⟩
theorem RT{n:Nat}(h:n<=sizeLine):Z6 n=false:=by
 unfold Z6;exact decide_eq_false (by lia)
end
section
variable {X:Cx}
def Wd:V->List V->Hp->VK->Prop:=fun x a H Q=>∃ l xs y,x=.ref l/\a=[y]/\H l=some (.lst xs)/\xs.length<sizeLine/\Q .non (aJ H l (.lst (xs++[y])))
theorem xL:Ds X "list.append" Wd:=by
 intro b s i H x k v m Q I d f h;obtain⟨l,j,y,rfl,rfl,c,o,q⟩:=h;cases d;obtain⟨u,rfl,g⟩:=f.one;obtain⟨z,a,n,r,p,e⟩:=I.lstM c;refine call_meets F.slot_list_append ⟨_,e,rfl⟩ F.entry_list_append (F.args_list_append_2 _ _) (PySem.list_append l a.toArray n u (by rw [QK];lia)) ⟨e,?_⟩
 refine⟨.non,_,I.lset (its':=a++[u]) c e (by simp) (r.append (.cons g .nil)) ?_,rfl,q⟩
 rw [Qd,Qx];lia
end
section
variable {prog:J2}{w:J5}{A:Around}{E:YP->JZ->Prop}{s:JZ}
end
section
variable {X:Cx}
end
end L2
namespace Att
open PySem PySem.W PySem.Calls PyProof.Rows
theorem P9{P:Params}{h:Heap}:∀(ns:List Int) (vs:List YP),WellAll P h vs (ns.map WData.int)->ZW vs ns:=by
 intro ns
 induction ns with
 | nil=>
  intro vs w;rw [List.map_nil]at w;cases w;exact .nil
 | cons n ns c=>
  intro vs w;rw [Qm]at w
  cases w with
  | cons a b=>
   cases a;exact .cons _ _ (c _ b)
theorem Wx{l:OpenLaw}{n:Nat}(t:l.most=some n){P:Params}{h:Heap}{args:List WData}{b:List YP}
  (c:l.row.toRowW.claim.pre args=true) (i:WellAll P h b args):
  ∃ a vs ns,b=[J4 a]/\args=[WData.list (ns.map WData.int)]/\h.get? a=some { cls:=.type "list",data:=.seq vs.toArray }/\ZW vs ns/\ns.length<=n:=by
 have j:WShape.hasAll [] args [.list .int]=true:=(pre_splitW c).1;have k:l.pre.holds [] { args:=args }=true:=(pre_splitW c).2;obtain⟨d,r,rfl,w,v⟩:=hasAllW_cons j
 obtain rfl:=hasAllW_nil v
 obtain⟨x,rfl,u⟩:=hasW_list w;obtain⟨ns,rfl⟩:=items_int u
 have e:ns.length<=n:=by
  unfold OpenLaw.pre at k
  have g:(WTm.not (.lt (.lit (.int (n:Int))) (.len (.arg 0)))).holds [] { args:=[.list (ns.map .int)] }=true:=by
   have g:=(holds_andW k).1;rw [t]at g;exact g
  have h5:=condW_of g (w_not (w_lt w_lit (w_len_list (w_arg rfl))));rw [Qi]at h5;refine YW fun q=>?_
  have p:(n:Int)<((ns.length:Nat):Int):=by lia
  first
   | (rw [decide_eq_true p]at h5;exact absurd h5 (by decide))
   | (simp at h5;lia)
 cases i with
 | cons o m=>
  cases m
  cases o with
  | list s f=>exact⟨_,_,ns,rfl,rfl,s,P9 ns _ f,e⟩
theorem U3(l:OpenLaw)(args:List WData):l.row.toRowW.claim.post args (.bool true) args=true:=
 postW_of (r:=l.row.toRowW) (X:=(true == true))
  (show WShape.has [] (.bool true) .bool=true by first | rfl | decide | simp [WShape.has,WShape.arms,WShape.armsAll])
  (show(WTm.eq .res (.lit (.bool true))).value [] { args:=args,res:=some (.bool true),after:=args }=some (.bool (true == true))from w_eq_bool (w_res rfl) w_lit) rfl
theorem attach_call{l:OpenLaw}{n:Nat}{q:J2}{b:List Str}{x:(Str->Option YP)->Heap->Prop}{v:J5->Heap->Prop}{d:DefRec}
  (B:l.most=some n) (k:d.params.defaults=[])
  (call:∀(w:J5) (s₀ s₁:JZ) (mg mb:Str->Option YP) (fa:JY) (o:Obj) (pm cd doc:YP) (a:JY) (vs:List YP) (ns:List Int),
   Ground q b [] x w s₀ mg mb s₁.heap->v w s₁.heap->
   s₁.heap.get? fa=some o->o.data=.func (docDef d.name d.params d.body d.scope pm cd doc)->s₁.heap.CodeRec cd d.name->mg d.name=some (.ref fa)->
   s₁.heap.get? a=some { cls:=.type "list",data:=.seq vs.toArray }->ZW vs ns->ns.length<=n->s₁.gens=#[]->
   Uc (J3 l.prog w) callerA (.call (.ref fa) ⟨[.ref a],[]⟩) (fun r s'=>r=.ok (.ret (.bool true))/\OldK s₁.heap s'.heap/\s'.os=s₁.os/\UU s'.gens) s₁):
  WalkO q b x v l.row.toRowW d [] (fun f vs=>PySem.call f vs):=by
 intro w s₀ s₁ mg mb G Y fa o pm cd doc N kV A I m t j H u p O e s y i F
 obtain rfl:N=.none:=Dflts.none t k
 obtain rfl:kV=.none:=Dflts.noKw t
 obtain⟨a,vs,ns,rfl,rfl,g,c,h⟩:=Wx B e i;refine enter_call (JA (call w s₀ s₁ mg mb fa o pm cd doc a vs ns G Y A (fd_plain I) m j g c h H) fun r s' z=>?_);obtain⟨rfl,M,K,J⟩:=z
 exact⟨.inl ⟨.bool true,.bool true,[],rfl,fun _=>rfl,.bool true,U3 l _,fun _=>⟨List.Pairwise.nil,fun _ E=>(nomatch E)⟩⟩,M,K,J⟩
section
variable {prog:J2}{w:J5}{A:Around}{E:YP->JZ->Prop}{s:JZ}{K:Frag}
end
end Att
namespace L2
open PySem PySem.Spec PyProof.Rows
theorem Kz:∀{vs:List YP}{ns:List Int},ZW vs ns->Vals (ns.map V.int) vs
 | _,_,.nil=>.nil
 | _,_,.cons n t h=>.cons ⟨t,rfl⟩ (Kz h)
def Ai(H:Hp):Prop:=∀ b,H b=none ∨ ∃ o xs,H b=some (.frz o (.lst xs))
theorem SK{P:J2}{w:J5}{K:PySem.W.Frag}{l M:Str->Option YP}{CX:iT}{k:Nat}{S a:JY}{fd:J6}{x:Str}{sp:Sp}{s₁:JZ}{vs:List YP}{ns:List Int}
  (KX:K.In s₁.heap) (A:s₁.heap.Ns Zd l) (c:s₁.heap.Ns builtinsNs M) (Q:∀ x:Str,x≠"__name__"->M x=Zs x) (B:s₁.heap.NoLimit) (hg:s₁.gens=#[])
  (I:s₁.heap.get? a=some { cls:=.type "list",data:=.seq vs.toArray }) (Y:ZW vs ns) (X:ns.length<=sizeLine) (hr:cM k callerA)
  (F:∀ base:Heap,K.In base->base.Ns Zd l->aM P w K l base CX k S fd [x] sp) (i:∀(s:JZ) (u:YP),BindsTo s fd ⟨[u],[]⟩ [(x,u)])
  (N:∀ H:Hp,Ai H->cD K H a (ns.map V.int)->sp [.ref a] H (fun v _=>v=.bl true) fun _ _ _=>False)
  (R:∀ H e s',CX [] H s₁ (fun _ _ _=>False) e s'->False):
  Uc (J3 P w) callerA (.call (.ref S) ⟨[.ref a],[]⟩) (fun r s'=>r=.ok (.ret (.bool true))/\OldK s₁.heap s'.heap/\s'.os=s₁.os/\UU s'.gens) s₁:=by
 have U:=Kz Y;have p:=Y.length
 have g:∀ H:Hp,Ai H->cD K H a (ns.map V.int)->dE P w H s₁.heap->(∀ b,H b≠none->b=a)->(H a≠none->K.lookup a=none)->
   Uc (J3 P w) callerA (.call (.ref S) ⟨[.ref a],[]⟩) (fun r s'=>r=.ok (.ret (.bool true))/\OldK s₁.heap s'.heap/\s'.os=s₁.os/\UU s'.gens) s₁:=by
  intro H Z hS y hA hK;have base_of:∀{b:JY}{o:Obj},s₁.heap.get? b=some o->H b=none->(lX s₁.heap H).get? b=some o:=fun e n=>P3 e n
  have J:∀{b:JY}{o:Obj}{es:Array ZV}{ep:Nat},s₁.heap.get? b=some o->o.data=.dict es ep->H b=none:=fun{b o es ep} e d=>by
   cases q:H b with
   | none=>rfl
   | some u=>
    have T:b=a:=hA b (by rw [q];simp);subst T;rw [I]at e;cases e;have d':Data.seq vs.toArray _=Data.dict es ep:=d;cases d'
  have f:∀{b:JY}{m:Str->Option YP},s₁.heap.Ns b m->(lX s₁.heap H).Ns b m:=fun{b m} ⟨o,es,ep,e,d,r⟩=>⟨o,es,ep,base_of e (J e d),d,r⟩
  have E:K.In (lX s₁.heap H):=fun b o e=>base_of (KX b o e) (by
   cases q:H b with
   | none=>rfl
   | some u=>
    have T:b=a:=hA b (by rw [q];simp);subst T
    rw [hK (by rw [q];simp)]at e;cases e)
  have hM:Mod K l (lX s₁.heap H):=⟨E,f A,⟨M,f c,Q⟩,let⟨mc,h1,h2⟩:=B;⟨mc,f h1,h2⟩⟩;have e0:n4 P w K l (lX s₁.heap H) callerA [] s₁ H:=⟨rfl,hM,fun b o e=>RU e,Nat.le_of_eq (P4 _ _),trivial,fun b c=>absurd (show b∈([]:List JY)from c) (by simp),y,.of_eq hg⟩;refine JA ((F _ E (f A)).run callerA [] s₁ H ⟨[.ref a],[]⟩ [.ref a] [.ref a] _ _ hr e0 (i s₁ (.ref a)) (.cons rfl .nil) (N H Z hS)) fun r s' h=>?_
  cases r with
  | error e=>exact(R H e s' h).elim
  | ok fl=>
   cases fl with
   | next=>exact ZE h
   | brk=>exact ZE h
   | cont=>exact ZE h
   | ret u=>
    obtain⟨v,H',os,G,un,t,r',q⟩:=h;have q':v=.bl true:=q;subst q'
    obtain rfl:u=ZQ true:=r'
    refine⟨rfl,OldK.of_keep fun b o e=>?_,os,G⟩
    cases q:H b with
    | none=>exact un.keep b o e q (by intro z;exact absurd (show b∈([]:List JY)from z) (by simp)) (by simp)
    | some u=>
     rcases Z b with z | ⟨ob,xs,z⟩
     ·rw [q]at z;cases z
     ·have z2:=un.frzs b ob _ z;obtain⟨e1,_⟩:=y b _ z;obtain⟨e2,_⟩:=t b _ z2;rw [e]at e1;cases e1;exact e2
 cases O:K.lookup a with
 | some o=>
  have e:=KX a o O;rw [I]at e;cases e;refine g (fun _=>none) (fun _=>.inl rfl) (.inr ⟨_,vs.toArray,_,O,rfl,rfl,rfl,by rw [QK,p];exact X,by simpa using U⟩) (fun b u z=>by have j:(none:Option HO)=some u:=z;cases j) (fun b z=>absurd rfl z) fun z=>absurd rfl z
 | none=>
  refine g (fun b=>if b=a then some (.frz { cls:=.type "list",data:=.seq vs.toArray } (.lst (ns.map V.int)))else none) (fun b=>?_) (.inl (.inr ⟨{ cls:=.type "list",data:=.seq vs.toArray },if_pos rfl⟩)) (fun b u z=>?_) (fun b z=>?_) fun _=>O
  ·by_cases c:b=a
   ·exact .inr ⟨_,_,if_pos c⟩
   ·exact .inl (if_neg c)
  ·by_cases c:b=a
   ·have j:=(if_pos c).symm.trans z;cases j;subst c
    exact⟨I,by rw [Qi];exact X,vs,_,U,I⟩
   ·have j:=(if_neg c).symm.trans z;cases j
  ·by_cases c:b=a
   ·exact c
   ·exact absurd (if_neg c) z
theorem walk_of{l:PySem.W.OpenLaw}{n k:Nat}{q:J2}{i:List Str}{XP:(Str->Option YP)->Heap->Prop}{E:J5->Heap->Prop}{d:DefRec}{K:Params->PySem.W.Frag}{CX:J5->iT}{sp:J5->Sp}{x:Str}
  (M:l.most=some n) (t:n<=sizeLine) (z:d.params.defaults=[]) (J:cM k callerA)
  (R:∀(w:J5) (h:Heap),E w h->(K w.params).In h)
  (F:∀(w:J5) (mg:Str->Option YP) (fa:JY) (h:Heap),(K w.params).In h->h.Ns Zd mg->mg d.name=some (.ref fa)->
   ∃ fd:J6,(∀(s:JZ) (u:YP),BindsTo s fd ⟨[u],[]⟩ [(x,u)]) /\
    ∀ base:Heap,(K w.params).In base->base.Ns Zd mg->aM l.prog w (K w.params) mg base (CX w) k fa fd [x] (sp w))
  (r:∀(w:J5) (H:Hp) (a:JY) (ns:List Int),ns.length<=n->Ai H->cD (K w.params) H a (ns.map V.int)->sp w [.ref a] H (fun v _=>v=.bl true) fun _ _ _=>False)
  (A:∀(w:J5) (H:Hp) (s:JZ) (e:YP) (s':JZ),CX w [] H s (fun _ _ _=>False) e s'->False):
  PySem.W.WalkO q i XP E l.row.toRowW d [] (fun f vs=>PySem.call f vs):=by
 refine Att.attach_call M z fun w B m mg mb fa o pm cd Z a vs ns G Y ho hd O y p j c N=>?_;have I:=R w _ Y;obtain⟨fd,Q,X⟩:=F w mg fa _ I G.T.g y;exact SK I G.T.g G.T.b G.T.builtins G.T.nolimit N p j (QL c t) J X Q (fun H U S=>r w H a ns c U S) fun H e s'=>A w H m e s'
def iH(s:Zm)(j:Nat):Zm:=match s with
 | .ClassDef _ _ _ a _ _ _ _ _ _ _=>a.getD j (.Pass ⟨0,0,0,0⟩)
 | _=>.Pass ⟨0,0,0,0⟩
def fA(s:Zm):Arguments:=match s with
 | .FunctionDef _ a _ _ _ _ _ _ _ _=>a
 | _=>{ posonlyargs:=[],args:=[],vararg:=none,kwonlyargs:=[],kw_defaults:=[],kwarg:=none,defaults:=[] }
def dN(s:Zm):List Zm:=match s with
 | .FunctionDef _ _ b _ _ _ _ _ _ _=>b
 | _=>[]
def aS(s:Zm):ZX:=match s with
 | .FunctionDef _ _ _ _ _ _ a _ _ _=>a
 | _=>{ kind:=.function,names:=[],isGenerator:=false,isCoroutine:=false }
abbrev aO:iT:=fun _ _ _ _ _ _=>False
abbrev E0:XK:=fun _ _ _=>False
theorem fP{X:Cx}:oW aO X E0:=fun _ _ _ _ _ _ _ h=>h.elim
structure dR(K:PySem.W.Frag)(x qual:Str)(st:Zm)(f:JY)(fd:J6):Prop where
 ex:∃(oc:YP) (od:Option JY) (kV doc pm:YP) (an:Option JY) (cdv ct:YP) (osl:Array (Option YP)),
  fd=PySem.W.fnOf x qual (fA st) (dN st) (aS st) .none kV doc pm an cdv ct/\K.lookup f=some ⟨oc,od,.func fd,osl⟩/\PySem.W.codeIn K cdv qual=true
 kp:PySem.W.keepIn K (.ref f)=true
section
variable {P:J2}{w:J5}{K:PySem.W.Frag}{mg:Str->Option YP}{base:Heap}
theorem dR.ok{x a:Str}{c:Zm}{f:JY}{g:J6}{N ps:List Str}{k:Nat}{sp:Sp}(F:dR K x a c f g)(S:bR N ps (aS c))(len:∀ vs H Q E,sp vs H Q E->vs.length=ps.length)
  (b:∀(cdv:YP) (A:Around) (outer:List Env) (s:JZ) (H:Hp) (vs:List V) (Q:VK) (E:XK),cM k (A.deeper (UL a (aS c) s.heap.objs.size f cdv))->sp vs H Q E->
   ∃ t,gH (kY aO P w K mg base N a (aS c) f cdv A outer s H E).nox (dN c) t/\t { nx:=fun _ H'=>Q .non H',rt:=Q } (start N vs) H):aM P w K mg base aO (k+1) f g ps sp:=by
 obtain⟨p,o,kV,m,n,u,cdv,r,i,rfl,j,e⟩:=F.ex;refine L6 j e S len fun A outer s H vs Q E l d=>?_;obtain⟨t,h,q⟩:=b cdv A outer s H vs Q E l d
 exact⟨t,h.nox,q⟩
theorem qE{x a:Str}{d:Zm}{f:JY}{m:YP}{j i:Option JY}{g:Array (Option YP)}{kV e h b ct:YP}(l:K.lookup f=some ⟨m,j,.func (PySem.W.fnOf x a (fA d) (dN d) (aS d) .none kV e h i b ct),g⟩)
  (c:PySem.W.codeIn K b a=true) (k:PySem.W.keepIn K (.ref f)=true):dR K x a d f (PySem.W.fnOf x a (fA d) (dN d) (aS d) .none kV e h i b ct):=⟨⟨m,j,kV,e,h,i,b,ct,g,rfl,l,c⟩,k⟩
end
theorem tZ{n:Nat}(h:n<=1000):n<sizeLine:=YX h (by decide)
section
variable {X:Cx}
theorem pv(i:Nat){x:Str}{pos:Pos}(d:X.N[i]?=some x:=by rfl)(b:iB X.env.scope x:=by first | exact Zl rfl | exact Zf (Zl rfl) | exact Zf (Zf rfl))(c:(x == ("__debug__":Str))=false:=by decide)
  (a:(x == ("__classdict__":Str))=false:=by decide):PE X (.Name x pos) (AV i):=hW d b c a
end
def fG(H a:Hp):Prop:=∀ b o,H b=some o->a b=some o
theorem fG.refl(H:Hp):fG H H:=fun _ _ h=>h
theorem fG.trans{H d H2:Hp}(a:fG H d)(b:fG d H2):fG H H2:=fun c o h=>b c o (a c o h)
theorem fG.free{H a:Hp}(e:fG H a){l:JY}(h:a l=Option.none):H l=Option.none:=by
 cases q:H l with
 | none=>rfl
 | some o=>
  rw [e l o q]at h;cases h
end L2
namespace SG
open PySem PyProof.Rows
section
variable {prog:J2}{w:J5}{A:Around}{E:YP->JZ->Prop}{s:JZ}{src:Array J8}{κ:KeyKind}{kd:ZP}
def gY(prog:J2)(w:J5)(A:Around)(s:JZ)(κ:KeyKind)(kd:ZP):Prop:=
 ∀(x y:YP) (a b:κ.α) (E:YP->JZ->Prop) (Q:Bool->JZ->Prop),κ.keyOf x=some a->κ.keyOf y=some b->Q (κ.blt a b) s->J1 (J3 prog w) A (keyLt' kd x y) Q E s
end
end SG
namespace TS
open PySem PyProof.Rows SG
structure Ft(src:Array J8)(kd:ZP)(z:Za):Prop where
 mix:(J7 z).Perm src
 kd:kindOf z=kd
 fine:Z7 z=none
theorem Ft.len{src:Array J8}{kd:ZP}{z:Za}(f:Ft src kd z):(J7 z).size=src.size:=f.mix.size_eq
theorem Ft.re{src:Array J8}{kd:ZP}{z:Za}(f:Ft src kd z){a:Array J8}(m:a.Perm (J7 z)):Ft src kd (ZJ z a):=⟨m.trans f.mix,f.kd,f.fine⟩
def aL(d a top:Nat):StateT Za Sem AscSt:=forIn [a:top] ((none,a):AscSt) fun _ c=>ltAt' (d+c.snd) (d+c.snd-1) >>= fun x=>match x with
 | some b=>if b=true then pure (.done (none,c.snd))else pure (.yield (none,c.snd+1))
 | _=>pure (.done (some none,c.snd))
def sY(a n top:Nat):StateT Za Sem (Option Nat):=reverseSlice' a (a+n) >>= fun _=>aL a n top >>= fun c=>match c.fst with
 | some r=>pure r
 | none=>pure (some c.snd)
def dL(a n top:Nat):StateT Za Sem DescSt:=forIn [n:top] ((none,n,0):DescSt) fun _ c=>ltAt' (a+c.snd.fst) (a+c.snd.fst-1) >>= fun x=>match x with
 | some b=>if b=true then(if c.snd.snd > 0 then(reverseSlice' (a+c.snd.fst-(c.snd.snd+1)) (a+c.snd.fst) >>= fun _=>pure (.yield (none,c.snd.fst+1,0)))else pure (.yield (none,c.snd.fst+1,0)))
  else ltAt' (a+c.snd.fst-1) (a+c.snd.fst) >>= fun y=>match y with
   | some g=>if g=true then pure (.done (none,c.snd.fst,c.snd.snd))else pure (.yield (none,c.snd.fst+1,c.snd.snd+1))
   | _=>pure (.done (some none,c.snd.fst,c.snd.snd))
 | _=>pure (.done (some none,c.snd.fst,c.snd.snd))
def dP(a n top:Nat):StateT Za Sem (Option Nat):=liftM (rule "list.sort.descending-run") >>= fun _=>dL a (n+1) top >>= fun c=>match c.fst with
 | some r=>pure r
 | none=>if c.snd.snd > 0 then(reverseSlice' (a+c.snd.fst-(c.snd.snd+1)) (a+c.snd.fst) >>= fun _=>sY a c.snd.fst top)else sY a c.snd.fst top
theorem LM(a top:Nat):countRun' a top=(aL a 1 top >>= fun c=>match c.fst with
  | some r=>pure r
  | none=>if(c.snd == top)=true then pure (some c.snd)else if c.snd > 1 then(ltAt' a (a+c.snd-1) >>= fun x=>match x with
    | some g=>if g=true then pure (some c.snd)else(reverseSlice' a (a+c.snd) >>= fun _=>dP a c.snd top)
    | _=>pure none)
   else dP a c.snd top):=by
 rw [countRun'_eq];unfold dP sY dL aL;refine bind_congr fun c=>?_;obtain⟨r,n⟩:=c
 cases r with
 | some r=>rfl
 | none=>
  dsimp only;split
  ·rfl
  ·split
   ·refine bind_congr fun x=>?_
    cases x with
    | none=>rfl
    | some g=>
     dsimp only;split
     ·rfl
     ·refine bind_congr fun _=>bind_congr fun _=>bind_congr fun f=>?_;obtain⟨e,j,i⟩:=f
      cases e with
      | some e=>rfl
      | none=>
       dsimp only;split
       ·refine bind_congr fun _=>bind_congr fun _=>bind_congr fun b=>?_;obtain⟨d,h⟩:=b
        cases d <;> rfl
       ·refine bind_congr fun _=>bind_congr fun b=>?_;obtain⟨d,h⟩:=b
        cases d <;> rfl
   ·refine bind_congr fun _=>bind_congr fun f=>?_;obtain⟨e,j,i⟩:=f
    cases e with
    | some e=>rfl
    | none=>
     dsimp only;split
     ·refine bind_congr fun _=>bind_congr fun _=>bind_congr fun b=>?_;obtain⟨d,h⟩:=b
      cases d <;> rfl
     ·refine bind_congr fun _=>bind_congr fun b=>?_;obtain⟨d,h⟩:=b
      cases d <;> rfl
def Up(κ:KeyKind)(xs:Array J8)(a n:Nat):Prop:=∀ i j,i<=j->j<n->κ.kle (KK κ xs (a+i)) (KK κ xs (a+j))
def Dn(κ:KeyKind)(xs:Array J8)(a n:Nat):Prop:=∀ i j,i<=j->j<n->κ.kle (KK κ xs (a+j)) (KK κ xs (a+i))
def Sm(κ:KeyKind)(b:Nat)(xs a:Array J8):Prop:=∀ k,k<b->KK κ a k=KK κ xs k
theorem Sm.refl{κ:KeyKind}{a:Nat}(xs:Array J8):Sm κ a xs xs:=fun _ _=>rfl
theorem Sm.trans{κ:KeyKind}{c:Nat}{xs d zs:Array J8}(a:Sm κ c xs d)(b:Sm κ c d zs):Sm κ c xs zs:=fun k h=>(b k h).trans (a k h)
theorem zH{κ:KeyKind}{a i j:Nat}{xs:Array J8}(b:j<=xs.size)(h:a<=i):Sm κ a xs (mirror xs i j ((j-i) / 2)):=fun k c=>by
 rw [KK_mirror b,if_neg (by lia)]
section
variable {prog:J2}{w:J5}{A:Around}{E:YP->JZ->Prop}{s:JZ}{src:Array J8}{κ:KeyKind}{kd:ZP}
theorem Ft.item{z:Za}(f:Ft src kd z)(all:KeysOf κ src){i:Nat}(h:i<src.size):∃ x y a,(J7 z)[i]?=some (x,y)/\κ.keyOf x=some a/\KK κ (J7 z) i=a:=by
 have c:i<(J7 z).size:=by rw [f.len];exact h
 have e:=getElem?_pos (J7 z) i c;obtain⟨a,b⟩:=all (J7 z)[i] ((YO.mp f.mix).mem_iff.mp (by simp))
 exact⟨_,_,a,e,b,by unfold KK;rw [e];simp [b]⟩
theorem sM{z:Za}{x y:J8}{a b:κ.α}{Q:Option Bool->Za->Prop}(L:gY prog w A s κ kd)(hz:kindOf z=kd)(d:κ.keyOf x.1=some a)(c:κ.keyOf y.1=some b)(k:Q (some (κ.blt a b)) z):wpS (J3 prog w) A E s (lt' x y) Q z:=by
 rw [lt'_eq];refine Qu (UD (Qu (UX (UE ?_))));rw [hz];exact L x.1 y.1 a b _ _ d c ⟨rfl,QA k⟩
theorem eH{z:Za}{xs:Array J8}{i:Nat}{p:J8}{Q:J8->Za->Prop}(h:xs[i]?=some p)(k:Q p z):wpS (J3 prog w) A E s (elem' xs i) Q z:=by
 rw [elem'_eq,h];exact QA k
theorem sN{z:Za}{i j:Nat}{Q:Option Bool->Za->Prop}(L:gY prog w A s κ kd)(f:Ft src kd z)(all:KeysOf κ src)(l:i<src.size)(h:j<src.size)
  (k:Q (some (κ.blt (KK κ (J7 z) i) (KK κ (J7 z) j))) z):wpS (J3 prog w) A E s (ltAt' i j) Q z:=by
 obtain⟨x,p,a,n,g,d⟩:=f.item all l;obtain⟨y,o,b,m,e,c⟩:=f.item all h;rw [d,c]at k;rw [ltAt'_eq];exact Qu (UD (Qu (eH n (Qu (eH m (sM L f.kd g e k))))))
variable {lo:Nat}
theorem ED{z:Za}{a top:Nat}{Q:AscSt->Za->Prop}(L:gY prog w A s κ kd)(all:KeysOf κ src)(f:Ft src kd z)(y:1<=a)(p:a<=top)(v:lo+top<=src.size)(r:Up κ (J7 z) lo a)
  (k:∀ n,a<=n->n<=top->Up κ (J7 z) lo n->n=top ∨ κ.klt (KK κ (J7 z) (lo+n)) (KK κ (J7 z) (lo+n-1))->Q (none,n) z):wpS (J3 prog w) A E s (aL lo a top) Q z:=by
 unfold aL;refine Ys (fun x c d=>d=z/\c=(none,x)/\Up κ (J7 z) lo x) (fun x c d u t l=>?_) (fun c d l=>?_) ⟨rfl,rfl,r⟩
 ·obtain⟨g,h,b⟩:=l;subst g h;dsimp only;refine Qu (sN L f all (by lia) (by lia) ?_)
  cases q:κ.blt (KK κ (J7 d) (lo+x)) (KK κ (J7 d) (lo+x-1))with
  | true=>simp only [if_true];exact QA (k x u (Y2 t) b (Zf q))
  | false=>
   simp only [Qj,if_false];refine QA ⟨rfl,rfl,fun i j le lt=>?_⟩;rcases UM j x with o | o
   ·exact b i j le o
   ·obtain rfl:j=x:=by lia
    rcases YH le with m | m
    ·subst m;exact Yp _
    ·rw [show lo+j-1=lo+(j-1) by lia]at q;exact Yd (b i (j-1) (by lia) (by lia)) q
 ·obtain⟨g,h,b⟩:=l;subst g h
  have e:max a top=top:=by lia
  rw [e]at b ⊢;exact k top p (Ql _) b (Zl rfl)
theorem Ku{z:Za}{n top:Nat}{Q:Option Nat->Za->Prop}(L:gY prog w A s κ kd)(all:KeysOf κ src)(f:Ft src kd z)(a:1<=n)(e:n<=top)(d:lo+top<=src.size)(r:Dn κ (J7 z) lo n)
  (k:∀ m ys,Ft src kd (ZJ z ys)->Sm κ lo (J7 z) ys->1<=m->m<=top->Up κ ys lo m->Q (some m) (ZJ z ys)):wpS (J3 prog w) A E s (sY lo n top) Q z:=by
 have sz:lo+n<=(J7 z).size:=by rw [f.len];lia
 have b:Ft src kd (ZJ z (mirror (J7 z) lo (lo+n) ((lo+n-lo) / 2))):=f.re (mirror_perm _ _ _ _)
 have c:Up κ (J7 (ZJ z (mirror (J7 z) lo (lo+n) ((lo+n-lo) / 2)))) lo n:=by
  intro i j le lt
  show κ.kle (KK κ (mirror (J7 z) lo (lo+n) ((lo+n-lo) / 2)) (lo+i)) (KK κ (mirror (J7 z) lo (lo+n) ((lo+n-lo) / 2)) (lo+j))
  rw [KK_mirror sz,KK_mirror sz,if_pos ⟨by lia,by lia⟩,if_pos ⟨by lia,by lia⟩,show lo+(lo+n)-1-(lo+i)=lo+(n-1-i) by lia,show lo+(lo+n)-1-(lo+j)=lo+(n-1-j) by lia];exact r _ _ (by lia) (by lia)
 unfold sY;refine Qu (wpS_reverse (Qu (ED L all b a e d c fun m l h g _=>?_)));exact QA (k m _ b (zH sz (Ql _)) (QL a l) h g)
theorem Rt{z:Za}{n top:Nat}{Q:DescSt->Za->Prop}(L:gY prog w A s κ kd)(all:KeysOf κ src)(f:Ft src kd z)(N:1<=n)(M:n<=top)(S:lo+top<=src.size)(r:Dn κ (J7 z) lo n)
  (k:∀ m q ys,Ft src kd (ZJ z ys)->Sm κ lo (J7 z) ys->n<=m->m<=top->Dn κ ys lo m->q+1<=m->(∀ i,m-(q+1)<=i->i<m->KK κ ys (lo+i)=KK κ ys (lo+(m-1)))->Q (none,m,q) (ZJ z ys)):wpS (J3 prog w) A E s (dL lo n top) Q z:=by
 have one:∀(ys:Array J8) (x:Nat) (i:Nat),x-(0+1)<=i->i<x->KK κ ys (lo+i)=KK κ ys (lo+(x-1)):=fun ys x i B o=>by
  have:i=x-1:=Nat.le_antisymm (Nat.le_sub_one_of_lt o) B
  rw [this]
 unfold dL
 refine Ys (fun x c t=>∃ q ys,t=ZJ z ys/\c=(none,x,q)/\Ft src kd t/\Sm κ lo (J7 z) ys/\Dn κ ys lo x/\q+1<=x/\∀ i,x-(q+1)<=i->i<x->KK κ ys (lo+i)=KK κ ys (lo+(x-1)))
  (fun x c t R O I=>?_) (fun c t I=>?_) ⟨0,J7 z,rfl,rfl,f,Sm.refl _,r,N,one _ _⟩
 ·obtain⟨q,ys,G,v,b,h,d,u,l⟩:=I;subst G v;dsimp only
  have J:lo+x<src.size:=by lia
  have sz:lo+x<=ys.size:=by have:=b.len;show lo+x<=(J7 (ZJ z ys)).size;lia
  have g:lo+x-1=lo+(x-1):=by lia
  refine Qu (sN L b all J (by lia) ?_)
  show wpS _ _ _ _ (if κ.blt (KK κ ys (lo+x)) (KK κ ys (lo+x-1))=true then _ else _) _ _
  rw [g]
  cases B:κ.blt (KK κ ys (lo+x)) (KK κ ys (lo+(x-1)))with
  | true=>
   simp only [if_true]
   have more:∀ F:Array J8,(∀ m,KK κ F m=KK κ ys m)->Dn κ F lo (x+1):=fun F a i j le lt=>by
    rw [a,a];rcases UM j x with p | p
    ·exact d i j le p
    ·obtain rfl:j=x:=Nat.le_antisymm (JL lt) p
     rcases YH le with y | y
     ·subst y;exact Yp _
     ·exact Yd (YQ B) (d i (j-1) (by lia) (by lia))
   by_cases o:q > 0
   ·rw [if_pos o]
    have H:∀ m,lo+x-(q+1)<=m->m<lo+x->KK κ ys m=KK κ ys (lo+x-1):=fun m p y=>by
     have:=l (m-lo) (by lia) (by lia)
     rw [show lo+(m-lo)=m by lia]at this;rw [this,g]
    refine Qu (wpS_reverse (QA ⟨0,_,rfl,rfl,b.re (mirror_perm _ _ _ _),h.trans (zH sz (by lia)),more _ (JU sz H),Nat.succ_le_succ (Q9 _),one _ _⟩))
   ·rw [if_neg o];exact QA ⟨0,ys,rfl,rfl,b,h,more _ fun _=>rfl,Nat.succ_le_succ (Q9 _),one _ _⟩
  | false=>
   simp only [Qj,if_false];refine Qu (sN L b all (by lia) J ?_)
   show wpS _ _ _ _ (if κ.blt (KK κ ys (lo+(x-1))) (KK κ ys (lo+x))=true then _ else _) _ _
   cases o:κ.blt (KK κ ys (lo+(x-1))) (KK κ ys (lo+x))with
   | true=>simp only [if_true];exact QA (k x q ys b h R (Y2 O) d u l)
   | false=>
    simp only [Qj,if_false];have a:KK κ ys (lo+x)=KK κ ys (lo+(x-1)):=KeyOrd.kle_antisymm o B;refine QA ⟨q+1,ys,rfl,rfl,b,h,fun i j le lt=>?_,by lia,fun i p y=>?_⟩
    ·rcases UM j x with g | g
     ·exact d i j le g
     ·obtain rfl:j=x:=by lia
      rcases YH le with K | K
      ·subst K;exact Yp _
      ·rw [a];exact d i (j-1) (by lia) (by lia)
    ·show KK κ ys (lo+i)=KK κ ys (lo+x)
     rcases UM i x with g | g
     ·rw [a];exact l i (by lia) g
     ·have:i=x:=by lia
      rw [this]
 ·obtain⟨q,ys,G,v,b,h,d,u,l⟩:=I
  have e:max n top=top:=by lia
  rw [e]at v d u l;subst v G;exact k top q ys b h M (Ql _) d u l
end
section
variable {prog:J2}{w:J5}{A:Around}{E:YP->JZ->Prop}{s:JZ}{src:Array J8}{κ:KeyKind}{kd:ZP}{lo:Nat}
theorem IL{z:Za}{n top:Nat}{Q:Option Nat->Za->Prop}(L:gY prog w A s κ kd)(all:KeysOf κ src)(f:Ft src kd z)(B:n+1<=top)(g:lo+top<=src.size)(r:Dn κ (J7 z) lo (n+1))
  (k:∀ m ys,Ft src kd (ZJ z ys)->Sm κ lo (J7 z) ys->1<=m->m<=top->Up κ ys lo m->Q (some m) (ZJ z ys)):wpS (J3 prog w) A E s (dP lo n top) Q z:=by
 unfold dP;refine Qu (UX (Y7 ⟨rfl,Qu (Rt L all f (Nat.le_add_left 1 n) B g r fun m q ys l u G x v F y=>?_)⟩))
 have sz:lo+m<=ys.size:=by have:=l.len;show lo+m<=(J7 (ZJ z ys)).size;lia
 dsimp only;by_cases c:q > 0
 ·rw [if_pos c]
  have b:∀ i,lo+m-(q+1)<=i->i<lo+m->KK κ ys i=KK κ ys (lo+m-1):=fun i I H=>by
   have:=y (i-lo) (by lia) (by lia)
   rw [show lo+(i-lo)=i by lia]at this;rw [this,show lo+m-1=lo+(m-1) by lia]
  refine Qu (wpS_reverse (Ku L all (l.re (mirror_perm _ _ _ _)) (by lia) x g (fun i j le lt=>?_) fun e d h a t p o=>k e d h ((u.trans (zH sz (by lia))).trans a) t p o))
  show κ.kle (KK κ (mirror ys (lo+m-(q+1)) (lo+m) ((lo+m-(lo+m-(q+1))) / 2)) (lo+j)) (KK κ (mirror ys (lo+m-(q+1)) (lo+m) ((lo+m-(lo+m-(q+1))) / 2)) (lo+i))
  rw [JU sz b,JU sz b];exact v i j le lt
 ·rw [if_neg c];exact Ku L all l (by lia) x g v fun e d h a t p o=>k e d h (u.trans a) t p o
theorem ND{z:Za}{top:Nat}{Q:Option Nat->Za->Prop}(L:gY prog w A s κ kd)(all:KeysOf κ src)(f:Ft src kd z)(B:1<=top)(p:lo+top<=src.size)
  (k:∀ m ys,Ft src kd (ZJ z ys)->Sm κ lo (J7 z) ys->1<=m->m<=top->Up κ ys lo m->Q (some m) (ZJ z ys)):wpS (J3 prog w) A E s (countRun' lo top) Q z:=by
 have y:Up κ (J7 z) lo 1:=fun i j le lt=>by
  obtain rfl:i=j:=by lia
  exact Yp _
 rw [LM];refine Qu (ED L all f (Ql 1) B p y fun n t r g F=>?_);dsimp only;by_cases c:n=top
 ·rw [if_pos (beq_iff_eq.mpr c)];exact QA (k n (J7 z) f (Sm.refl _) t r g)
 ·rw [if_neg (fun h=>c (beq_iff_eq.mp h))];have a:=F.resolve_left c
  have q:lo+n-1=lo+(n-1):=by lia
  rw [q]at a;by_cases v:n > 1
  ·rw [if_pos v];refine Qu (sN L f all (by lia) (by lia) ?_);dsimp only;rw [q]
   cases I:κ.blt (KK κ (J7 z) lo) (KK κ (J7 z) (lo+(n-1)))with
   | true=>simp only [if_true];exact QA (k n (J7 z) f (Sm.refl _) t r g)
   | false=>
    simp only [Qj,if_false]
    have sz:lo+n<=(J7 z).size:=by rw [f.len];lia
    have l:∀ m,m<n->KK κ (J7 z) (lo+m)=KK κ (J7 z) (lo+(n-1)):=fun m lt=>
     KeyOrd.kle_antisymm (g m (n-1) (by lia) (by lia)) (Yd I (g 0 m (Q9 _) lt))
    have e:∀ m,lo<=m->m<lo+n->KK κ (J7 z) m=KK κ (J7 z) (lo+n-1):=fun m u b=>by
     have:=l (m-lo) (by lia)
     rw [show lo+(m-lo)=m by lia]at this;rw [this,q]
    refine Qu (wpS_reverse (IL L all (f.re (mirror_perm _ _ _ _)) (by lia) p (fun i j le lt=>?_) fun m x G o u b H=>k m x G ((zH sz (Ql _)).trans o) u b H))
    show κ.kle (KK κ (mirror (J7 z) lo (lo+n) ((lo+n-lo) / 2)) (lo+j)) (KK κ (mirror (J7 z) lo (lo+n) ((lo+n-lo) / 2)) (lo+i))
    rw [JU sz e,JU sz e];rcases UM j n with d | d
    ·rw [l i (by lia),l j d];exact Yp _
    ·obtain rfl:j=n:=by lia
     rcases YH le with b | b
     ·subst b;exact Yp _
     ·rw [l i b];exact YQ a
  ·rw [if_neg v]
   obtain rfl:n=1:=by lia
   refine IL L all f (by lia) p (fun i j le lt=>?_) k;rcases YH le with b | b
   ·subst b;exact Yp _
   ·obtain rfl:i=0:=by lia
    obtain rfl:j=1:=by lia
    exact YQ a
theorem Mi{z:Za}{n ok:Nat}{Q:Bool->Za->Prop}(L:gY prog w A s κ kd)(all:KeysOf κ src)(f:Ft src kd z)(h1:ok<=n)(h3:lo+n<=src.size)(r:Up κ (J7 z) lo ok)
  (k:∀ ys,Ft src kd (ZJ z ys)->Sm κ lo (J7 z) ys->Up κ ys lo n->Q true (ZJ z ys)):wpS (J3 prog w) A E s (binarySort' lo n ok) Q z:=by
 rw [binarySort'_eq]
 have R:Up κ (J7 z) lo (min (max ok 1) n):=fun i j le lt=>by
  rcases YH le with c | c
  ·subst c;exact Yp _
  ·exact r i j le (by lia)
 refine Qu (Jq (Ys (fun m c o=>∃ ys,o=ZJ z ys/\c=(none,())/\Ft src kd o/\Sm κ lo (J7 z) ys/\Up κ ys lo (min m n)) (Q:=fun c o=>∃ ys,o=ZJ z ys/\c=(none,())/\Ft src kd o/\Sm κ lo (J7 z) ys/\Up κ ys lo n)
  (fun m c o g1 g2 J=>?_) (fun c o J=>?_) ⟨J7 z,rfl,rfl,f,Sm.refl _,R⟩) fun c o W=>?_)
 ·obtain⟨ys,b,g,u,F,a⟩:=J;subst b g
  have Y:min m n=m:=by lia
  rw [Y]at a
  have T:lo+m<src.size:=by lia
  refine Qu (Jq (Ys (fun t c v=>v=ZJ z ys/\∃ l h,c=(none,l,h)/\l<=h/\h<=m/\h+t<=m+l/\(∀ i,i<l->κ.kle (KK κ ys (lo+i)) (KK κ ys (lo+m))) /\
    ∀ i,h<=i->i<m->κ.klt (KK κ ys (lo+m)) (KK κ ys (lo+i)))
   (Q:=fun c v=>v=ZJ z ys/\∃ l h,c=(none,l,h)/\l<=m/\(∀ i,i<l->κ.kle (KK κ ys (lo+i)) (KK κ ys (lo+m)))/\∀ i,l<=i->i<m->κ.klt (KK κ ys (lo+m)) (KK κ ys (lo+i)))
   (fun t c v _ lt G=>?_) (fun c v G=>?_) ⟨rfl,0,m,rfl,Q9 _,Ql _,by lia,fun i c=>absurd c (YE _),fun i N p=>absurd p (Nat.not_lt.mpr N)⟩) fun c v G=>?_)
  ·obtain⟨b,l,h,g,N,p,O,B,y⟩:=G;subst b g;dsimp only;by_cases d:l >= h
   ·rw [if_pos d]
    obtain rfl:l=h:=by lia
    exact QA ⟨rfl,l,l,rfl,p,B,y⟩
   ·rw [if_neg d]
    have I:l<=(l+h) / 2/\(l+h) / 2<h:=by clear p O;lia
    generalize (l+h) / 2=x at I ⊢;refine Qu (sN L u all T (by lia) ?_)
    show wpS _ _ _ _ (if κ.blt (KK κ ys (lo+m)) (KK κ ys (lo+x))=true then _ else _) _ _
    cases q:κ.blt (KK κ ys (lo+m)) (KK κ ys (lo+x))with
    | true=>
     simp only [if_true];exact QA ⟨rfl,l,x,rfl,I.1,by lia,by lia,B,fun i M K=>KeyOrd.klt_of_klt_of_kle q (a _ _ M K)⟩
    | false=>
     simp only [Qj,if_false];refine QA ⟨rfl,x+1,h,rfl,I.2,p,by lia,fun i M=>?_,y⟩;have S:κ.kle (KK κ ys (lo+x)) (KK κ ys (lo+m)):=q;exact Yd (a i x (JL M) (by lia)) S
  ·obtain⟨b,l,h,g,N,p,O,B,y⟩:=G
   obtain rfl:l=h:=by lia
   exact⟨b,l,l,g,p,B,y⟩
  ·obtain⟨b,l,h,g,p,B,y⟩:=G;subst b g
   show wpS _ _ _ _ (moveDown' (lo+m) (lo+l) >>= fun _=>pure (Ue (none,()))) _ _
   rw [moveDown'_eq]
   have X:lo+m<ys.size:=by have:=u.len;show lo+m<(J7 (ZJ z ys)).size;lia
   have Z:lo+m-(lo+m-(lo+l))=lo+l:=by lia
   have H:∀ i,KK κ (bubble ys (lo+m) (lo+m-(lo+l))) i=if i=lo+l then KK κ ys (lo+m)else if lo+l<i/\i<=lo+m then KK κ ys (i-1)else KK κ ys i:=fun i=>by
    rw [KK_bubble X (by lia),Z]
   refine Qu (JW (QA ⟨_,rfl,rfl,u.re (bubble_perm _ _ _),F.trans fun i hi=>by rw [H,if_neg (by lia),if_neg (by lia)],?_⟩))
   have K:min (m+1) n=m+1:=by lia
   rw [K];intro i j le lt
   show κ.kle (KK κ (bubble ys (lo+m) (lo+m-(lo+l))) (lo+i)) (KK κ (bubble ys (lo+m) (lo+m-(lo+l))) (lo+j))
   rw [H,H]
   by_cases i1:i=l <;> by_cases j1:j=l
   ·rw [if_pos (by lia),if_pos (by lia)];exact Yp _
   ·rw [if_pos (by lia),if_neg (by lia),if_pos ⟨by lia,by lia⟩,show lo+j-1=lo+(j-1) by lia];exact YQ (y _ (by lia) (by lia))
   ·rw [if_neg (by lia),if_neg (by lia),if_pos (by lia)];exact B _ (by lia)
   ·rw [if_neg (by lia),if_neg (show ¬ lo+j=lo+l by lia)]
    by_cases i2:l<i/\i<=m <;> by_cases U:l<j/\j<=m
    ·rw [if_pos ⟨by lia,by lia⟩,if_pos ⟨by lia,by lia⟩,show lo+i-1=lo+(i-1) by lia,show lo+j-1=lo+(j-1) by lia];exact a _ _ (by lia) (by lia)
    ·exact absurd ⟨by lia,by lia⟩ U
    ·rw [if_neg (by lia),if_pos ⟨by lia,by lia⟩,show lo+j-1=lo+(j-1) by lia];exact a _ _ (by lia) (by lia)
    ·rw [if_neg (by lia),if_neg (by lia)];exact a _ _ le (by lia)
 ·obtain⟨ys,b,g,u,F,a⟩:=J
  have e:min (max (max ok 1) n) n=n:=by lia
  rw [e]at a
  exact⟨ys,b,g,u,F,a⟩
 ·obtain⟨ys,b,g,u,F,a⟩:=W;subst g b;exact QA (k ys u F a)
end
def gal:Bool->J8->Array J8->Nat->Nat->Nat->StateT Za Sem (Option Nat):=sortPriv% PySem.Builtin.gallop
def pL(left:Bool)(a:J8)(b:Array J8)(base i:Nat):StateT Za Sem (Option Bool):=elem' b (base+i) >>= fun x=>if left=true then lt' x a else lt' a x >>= fun r=>pure (r.map (!·))
def pM(left:Bool)(a:J8)(b:Array J8)(base n d e:Nat):StateT Za Sem (Option Nat):=
 forIn [0:n] ((none,d,e):Option (Option Nat) × Nat × Nat) (fun _ c=>if c.snd.fst >= c.snd.snd then pure (.done (none,c.snd.fst,c.snd.snd))else pL left a b base (c.snd.fst+(c.snd.snd-c.snd.fst) / 2) >>= fun x=>match x with
  | some m=>if m=true then pure (.yield (none,c.snd.fst+(c.snd.snd-c.snd.fst) / 2+1,c.snd.snd))else pure (.yield (none,c.snd.fst,c.snd.fst+(c.snd.snd-c.snd.fst) / 2))
  | _=>pure (.done (some none,c.snd.fst,c.snd.snd))) >>= fun c=>match c.fst with
  | some r=>pure r
  | none=>pure (some c.snd.snd)
def bB(κ:KeyKind)(left:Bool)(kk:κ.α)(a:Array J8)(base i:Nat):Bool:=if left=true then κ.blt (KK κ a (base+i)) kk else !κ.blt kk (KK κ a (base+i))
def Ks(κ:KeyKind)(b:Array J8)(base n:Nat):Prop:=∀ i,i<n->∃ p a,b[base+i]?=some p/\κ.keyOf p.1=some a/\KK κ b (base+i)=a
section
variable {prog:J2}{w:J5}{A:Around}{E:YP->JZ->Prop}{s:JZ}{κ:KeyKind}{kd:ZP}{left:Bool}{key:J8}{kk:κ.α}{arr:Array J8}{base n:Nat}{z:Za}
theorem rO(u:Up κ arr base n){i j:Nat}(le:i<=j)(lt:j<n)(h:bB κ left kk arr base j=true):bB κ left kk arr base i=true:=by
 have q:=u i j le lt;unfold bB at h ⊢
 cases left with
 | true=>exact KeyOrd.klt_of_kle_of_klt q h
 | false=>
  simp only [Qj,if_false,Yr]at h ⊢;exact Yd q h
variable (L:gY prog w A s κ kd)(hz:kindOf z=kd)(hk:κ.keyOf key.1=some kk)(ks:Ks κ arr base n)
include L hz hk ks
theorem wA{i:Nat}{Q:Option Bool->Za->Prop}(c:i<n)(k:Q (some (bB κ left kk arr base i)) z):wpS (J3 prog w) A E s (pL left key arr base i) Q z:=by
 obtain⟨p,a,e,b,d⟩:=ks i c;unfold pL;refine Qu (eH e ?_);unfold bB at k;rw [d]at k
 cases left with
 | true=>rw [if_pos rfl]at k ⊢;exact sM L hz b hk k
 | false=>
  rw [if_neg Qq]at k ⊢;exact Qu (sM L hz hk b (QA k))
theorem EK{j e:Nat}{Q:Option Nat->Za->Prop}(u:Up κ arr base n)(G:j<=e)(F:e<=n)(b1:∀ i,i<j->bB κ left kk arr base i=true)(K:∀ i,e<=i->i<n->bB κ left kk arr base i=false)
  (k:∀ t,t<=n->(∀ i,i<t->bB κ left kk arr base i=true)->(∀ i,t<=i->i<n->bB κ left kk arr base i=false)->Q (some t) z):wpS (J3 prog w) A E s (pM left key arr base n j e) Q z:=by
 unfold pM
 refine Qu (Jq (Ys (fun t c b=>b=z/\∃ l h,c=(none,l,h)/\l<=h/\h<=n/\h+t<=n+l/\(∀ i,i<l->bB κ left kk arr base i=true)/\∀ i,h<=i->i<n->bB κ left kk arr base i=false)
  (Q:=fun c b=>b=z/\∃ l,c=(none,l,l)/\l<=n/\(∀ i,i<l->bB κ left kk arr base i=true)/\∀ i,l<=i->i<n->bB κ left kk arr base i=false)
  (fun t c b _ lt r=>?_) (fun c b r=>?_) ⟨rfl,j,e,rfl,G,F,by lia,b1,K⟩) fun c b B=>?_)
 ·obtain⟨rfl,l,h,rfl,J,a,v,g,f⟩:=r;dsimp only;by_cases d:l >= h
  ·rw [if_pos d]
   obtain rfl:l=h:=by lia
   exact QA ⟨rfl,l,rfl,a,g,f⟩
  ·rw [if_neg d]
   have p:l<=l+(h-l) / 2/\l+(h-l) / 2<h:=by clear a v;lia
   generalize l+(h-l) / 2=m at p ⊢;refine Qu (wA L hz hk ks (by lia) ?_);dsimp only
   cases q:bB κ left kk arr base m with
   | true=>
    simp only [if_true];exact QA ⟨rfl,m+1,h,rfl,p.2,a,by lia,fun i e=>rO u (by lia) (by lia) q,f⟩
   | false=>
    simp only [Qj,if_false];refine QA ⟨rfl,l,m,rfl,p.1,by lia,by lia,g,fun i I H=>?_⟩
    cases x:bB κ left kk arr base i with
    | false=>rfl
    | true=>rw [rO u I H x]at q;cases q
 ·obtain⟨o,l,h,y,J,a,v,g,f⟩:=r
  have:max 0 n=n:=by lia
  rw [this]at v
  obtain rfl:l=h:=by lia
  exact⟨o,l,y,a,g,f⟩
 ·obtain⟨rfl,l,rfl,a,g,f⟩:=B;exact QA (k l a g f)
theorem qF{hint:Nat}{Q:Option Nat->Za->Prop}(u:Up κ arr base n)(p:hint<n)
  (k:∀ t,t<=n->(∀ i,i<t->bB κ left kk arr base i=true)->(∀ i,t<=i->i<n->bB κ left kk arr base i=false)->Q (some t) z):wpS (J3 prog w) A E s (gal left key arr base n hint) Q z:=by
 unfold gal
 show wpS _ _ _ _ (pL left key arr base hint >>= _) Q z
 refine Qu (wA L hz hk ks p ?_);dsimp only
 cases I:bB κ left kk arr base hint with
 | true=>
  simp only [if_true]
  refine Qu (Jq (Ys (fun t c e=>e=z/\∃ b a,c=(none,b,a)/\t<a/\b<a/\hint+b<n/\bB κ left kk arr base (hint+b)=true)
   (Q:=fun c e=>e=z/\∃ b a,c=(none,b,a)/\b<a/\hint+b<n/\bB κ left kk arr base (hint+b)=true/\(hint+a<n->bB κ left kk arr base (hint+a)=false))
   (fun t c e _ lt v=>?_) (fun c e v=>?_) ⟨rfl,0,1,rfl,by lia,by lia,by lia,I⟩) fun c e B=>?_)
  ·obtain⟨rfl,b,a,rfl,H,j,g,f⟩:=v;dsimp only;by_cases d:a >= n-hint
   ·rw [if_pos d];exact QA ⟨rfl,b,a,rfl,j,g,f,fun h=>by lia⟩
   ·rw [if_neg d]
    show wpS _ _ _ _ (pL left key arr base (hint+a) >>= _) _ _
    refine Qu (wA L hz hk ks (by lia) ?_);dsimp only
    cases q:bB κ left kk arr base (hint+a)with
    | true=>
     simp only [Yf,Qj,if_false];exact QA ⟨rfl,a,2 * a+1,rfl,by lia,by lia,by lia,q⟩
    | false=>
     simp only [Jr,if_true];exact QA ⟨rfl,b,a,rfl,j,g,f,fun _=>q⟩
  ·obtain⟨o,b,a,y,H,j,g,f⟩:=v
   exact⟨o,b,a,y,j,g,f,fun h=>by lia⟩
  ·obtain⟨rfl,b,a,rfl,j,g,f,x⟩:=B;dsimp only
   suffices p:wpS (J3 prog w) A E s (pM left key arr base n (hint+b+1) (hint+min a (n-hint))) Q e by
    unfold pM at p;refine Eq.mp (congrArg (fun m=>wpS (J3 prog w) A E s m Q e) ?_) p;congr 1
    funext c
    obtain⟨r,l,h⟩:=c
    cases r <;> rfl
   refine EK L hz hk ks u (by lia) (by lia) (fun i K=>rO u (by lia) g f) (fun i J G=>?_) k
   cases q:bB κ left kk arr base i with
   | false=>rfl
   | true=>
    have F:hint+a<n:=by lia
    rw [rO u (show hint+a<=i by lia) G q]at x;exact absurd (x F) (by decide)
 | false=>
  simp only [Qj,if_false]
  refine Qu (Jq (Ys (fun t c e=>e=z/\∃ b a,c=(none,b,a)/\t<a/\b<a/\b<=hint/\bB κ left kk arr base (hint-b)=false)
   (Q:=fun c e=>e=z/\∃ b a,c=(none,b,a)/\b<a/\b<=hint/\bB κ left kk arr base (hint-b)=false/\(a<=hint->bB κ left kk arr base (hint-a)=true))
   (fun t c e _ lt v=>?_) (fun c e v=>?_) ⟨rfl,0,1,rfl,by lia,by lia,by lia,I⟩) fun c e B=>?_)
  ·obtain⟨rfl,b,a,rfl,H,j,g,f⟩:=v;dsimp only;by_cases d:a >= hint+1
   ·rw [if_pos d];exact QA ⟨rfl,b,a,rfl,j,g,f,fun h=>by lia⟩
   ·rw [if_neg d]
    show wpS _ _ _ _ (pL left key arr base (hint-a) >>= _) _ _
    refine Qu (wA L hz hk ks (by lia) ?_);dsimp only
    cases q:bB κ left kk arr base (hint-a)with
    | false=>
     simp only [Qj,if_false];exact QA ⟨rfl,a,2 * a+1,rfl,by lia,by lia,by lia,q⟩
    | true=>
     simp only [if_true];exact QA ⟨rfl,b,a,rfl,j,g,f,fun _=>q⟩
  ·obtain⟨o,b,a,y,H,j,g,f⟩:=v
   exact⟨o,b,a,y,j,g,f,fun h=>by lia⟩
  ·obtain⟨rfl,b,a,rfl,j,g,f,x⟩:=B;dsimp only
   suffices p:wpS (J3 prog w) A E s (pM left key arr base n (hint+1-min a (hint+1)) (hint-b)) Q e by
    unfold pM at p;refine Eq.mp (congrArg (fun m=>wpS (J3 prog w) A E s m Q e) ?_) p;congr 1
    funext c
    obtain⟨r,l,h⟩:=c
    cases r <;> rfl
   refine EK L hz hk ks u (by lia) (by lia) (fun i K=>?_) (fun i J G=>?_) k
   ·have F:a<=hint:=by lia
    exact rO u (by lia) (by lia) (x F)
   ·cases q:bB κ left kk arr base i with
    | false=>rfl
    | true=>rw [rO u J G q]at f;cases f
end
def kO(κ:KeyKind)(p:J8):κ.α:=(κ.keyOf p.1).getD κ.dflt
def Rk(κ:KeyKind)(p q:J8):Prop:=κ.kle (kO κ p) (kO κ q)
structure ML(κ:KeyKind)(T O A B:List J8):Prop where
 pm:(O++(A++B)).Perm T
 so:O.Pairwise (Rk κ)
 sa:A.Pairwise (Rk κ)
 sb:B.Pairwise (Rk κ)
 oa:∀ p∈O,∀ q∈A,Rk κ p q
 ob:∀ p∈O,∀ q∈B,Rk κ p q
structure MR(κ:KeyKind)(T O A B:List J8):Prop where
 pm:((A++B)++O).Perm T
 so:O.Pairwise (Rk κ)
 sa:A.Pairwise (Rk κ)
 sb:B.Pairwise (Rk κ)
 oa:∀ p∈O,∀ q∈A,Rk κ q p
 ob:∀ p∈O,∀ q∈B,Rk κ q p
structure Mg(κ:KeyKind)(T O:List J8):Prop where
 pm:O.Perm T
 so:O.Pairwise (Rk κ)
variable {κ:KeyKind}{T O A B X:List J8}{x:J8}
theorem ML.swp(m:ML κ T O A B):ML κ T O B A:=⟨(List.perm_append_comm.append_left O).trans m.pm,m.so,m.sb,m.sa,m.ob,m.oa⟩
theorem MR.swp(m:MR κ T O A B):MR κ T O B A:=⟨(List.perm_append_comm.append_right O).trans m.pm,m.so,m.sb,m.sa,m.ob,m.oa⟩
theorem ML.mv(m:ML κ T O (X++A) B)(h:∀ p∈X,∀ q∈B,Rk κ p q):ML κ T (O++X) A B:=by
 obtain⟨f,d,c⟩:=Ya.mp m.sa
 refine⟨by have:=m.pm;simp only [QG]at this ⊢;exact this,Ya.mpr ⟨m.so,f,fun p b q a=>m.oa p b q (QY _ a)⟩,d,m.sb,fun p b q a=>?_,fun p b q a=>?_⟩
 ·rcases QD.mp b with e | e
  ·exact m.oa p e q (Qv _ a)
  ·exact c p e q a
 ·rcases QD.mp b with e | e
  ·exact m.ob p e q a
  ·exact h p e q a
theorem MR.mv(m:MR κ T O A (B++X))(h:∀ p∈X,∀ q∈A,Rk κ q p):MR κ T (X++O) A B:=by
 obtain⟨f,d,c⟩:=Ya.mp m.sb
 refine⟨by have:=m.pm;simp only [QG]at this ⊢;exact this,Ya.mpr ⟨d,m.so,fun p b q a=>m.ob q a p (Qv _ b)⟩,m.sa,f,fun p b q a=>?_,fun p b q a=>?_⟩
 ·rcases QD.mp b with e | e
  ·exact h p e q a
  ·exact m.oa p e q a
 ·rcases QD.mp b with e | e
  ·exact c q a p e
  ·exact m.ob p e q (QY _ a)
theorem ML.endB(m:ML κ T O A []):Mg κ T (O++A):=⟨by have:=m.pm;rwa [QR]at this,Ya.mpr ⟨m.so,m.sa,m.oa⟩⟩
theorem MR.endB(m:MR κ T O A []):Mg κ T (A++O):=⟨by have:=m.pm;rwa [QR]at this,Ya.mpr ⟨m.sa,m.so,fun p b q a=>m.oa q a p b⟩⟩
theorem ML.lastA(m:ML κ T O A B)(h:∀ p∈A,∀ q∈B,Rk κ q p):Mg κ T (O++B++A):=
 (ML.endB ((ML.mv (X:=B) (A:=[]) (B:=A) (by rw [QR];exact m.swp) fun p b q a=>h q a p b).swp))
theorem MR.lastB(m:MR κ T O A B)(h:∀ p∈B,∀ q∈A,Rk κ p q):Mg κ T (B++(A++O)):=
 MR.endB (MR.mv (X:=A) (B:=[]) (A:=B) (by rw [JF];exact m.swp) fun p b q a=>h q a p b)
theorem o8{a:Array J8}{i:Nat}{p:J8}(h:a[i]?=some p):KK κ a i=kO κ p:=by unfold KK;rw [h];rfl
theorem xG{a:Array J8}{i:Nat}{p:J8}(h:p∈a.toList.drop i):∃ j,i+j<a.size/\KK κ a (i+j)=kO κ p:=by
 obtain⟨j,b,e⟩:=JO.mp h;rw [Yb,Qg]at b;rw [List.getElem_drop]at e
 refine⟨j,by lia,o8 ?_⟩
 rw [Qw (by lia),<- e];rfl
theorem xK{a:Array J8}{i:Nat}{p:J8}(h:p∈a.toList.take i):∃ j,j<i/\j<a.size/\KK κ a j=kO κ p:=by
 obtain⟨j,b,e⟩:=JO.mp h;rw [QS,Qg]at b;rw [List.getElem_take]at e
 refine⟨j,by lia,by lia,o8 ?_⟩
 rw [Qw (by lia),<- e];rfl
theorem o3(a:Array J8)(i j:Nat):(a.extract i j).toList=(a.toList.drop i).take (j-i):=by simp [List.extract]
theorem xJ{a:Array J8}{i j:Nat}{p:J8}(h:p∈(a.extract i j).toList):∃ k,i<=k/\k<j/\k<a.size/\KK κ a k=kO κ p:=by
 rw [o3]at h;obtain⟨k,b,e⟩:=JO.mp h;rw [QS,Yb,Qg]at b;rw [List.getElem_take,List.getElem_drop]at e
 refine⟨i+k,by lia,by lia,by lia,o8 ?_⟩
 rw [Qw (by lia),<- e];rfl
theorem Lg(a:Array J8)(i k:Nat):a.toList.drop i=(a.extract i (i+k)).toList++a.toList.drop (i+k):=by
 rw [o3,YK,<- List.drop_drop,QU]
theorem Lh(a:Array J8){i n:Nat}(h:i<=n):a.toList.take n=a.toList.take i++(a.extract i n).toList:=by
 rw [o3]
 conv=>lhs;rw [show n=i+(n-i) by lia,List.take_add]
theorem FH{a:Array J8}{i:Nat}{p:J8}(h:a[i]?=some p):(a.extract i (i+1)).toList=[p]:=by
 rw [o3,YK]
 have:a.toList[i]?=some p:=by rw [QE];exact h
 obtain⟨b,e⟩:=Qc.mp this;rw [Yn b,e];rfl
theorem GD{a:Array J8}{i:Nat}(h:a.size<=i):a.toList.drop i=[]:=Jb (by rw [Qg];exact h)
theorem yD(a:Array J8)(i:Nat):(a.extract i a.size).toList=a.toList.drop i:=by
 rw [o3,YR (by rw [Yb,Qg];exact Ql _)]
theorem yC(a:Array J8)(i:Nat):(a.extract 0 i).toList=a.toList.take i:=by rw [o3];rfl
theorem zQ{a:Array J8}(u:Up κ a 0 a.size):a.toList.Pairwise (Rk κ):=by
 rw [Yy];intro i j c b lt;have q:=u i j (Y2 lt) b;rw [QZ,QZ,o8 (p:=a.toList[i]) (by rw [Qw c];rfl),o8 (p:=a.toList[j]) (by rw [Qw b];rfl)]at q;exact q
theorem Im{a:Array J8}(h:a.toList.Pairwise (Rk κ)):Up κ a 0 a.size:=by
 intro i j le lt;rw [QZ,QZ];rcases YH le with e | e
 ·subst e;exact Yp _
 ·have q:=Yy.mp h i j (by rw [Qg];lia) (by rw [Qg];exact lt) e;rw [o8 (i:=i) (p:=a.toList[i]'(by rw [Qg];lia)) (by rw [Qw (by lia)];rfl),o8 (i:=j) (p:=a.toList[j]'(by rw [Qg];lia)) (by rw [Qw (by lia)];rfl)];exact q
def MA(κ:KeyKind)(a b out:Array J8)(i j:Nat):Prop:=ML κ (a.toList++b.toList) out.toList (a.toList.drop i) (b.toList.drop j)
def MZ(κ:KeyKind)(a b out:Array J8)(n m:Nat):Prop:=MR κ (a.toList++b.toList) out.reverse.toList (a.toList.take n) (b.toList.take m)
def Md(κ:KeyKind)(a b out:Array J8):Prop:=Mg κ (a.toList++b.toList) out.toList
section
variable {a b out:Array J8}{i j:Nat}
theorem MA.nil(d:Up κ a 0 a.size)(c:Up κ b 0 b.size):MA κ a b #[] 0 0:=⟨.refl _,.nil,zQ d,zQ c,(fun _ h=>nomatch h),(fun _ h=>nomatch h)⟩
theorem MZ.nil(d:Up κ a 0 a.size)(c:Up κ b 0 b.size):MZ κ a b #[] a.size b.size:=by
 unfold MZ;rw [<- Qg,<- Qg,List.take_length,List.take_length]
 exact⟨by simp,by simp,zQ d,zQ c,fun _ h=>by simp at h,fun _ h=>by simp at h⟩
theorem MA.mvA(m:MA κ a b out i j)(d:Up κ b 0 b.size){k:Nat}(h:∀ t,i<=t->t<i+k->t<a.size->j<b.size->κ.kle (KK κ a t) (KK κ b j)):MA κ a b (out++a.extract i (i+k)) (i+k) j:=by
 unfold MA at m ⊢;rw [Lg a i k]at m;rw [Q1];refine m.mv fun p r q o=>?_;obtain⟨t,n,l,g,e⟩:=xJ (κ:=κ) r;obtain⟨v,c,f⟩:=xG (κ:=κ) o;unfold Rk;rw [<- e,<- f];refine Yd (h t n l g (by lia)) ?_
 have:=d j (j+v) (by lia) c
 rwa [QZ,QZ]at this
theorem MA.mvB(m:MA κ a b out i j)(d:Up κ a 0 a.size){k:Nat}(h:∀ t,j<=t->t<j+k->t<b.size->i<a.size->κ.kle (KK κ b t) (KK κ a i)):MA κ a b (out++b.extract j (j+k)) i (j+k):=by
 unfold MA at m ⊢;rw [Lg b j k]at m;rw [Q1]
 refine(m.swp.mv fun p r q o=>?_).swp
 obtain⟨t,n,l,g,e⟩:=xJ (κ:=κ) r;obtain⟨v,c,f⟩:=xG (κ:=κ) o;unfold Rk;rw [<- e,<- f];refine Yd (h t n l g (by lia)) ?_
 have:=d i (i+v) (by lia) c
 rwa [QZ,QZ]at this
theorem Ih{p:J8}(h:a[i]?=some p):out.push p=out++a.extract i (i+1):=by
 apply Array.toList_inj.mp;rw [Q1,FH h,JM]
theorem MA.a1(m:MA κ a b out i j)(c:Up κ b 0 b.size){p:J8}(e:a[i]?=some p)(h:j<b.size->κ.kle (KK κ a i) (KK κ b j)):MA κ a b (out.push p) (i+1) j:=by
 rw [Ih e]
 exact m.mvA c fun t g f _ d=>by
  obtain rfl:t=i:=by lia
  exact h d
theorem MA.b1(m:MA κ a b out i j)(c:Up κ a 0 a.size){p:J8}(e:b[j]?=some p)(h:i<a.size->κ.kle (KK κ b j) (KK κ a i)):MA κ a b (out.push p) i (j+1):=by
 rw [Ih e]
 exact m.mvB c fun t g f _ d=>by
  obtain rfl:t=j:=by lia
  exact h d
theorem MA.done(m:MA κ a b out i j)(h:a.size<=i ∨ b.size<=j):Md κ a b (out++a.extract i a.size++b.extract j b.size):=by
 unfold MA at m;unfold Md;rw [Q1,Q1,yD,yD];rcases h with h | h
 ·rw [GD h]at m ⊢;rw [QR];exact m.swp.endB
 ·rw [GD h]at m ⊢;rw [QR];exact m.endB
theorem MA.last(m:MA κ a b out i j)(h:a.size<=i+1)(k:∀ t,t<b.size->κ.kle (KK κ b t) (KK κ a (a.size-1))):Md κ a b (out++b.extract j b.size++a.extract i a.size):=by
 unfold MA at m;unfold Md;rw [Q1,Q1,yD,yD];refine m.lastA fun p g q d=>?_;obtain⟨t,l,e⟩:=xG (κ:=κ) g;obtain⟨v,c,f⟩:=xG (κ:=κ) d;unfold Rk;rw [<- e,<- f,show i+t=a.size-1 by lia];exact k _ c
variable {n m:Nat}
theorem MZ.mvA(q:MZ κ a b out n m)(c:Up κ b 0 b.size)(u:m<=b.size)(o:i<=n)(h:∀ t,i<=t->t<n->t<a.size->0<m->κ.kle (KK κ b (m-1)) (KK κ a t)):MZ κ a b (out++(a.extract i n).reverse) i m:=by
 unfold MZ at q ⊢;rw [Lh a o]at q;rw [Array.reverse_append,Array.reverse_reverse,Q1]
 refine(q.swp.mv fun p l q k=>?_).swp
 obtain⟨t,j,g,d,e⟩:=xJ (κ:=κ) l;obtain⟨v,s,r,f⟩:=xK (κ:=κ) k;unfold Rk;rw [<- e,<- f];refine Yd ?_ (h t j g d (by lia))
 have:=c v (m-1) (by lia) (by lia)
 rwa [QZ,QZ]at this
theorem MZ.mvB(q:MZ κ a b out n m)(c:Up κ a 0 a.size)(u:n<=a.size)(o:i<=m)(h:∀ t,i<=t->t<m->t<b.size->0<n->κ.kle (KK κ a (n-1)) (KK κ b t)):MZ κ a b (out++(b.extract i m).reverse) n i:=by
 unfold MZ at q ⊢;rw [Lh b o]at q;rw [Array.reverse_append,Array.reverse_reverse,Q1]
 refine(q.mv fun p l q k=>?_)
 obtain⟨t,j,g,d,e⟩:=xJ (κ:=κ) l;obtain⟨v,s,r,f⟩:=xK (κ:=κ) k;unfold Rk;rw [<- e,<- f];refine Yd ?_ (h t j g d (by lia))
 have:=c v (n-1) (by lia) (by lia)
 rwa [QZ,QZ]at this
theorem Ii{p:J8}(h:a[i]?=some p):out.push p=out++(a.extract i (i+1)).reverse:=by
 apply Array.toList_inj.mp;rw [Q1,Array.toList_reverse,FH h,JM];rfl
theorem MZ.a1(q:MZ κ a b out n m)(c:Up κ b 0 b.size)(d:m<=b.size)(k:0<n){p:J8}(e:a[n-1]?=some p)(h:0<m->κ.kle (KK κ b (m-1)) (KK κ a (n-1))):MZ κ a b (out.push p) (n-1) m:=by
 rw [Ii e]
 have g:n-1+1=n:=by lia
 rw [g]
 exact q.mvA c d (by lia) fun t j i _ f=>by
  obtain rfl:t=n-1:=by lia
  exact h f
theorem MZ.b1(q:MZ κ a b out n m)(c:Up κ a 0 a.size)(d:n<=a.size)(k:0<m){p:J8}(e:b[m-1]?=some p)(h:0<n->κ.kle (KK κ a (n-1)) (KK κ b (m-1))):MZ κ a b (out.push p) n (m-1):=by
 rw [Ii e]
 have g:m-1+1=m:=by lia
 rw [g]
 exact q.mvB c d (by lia) fun t j i _ f=>by
  obtain rfl:t=m-1:=by lia
  exact h f
theorem MZ.done(q:MZ κ a b out n m)(h:n=0 ∨ m=0):Md κ a b (a.extract 0 n++b.extract 0 m++out.reverse):=by
 unfold MZ at q;unfold Md;rw [Q1,Q1,yC,yC];rcases h with h | h
 ·subst h;exact q.swp.endB
 ·subst h;rw [List.take_zero]at q ⊢;rw [QR];exact q.endB
theorem MZ.last(q:MZ κ a b out n m)(h:m<=1)(i:∀ t,t<a.size->κ.kle (KK κ b 0) (KK κ a t)):Md κ a b (b.extract 0 m++a.extract 0 n++out.reverse):=by
 unfold MZ at q;unfold Md;rw [Q1,Q1,yC,yC,QG];refine q.lastB fun p g q d=>?_;obtain⟨t,l,k,e⟩:=xK (κ:=κ) g;obtain⟨v,j,c,f⟩:=xK (κ:=κ) d;unfold Rk;rw [<- e,<- f,show t=0 by lia];exact i _ c
end
end TS
namespace TS
open PySem PyProof.Rows SG
def Ef:Array J8->Array J8->StateT Za Sem (Array J8):=sortPriv% PySem.Builtin.mergeLo
def Ee:Array J8->Array J8->StateT Za Sem (Array J8):=sortPriv% PySem.Builtin.mergeHi
def sG:Nat->StateT Za Sem Unit:=sortPriv% PySem.Builtin.setMinGallop
abbrev KZ(st:Za)(g:Nat):Za:=SortSt.mk' (kindOf st) (J7 st) (Zi st) g (Z7 st)
structure Zq(z y:Za):Prop where
 kd:kindOf y=kindOf z
 ar:J7 y=J7 z
 pe:Zi y=Zi z
 fa:Z7 y=Z7 z
theorem Zq.rfl{z:Za}:Zq z z:=⟨.refl _,.refl _,.refl _,.refl _⟩
theorem Zq.gal{z y:Za}(q:Zq z y)(g:Nat):Zq z (KZ y g):=⟨q.kd,q.ar,q.pe,q.fa⟩
section
variable {prog:J2}{w:J5}{A:Around}{E:YP->JZ->Prop}{s:JZ}{κ:KeyKind}{kd:ZP}
theorem vV{z:Za}{g:Nat}{Q:Unit->Za->Prop}(k:Q () (KZ z g)):wpS (J3 prog w) A E s (sG g) Q z:=by
 unfold sG;exact JW k
theorem cE{a:Type}{p:Prop}[Decidable p]{m n:StateT Za Sem a}{z:Za}{Q:a->Za->Prop}(d:p->wpS (J3 prog w) A E s m Q z)(b:¬p->wpS (J3 prog w) A E s n Q z):wpS (J3 prog w) A E s (if p then m else n) Q z:=by
 by_cases c:p
 ·rw [if_pos c];exact d c
 ·rw [if_neg c];exact b c
theorem i3{a:Array J8}(c:KeysOf κ a){i:Nat}(h:i<a.size):∃ p x,a[i]?=some p/\κ.keyOf p.1=some x/\KK κ a i=x:=by
 obtain⟨x,b⟩:=c a[i] (by simp)
 refine⟨a[i],x,getElem?_pos a i h,b,?_⟩
 unfold KK;rw [getElem?_pos a i h];simp [b]
theorem qH{a:Array J8}(b:KeysOf κ a){i n:Nat}(h:i+n<=a.size):Ks κ a i n:=fun j c=>i3 b (by lia)
theorem zP{a:Array J8}{i n:Nat}(u:Up κ a 0 a.size)(h:i+n<=a.size):Up κ a i n:=fun x y le lt=>by
 have:=u (i+x) (i+y) (by lia) (by lia)
 rwa [QZ,QZ]at this
theorem v7{kk:κ.α}{a:Array J8}{base i:Nat}(h:bB κ false kk a base i=true):κ.kle (KK κ a (base+i)) kk:=by
 unfold bB at h;rw [if_neg Qq,Yr]at h;exact h
theorem Bk{kk:κ.α}{a:Array J8}{base i:Nat}(h:bB κ false kk a base i=false):κ.kle kk (KK κ a (base+i)):=by
 unfold bB at h;rw [if_neg Qq,Bool.not_eq_false']at h;exact YQ h
theorem v8{kk:κ.α}{a:Array J8}{base i:Nat}(h:bB κ true kk a base i=true):κ.kle (KK κ a (base+i)) kk:=by
 unfold bB at h;rw [if_pos rfl]at h;exact YQ h
theorem v9{kk:κ.α}{a:Array J8}{base i:Nat}(h:bB κ true kk a base i=false):κ.kle kk (KK κ a (base+i)):=by
 unfold bB at h;rw [if_pos rfl]at h;exact h
variable {a b:Array J8}{z:Za}
theorem Mw{Q:Array J8->Za->Prop}(L:gY prog w A s κ kd)(hz:kindOf z=kd)(ka:KeysOf κ a)(kb:KeysOf κ b)(U:Up κ a 0 a.size)(T:Up κ b 0 b.size)(ha:0<a.size)(hb:0<b.size)
  (h1:κ.kle (KK κ b 0) (KK κ a 0)) (h2:∀ t,t<b.size->κ.kle (KK κ b t) (KK κ a (a.size-1))) (k:∀ out y,Md κ a b out->Zq z y->Q out y):wpS (J3 prog w) A E s (Ef a b) Q z:=by
 unfold Ef
 show wpS _ _ _ _ (_ >>= _) Q z
 refine Qu (UX (Y7 ⟨rfl,?_⟩));obtain⟨p0,x0,e0,-,-⟩:=i3 kb hb;refine Qu (eH e0 ?_);dsimp only;have m0:MA κ a b #[p0] 0 1:=(MA.nil U T).b1 U e0 fun _=>h1;refine cE (fun c=>QA (k _ _ (m0.done (Zf (by have:=beq_iff_eq.mp c;lia))) Zq.rfl)) fun H=>?_;refine cE (fun c=>QA (k _ _ (m0.last (by have:=beq_iff_eq.mp c;lia) h2) Zq.rfl)) fun M=>?_
 have J:1<b.size:=by rw [beq_iff_eq]at H;lia
 have g2:0+1<a.size:=by rw [beq_iff_eq]at M;lia
 refine Qu (UD ?_)
 refine Qu (Jq (Ys (fun t c y=>Zq z y/\∃ out i j g,c=(none,out,i,j,g)/\MA κ a b out i j/\i+1<a.size/\j<b.size/\t<i+j)
  (Q:=fun c y=>Zq z y/\∃ r,c.fst=some r/\Md κ a b r)
  (fun t c y _ lt I=>?_) (fun c y I=>?_) ⟨Zq.rfl,#[p0],0,1,_,rfl,m0,g2,J,by lia⟩) fun c y hQ=>?_)
 ·obtain⟨d,out,i,j,g,o,m,f,l,n⟩:=I;subst o;dsimp only;have hy:kindOf y=kd:=d.kd.trans hz;clear m0 H M
  refine Qu (Jq (Ys (fun u c K=>K=y/\∃ out i j F B,c=(none,out,i,j,F,B)/\MA κ a b out i j/\i+1<a.size/\j<b.size/\t<i+j)
   (Q:=fun c K=>K=y/\∃ r out i j F B,c=(r,out,i,j,F,B)/\(∀ v,r=some v->Md κ a b v)/\(r=none->MA κ a b out i j/\i+1<a.size/\j<b.size/\t<i+j))
   (fun u c K _ lt I=>?_) (fun c K I=>?_) ⟨rfl,out,i,j,0,0,rfl,m,f,l,n⟩) fun c K hQ=>?_)
  ·clear m f l n;obtain⟨e,out,i,j,F,B,o,m,f,l,n⟩:=I;subst e o;dsimp only;obtain⟨p,x,S,e2,e3⟩:=i3 kb l;obtain⟨q,x',N,f2,X⟩:=i3 ka (show i<a.size by lia);refine Qu (eH S (Qu (eH N (Qu (sM L hy e2 f2 ?_)))));dsimp only;refine cE (fun c=>?_) fun c=>?_
   ·have O:=m.b1 U S fun _=>by rw [e3,X];exact YQ c
    refine Qu (eH S ?_);refine cE (fun c=>QA ⟨rfl,_,_,_,_,_,_,rfl,fun v G=>?_,nofun⟩) fun H=>?_
    ·cases G;exact O.done (Zf (by have:=beq_iff_eq.mp c;lia))
    ·have J:j+1<b.size:=by rw [beq_iff_eq]at H;lia
     exact cE (fun _=>QA ⟨rfl,_,_,_,_,_,_,rfl,nofun,fun _=>⟨O,f,J,by lia⟩⟩) fun _=>QA ⟨rfl,_,_,_,_,_,rfl,O,f,J,by lia⟩
   ·have O:=m.a1 T N fun _=>by rw [e3,X];exact KeyOrd.kle_of_not_klt c
    refine Qu (eH N ?_);refine cE (fun c=>QA ⟨rfl,_,_,_,_,_,_,rfl,fun v G=>?_,nofun⟩) fun H=>?_
    ·cases G;exact O.last (by have:=beq_iff_eq.mp c;lia) h2
    ·have J:i+1+1<a.size:=by rw [beq_iff_eq]at H;lia
     exact cE (fun _=>QA ⟨rfl,_,_,_,_,_,_,rfl,nofun,fun _=>⟨O,J,l,by lia⟩⟩) fun _=>QA ⟨rfl,_,_,_,_,_,rfl,O,J,l,by lia⟩
  ·obtain⟨e,out,i,j,F,B,o,m,f,l,n⟩:=I
   exact⟨e,none,out,i,j,F,B,o,nofun,fun _=>⟨m,f,l,n⟩⟩
  ·clear m f l n;obtain⟨e,r,out,i,j,F,B,o,Z,hn⟩:=hQ;subst e o
   cases r with
   | some r=>exact QA ⟨d,r,rfl,Z r rfl⟩
   | none=>
    dsimp only;obtain⟨m,f,l,n⟩:=hn rfl;refine Qu (UX (Y7 ⟨rfl,?_⟩))
    refine Qu (Jq (Ys (fun u c y=>Zq z y/\∃ out i j g F B,c=(none,out,i,j,g,F,B)/\MA κ a b out i j/\i+1<a.size/\j<b.size/\t+u<i+j)
     (Q:=fun c y=>Zq z y/\∃ r out i j g F B,c=(r,out,i,j,g,F,B)/\(∀ v,r=some v->Md κ a b v)/\(r=none->MA κ a b out i j/\i+1<a.size/\j<b.size/\t+1<i+j))
     (fun u c K _ lt I=>?_) (fun c K I=>?_) ⟨d,out,i,j,_,F,B,rfl,m,f,l,n⟩) fun c K hQ=>?_)
    ·clear m f l n d hy;obtain⟨d,out,i,j,g,F,B,o,m,f,l,n⟩:=I;subst o;dsimp only;obtain⟨p,x,S,e2,e3⟩:=i3 kb l;refine cE (fun _=>?_) fun _=>?_
     all_goals
      refine Qu (vV (Qu (eH S (Qu (qF (left:=false) L ((d.gal _).kd.trans hz) e2 (qH ka (by lia)) (zP U (by lia)) (by lia) fun R a3 b1 b2=>?_)))));dsimp only
      have Y:=m.mvA T (k:=R) fun v v1 v2 _ _=>by
       have:=v7 (b1 (v-i) (by lia))
       rw [show i+(v-i)=v by lia]at this;rw [e3];exact this
      have m2:i+R<a.size->κ.kle (KK κ b j) (KK κ a (i+R)):=fun h=>by rw [e3];exact Bk (b2 R (Ql _) (by lia))
      clear b1 b2;refine cE (fun ck=>?_) fun ck=>?_;refine cE (fun c=>QA ⟨d.gal _,_,_,_,_,_,_,_,rfl,fun v G=>?_,nofun⟩) fun H=>?_
      ·cases G;exact Y.last (by have:=beq_iff_eq.mp c;lia) h2
      refine cE (fun c=>QA ⟨d.gal _,_,_,_,_,_,_,_,rfl,fun v G=>?_,nofun⟩) fun M=>?_
      ·cases G;exact Y.done (Zl (by have:=beq_iff_eq.mp c;lia))
      have J:i+R+1<a.size:=by rw [beq_iff_eq]at H M;lia
      have a0:t+u<i+R+j:=by lia
      clear H M ck f n
      rotate_left
      obtain rfl:R=0:=by lia
      clear Y;have Y:=m;rw [Ul]at m2;have J:=f;have a0:=n;clear ck f n
      all_goals
       obtain⟨q,x',N,f2,X⟩:=i3 ka (Nat.lt_of_succ_lt J);have m3:=Y.b1 U S m2;refine Qu (eH S ?_);refine cE (fun c=>QA ⟨d.gal _,_,_,_,_,_,_,_,rfl,fun v G=>?_,nofun⟩) fun H=>?_
       ·cases G;exact m3.done (Zf (by have:=beq_iff_eq.mp c;lia))
       have g2:j+1<b.size:=by rw [beq_iff_eq]at H;lia
       refine Qu (eH N (Qu (qF (left:=true) L ((d.gal _).kd.trans hz) f2 (qH kb (by lia)) (zP T (by lia)) (by lia) fun W a2 b1 b2=>?_)));dsimp only
       have m4:=m3.mvB U (k:=W) fun v v1 v2 _ _=>by
        have:=v8 (b1 (v-(j+1)) (by lia))
        rw [show j+1+(v-(j+1))=v by lia]at this;rw [X];exact this
       have m5:j+1+W<b.size->κ.kle x' (KK κ b (j+1+W)):=fun h=>v9 (b2 W (Ql _) (by lia));clear b1 b2 H;refine cE (fun ck=>?_) fun ck=>?_;refine cE (fun c=>QA ⟨d.gal _,_,_,_,_,_,_,_,rfl,fun v G=>?_,nofun⟩) fun M=>?_
       ·cases G;exact m4.done (Zf (by have:=beq_iff_eq.mp c;lia))
       have g3:j+1+W<b.size:=by rw [beq_iff_eq]at M;lia
       have m6:=m4.a1 T N fun h=>by rw [X];exact m5 h
       rotate_left
       obtain rfl:W=0:=by lia
       have g3:=g2
       have m6:=m3.a1 T N fun h=>by rw [X];exact m5 h
       all_goals
        refine Qu (eH N ?_);refine cE (fun c=>QA ⟨d.gal _,_,_,_,_,_,_,_,rfl,fun v G=>?_,nofun⟩) fun M=>?_
        ·cases G;exact m6.last (by have:=beq_iff_eq.mp c;lia) h2
        rw [beq_iff_eq]at M;exact cE (fun _=>QA ⟨d.gal _,_,_,_,_,_,_,_,rfl,nofun,fun _=>⟨m6,by lia,g3,by lia⟩⟩) fun _=>QA ⟨d.gal _,_,_,_,_,_,_,rfl,m6,by lia,g3,by lia⟩
    ·obtain⟨d,out,i,j,g,F,B,o,m,f,l,n⟩:=I
     exact⟨d,none,out,i,j,g,F,B,o,nofun,fun _=>⟨m,f,l,by lia⟩⟩
    ·clear m f l n d hy;obtain⟨d,r,out,i,j,g,F,B,o,Z,hn⟩:=hQ;subst o
     cases r with
     | some r=>exact QA ⟨d,r,rfl,Z r rfl⟩
     | none=>
      dsimp only;obtain⟨m,f,l,n⟩:=hn rfl;exact Qu (vV (QA ⟨d.gal _,out,i,j,_,rfl,m,f,l,by lia⟩))
 ·obtain⟨d,out,i,j,g,o,m,f,l,n⟩:=I;lia
 ·obtain⟨d,r,o,Z⟩:=hQ;obtain⟨r',c⟩:=c;dsimp only at o;subst o;exact QA (k _ _ Z d)
end
section
variable {prog:J2}{w:J5}{A:Around}{E:YP->JZ->Prop}{s:JZ}{κ:KeyKind}{kd:ZP}
variable {a b:Array J8}{z:Za}
theorem Me{Q:Array J8->Za->Prop}(L:gY prog w A s κ kd)(hz:kindOf z=kd)(ka:KeysOf κ a)(kb:KeysOf κ b)(Z:Up κ a 0 a.size)(T:Up κ b 0 b.size)(ha:0<a.size)(hb:0<b.size)
  (h1:∀ t,t<a.size->κ.kle (KK κ b 0) (KK κ a t)) (h2:κ.kle (KK κ b (b.size-1)) (KK κ a (a.size-1))) (k:∀ out y,Md κ a b out->Zq z y->Q out y):wpS (J3 prog w) A E s (Ee a b) Q z:=by
 unfold Ee
 show wpS _ _ _ _ (_ >>= _) Q z
 refine Qu (UX (Y7 ⟨rfl,?_⟩));obtain⟨p0,x0,e0,-,-⟩:=i3 ka (show a.size-1<a.size by lia);refine Qu (eH e0 ?_);dsimp only;have m0:MZ κ a b #[p0] (a.size-1) b.size:=(MZ.nil Z T).a1 T (Ql _) ha e0 fun _=>h2;refine cE (fun c=>QA (k _ _ (m0.done (Zl (beq_iff_eq.mp c))) Zq.rfl)) fun R=>?_;refine cE (fun c=>QA (k _ _ (m0.last (by have:=beq_iff_eq.mp c;lia) h1) Zq.rfl)) fun N=>?_
 have M:0<a.size-1:=by rw [beq_iff_eq]at R;lia
 have g2:1<b.size:=by rw [beq_iff_eq]at N;lia
 refine Qu (UD ?_)
 refine Qu (Jq (Ys (fun t c y=>Zq z y/\∃ i j out g,c=(none,i,j,out,g)/\MZ κ a b out i j/\0<i/\i<=a.size/\1<j/\j<=b.size/\i+j+t<a.size+b.size)
  (Q:=fun c y=>Zq z y/\∃ r,c.fst=some r/\Md κ a b r)
  (fun t c y _ lt K=>?_) (fun c y K=>?_) ⟨Zq.rfl,_,_,#[p0],_,rfl,m0,M,by lia,g2,Ql _,by lia⟩) fun c y hQ=>?_)
 ·obtain⟨n,i,j,out,g,B,m,o,f,F,d,I⟩:=K;subst B;dsimp only;have hy:kindOf y=kd:=n.kd.trans hz;clear m0 R N
  refine Qu (Jq (Ys (fun u c O=>O=y/\∃ i j out H G,c=(none,i,j,out,H,G)/\MZ κ a b out i j/\0<i/\i<=a.size/\1<j/\j<=b.size/\i+j+t<a.size+b.size)
   (Q:=fun c O=>O=y/\∃ r i j out H G,c=(r,i,j,out,H,G)/\(∀ v,r=some v->Md κ a b v)/\(r=none->MZ κ a b out i j/\0<i/\i<=a.size/\1<j/\j<=b.size/\i+j+t<a.size+b.size))
   (fun u c O _ lt K=>?_) (fun c O K=>?_) ⟨rfl,i,j,out,0,0,rfl,m,o,f,F,d,I⟩) fun c O hQ=>?_)
  ·clear m o f F d I;obtain⟨e,i,j,out,H,G,B,m,o,f,F,d,I⟩:=K;subst e B;dsimp only;obtain⟨p,x,X,e2,e3⟩:=i3 kb (show j-1<b.size by lia);obtain⟨q,x',S,f2,Y⟩:=i3 ka (show i-1<a.size by lia);refine Qu (eH X (Qu (eH S (Qu (sM L hy e2 f2 ?_)))));dsimp only;refine cE (fun c=>?_) fun c=>?_
   ·have U:=m.a1 T d o S fun _=>by rw [e3,Y];exact YQ c
    refine Qu (eH S ?_);refine cE (fun c=>QA ⟨rfl,_,_,_,_,_,_,rfl,fun v J=>?_,nofun⟩) fun R=>?_
    ·cases J;exact U.done (Zl (beq_iff_eq.mp c))
    ·have M:0<i-1:=by rw [beq_iff_eq]at R;lia
     exact cE (fun _=>QA ⟨rfl,_,_,_,_,_,_,rfl,nofun,fun _=>⟨U,M,by lia,F,d,by lia⟩⟩) fun _=>QA ⟨rfl,_,_,_,_,_,rfl,U,M,by lia,F,d,by lia⟩
   ·have U:=m.b1 Z f (by lia) X fun _=>by rw [e3,Y];exact KeyOrd.kle_of_not_klt c
    refine Qu (eH X ?_);refine cE (fun c=>QA ⟨rfl,_,_,_,_,_,_,rfl,fun v J=>?_,nofun⟩) fun R=>?_
    ·cases J;exact U.last (by have:=beq_iff_eq.mp c;lia) h1
    ·have M:1<j-1:=by rw [beq_iff_eq]at R;lia
     exact cE (fun _=>QA ⟨rfl,_,_,_,_,_,_,rfl,nofun,fun _=>⟨U,o,f,M,by lia,by lia⟩⟩) fun _=>QA ⟨rfl,_,_,_,_,_,rfl,U,o,f,M,by lia,by lia⟩
  ·obtain⟨e,i,j,out,H,G,B,m,l⟩:=K
   exact⟨e,none,i,j,out,H,G,B,nofun,fun _=>⟨m,l⟩⟩
  ·clear m o f F d I;obtain⟨e,r,i,j,out,H,G,B,hr,hn⟩:=hQ;subst e B
   cases r with
   | some r=>exact QA ⟨n,r,rfl,hr r rfl⟩
   | none=>
    dsimp only;obtain⟨m,o,f,F,d,I⟩:=hn rfl;refine Qu (UX (Y7 ⟨rfl,?_⟩))
    refine Qu (Jq (Ys (fun u c y=>Zq z y/\∃ i j out g H G,c=(none,i,j,out,g,H,G)/\MZ κ a b out i j/\0<i/\i<=a.size/\1<j/\j<=b.size/\i+j+t+u<a.size+b.size)
     (Q:=fun c y=>Zq z y/\∃ r i j out g H G,c=(r,i,j,out,g,H,G)/\(∀ v,r=some v->Md κ a b v)/\(r=none->MZ κ a b out i j/\0<i/\i<=a.size/\1<j/\j<=b.size/\i+j+t+1<a.size+b.size))
     (fun u c O _ lt K=>?_) (fun c O K=>?_) ⟨n,i,j,out,_,H,G,rfl,m,o,f,F,d,I⟩) fun c O hQ=>?_)
    ·clear m o f F d I n hy;obtain⟨n,i,j,out,g,H,G,B,m,o,f,F,d,I⟩:=K;subst B;dsimp only;obtain⟨p,x,X,e2,e3⟩:=i3 kb (show j-1<b.size by lia);refine cE (fun _=>?_) fun _=>?_
     all_goals
      refine Qu (vV (Qu (eH X (Qu (qF (left:=false) L ((n.gal _).kd.trans hz) e2 (qH ka (by lia)) (zP Z (by lia)) (by lia) fun k1 a3 b1 b2=>?_)))));dsimp only
      have m1:=m.mvA T d (i:=k1) a3 fun v v1 v2 _ _=>by
       have:=Bk (b2 v v1 v2)
       rw [QZ]at this;rw [e3];exact this
      have m2:0<k1->κ.kle (KK κ a (k1-1)) (KK κ b (j-1)):=fun h=>by
       have:=v7 (b1 (k1-1) (by lia))
       rw [QZ]at this;rw [e3];exact this
      clear b1 b2;refine cE (fun ck=>?_) fun ck=>?_;refine cE (fun c=>QA ⟨n.gal _,_,_,_,_,_,_,_,rfl,fun v J=>?_,nofun⟩) fun N=>?_
      ·cases J;exact m1.done (Zl (beq_iff_eq.mp c))
      have M:0<k1:=by rw [beq_iff_eq]at N;lia
      have W:k1<=a.size:=by lia
      have a0:k1+j+t+u<a.size+b.size:=by lia
      clear N ck o I
      rotate_left
      obtain rfl:k1=i:=by lia
      clear m1;have m1:=m;have M:=o;have W:=f;have a0:=I;clear ck o I
      all_goals
       obtain⟨q,x',S,f2,Y⟩:=i3 ka (show k1-1<a.size by lia);have m3:=m1.b1 Z W (by lia) X m2;refine Qu (eH X ?_);refine cE (fun c=>QA ⟨n.gal _,_,_,_,_,_,_,_,rfl,fun v J=>?_,nofun⟩) fun R=>?_
       ·cases J;exact m3.last (by have:=beq_iff_eq.mp c;lia) h1
       have g2:1<j-1:=by rw [beq_iff_eq]at R;lia
       refine Qu (eH S (Qu (qF (left:=true) L ((n.gal _).kd.trans hz) f2 (qH kb (by lia)) (zP T (by lia)) (by lia) fun k2 a2 b1 b2=>?_)));dsimp only
       have m4:=m3.mvB Z W (i:=k2) a2 fun v v1 v2 _ _=>by
        have:=v9 (b2 v v1 v2)
        rw [QZ]at this;rw [Y];exact this
       have m5:0<k2->κ.kle (KK κ b (k2-1)) x':=fun h=>by
        have:=v8 (b1 (k2-1) (by lia))
        rw [QZ]at this;exact this
       clear b1 b2 R;refine cE (fun ck=>?_) fun ck=>?_;refine cE (fun c=>QA ⟨n.gal _,_,_,_,_,_,_,_,rfl,fun v J=>?_,nofun⟩) fun N=>?_
       ·cases J;exact m4.last (by have:=beq_iff_eq.mp c;lia) h1
       refine cE (fun c=>QA ⟨n.gal _,_,_,_,_,_,_,_,rfl,fun v J=>?_,nofun⟩) fun c3=>?_
       ·cases J;exact m4.done (Zf (beq_iff_eq.mp c))
       have g3:1<k2:=by rw [beq_iff_eq]at N c3;lia
       have m6:=m4.a1 T (by lia) M S fun h=>by rw [Y];exact m5 h
       clear N c3
       rotate_left
       obtain rfl:k2=j-1:=by lia
       have g3:=g2
       have m6:=m3.a1 T (by lia) M S fun h=>by rw [Y];exact m5 h
       all_goals
        refine Qu (eH S ?_);refine cE (fun c=>QA ⟨n.gal _,_,_,_,_,_,_,_,rfl,fun v J=>?_,nofun⟩) fun N=>?_
        ·cases J;exact m6.done (Zl (beq_iff_eq.mp c))
        rw [beq_iff_eq]at N;exact cE (fun _=>QA ⟨n.gal _,_,_,_,_,_,_,_,rfl,nofun,fun _=>⟨m6,by lia,by lia,g3,by lia,by lia⟩⟩) fun _=>QA ⟨n.gal _,_,_,_,_,_,_,rfl,m6,by lia,by lia,g3,by lia,by lia⟩
    ·obtain⟨n,i,j,out,g,H,G,B,m,o,f,F,d,I⟩:=K
     exact⟨n,none,i,j,out,g,H,G,B,nofun,fun _=>⟨m,o,f,F,d,by lia⟩⟩
    ·clear m o f F d I n hy;obtain⟨n,r,i,j,out,g,H,G,B,hr,hn⟩:=hQ;subst B
     cases r with
     | some r=>exact QA ⟨n,r,rfl,hr r rfl⟩
     | none=>
      dsimp only;obtain⟨m,o,f,F,d,I⟩:=hn rfl;exact Qu (vV (QA ⟨n.gal _,i,j,out,_,rfl,m,o,f,F,d,by lia⟩))
 ·obtain⟨n,i,j,out,g,B,m,o,f,F,d,I⟩:=K;lia
 ·obtain⟨n,r,B,hr⟩:=hQ;obtain⟨r',c⟩:=c;dsimp only at B;subst B;exact QA (k _ _ hr n)
end
theorem FT(base:Nat):∀(M X P S:List J8) (n:Nat) (arr:Array J8),M.length=X.length->P.length=base+n->arr.toList=P++(X++S)->
  ((M.zipIdx n).foldl (fun a x=>a.setIfInBounds (base+x.snd) x.fst) arr).toList=P++(M++S)
 | [],X,P,S,n,arr,h,hp,e=>by
  obtain rfl:X=[]:=List.length_eq_zero_iff.mp h.symm
  exact e
 | p::M,X,P,S,n,arr,h,hp,e=>by
  cases X with
  | nil=>cases h
  | cons x X=>
   rw [List.zipIdx_cons,YF]
   have:=FT base M X (P++[p]) S (n+1) (arr.setIfInBounds (base+n) p) (Nat.succ.inj h) (by rw [Qd,hp];rfl) (by
    rw [Array.toList_setIfInBounds,e,<- hp,List.set_append_right _ _ (Ql _),Nat.sub_self,QG]
    rfl)
   rw [this,QG];rfl
variable {κ:KeyKind}
theorem yJ{a:Array J8}{v:Nat}{l:List J8}(e:a.toList=l):KK κ a v=((l[v]?).map (kO κ)).getD κ.dflt:=by
 subst e;unfold KK;rw [QE]
 cases a[v]? <;> rfl
theorem zR{b:Array J8}{U S V:List J8}(e:b.toList=U++(S++V)):Up κ b U.length S.length ↔ S.Pairwise (Rk κ):=by
 have a:∀ i (h:i<S.length),KK κ b (U.length+i)=kO κ S[i]:=fun i h=>by
  rw [yJ e,QI (Q7 _ _),YK,QQ h,Qk h];rfl
 constructor
 ·intro u;rw [Yy];intro i j f d lt
  have:=u i j (Y2 lt) d
  rw [a i f,a j d]at this;exact this
 ·intro h i j le lt;rw [a i (by lia),a j lt];rcases YH le with c | c
  ·subst c;exact Yp _
  ·exact Yy.mp h i j (by lia) lt c
theorem PU{b a:Array J8}{U S S' V:List J8}(e:b.toList=U++(S++V))(d:a.toList=U++(S'++V))(c:S'.length=S.length){v:Nat}(h:v<U.length ∨ U.length+S.length<=v):KK κ a v=KK κ b v:=by
 rw [yJ e,yJ d];congr 2;rcases h with h | h
 ·rw [QQ h,QQ h]
 ·rw [QI (by lia),QI (by lia),QI (by lia),QI (by lia),c]
theorem LN(l:List J8){i n:Nat}(h:i+n<=l.length):∃ U S V,l=U++(S++V)/\U.length=i/\S.length=n:=
 ⟨l.take i,(l.drop i).take n,(l.drop i).drop n,by rw [QU,QU],by rw [QS];lia,by rw [QS,Yb];lia⟩
theorem FI{a:Array J8}{U S V:List J8}(e:a.toList=U++(S++V)){i j:Nat}(c:i=U.length)(b:j=U.length+S.length):(a.extract i j).toList=S:=by
 rw [o3,e,c,b,List.drop_left,YK,List.take_left]
def wN(p:Array (Nat × Nat × Nat))(i:Nat)(a b:Nat × Nat × Nat):Array (Nat × Nat × Nat):=(p.setIfInBounds i (a.1,a.2.1+b.2.1,a.2.2)).eraseIdxIfInBounds (i+1)
section
variable {prog:J2}{w:J5}{A:Around}{E:YP->JZ->Prop}{s:JZ}{kd:ZP}{z:Za}{src:Array J8}
theorem NX{y:Za}{Q:PUnit->Za->Prop}(k:∀ y0,y0=y->Q ⟨⟩ y0):wpS (J3 prog w) A E s (set y:StateT Za Sem PUnit) Q z:=by
 exact JW (f:=fun _=>y) (k y rfl)
theorem HF{a:Array J8}{i j t:Nat}(h:t<j-i)(b:j<=a.size):KK κ (a.extract i j) t=KK κ a (i+t):=by
 refine KK_congr ?_;rw [Array.getElem?_extract,if_pos (by lia)]
theorem nZ{a:Array J8}{U S V:List J8}{p:J8}(e:a.toList=U++(S++V))(h:p∈S):∃ v,v<S.length/\KK κ a (U.length+v)=kO κ p:=by
 obtain⟨v,b,q⟩:=JO.mp h
 refine⟨v,b,?_⟩
 rw [yJ e,QI (Q7 _ _),YK,QQ b,Qk b,q];rfl
theorem B0{a x:Array J8}(all:KeysOf κ src)(b:a.Perm src)(h:∀ p,p∈x.toList->p∈a.toList):KeysOf κ x:=fun p c=>all p ((YO.mp b).mem_iff.mp (h p c))
theorem Mz{i:Nat}{Q:Bool->Za->Prop}{l j:Nat × Nat × Nat}(L:gY prog w A s κ kd)(all:KeysOf κ src)(f:Ft src kd z)(e1:(Zi z)[i]?=some l)(e2:(Zi z)[i+1]?=some j)
  (n1:0<l.2.1) (n2:0<j.2.1) (nx:j.1=l.1+l.2.1) (sz:j.1+j.2.1<=src.size) (u1:Up κ (J7 z) l.1 l.2.1) (T:Up κ (J7 z) j.1 j.2.1)
  (k:∀ y,Ft src kd y->Zi y=wN (Zi z) i l j->Up κ (J7 y) l.1 (l.2.1+j.2.1)->(∀ v,v<l.1 ∨ j.1+j.2.1<=v->KK κ (J7 y) v=KK κ (J7 z) v)->Q true y):
  wpS (J3 prog w) A E s (mergeAt' i) Q z:=by
 have al:=f.len;unfold mergeAt'
 show wpS _ _ _ _ (_ >>= _) Q z
 refine Qu (UD ?_);dsimp only;split
 rotate_left
 ·rename_i hn;obtain⟨s1,c1,w1⟩:=l;obtain⟨s2,c2,w2⟩:=j;exact absurd (Jk e1 e2) (hn s1 c1 w1 s2 c2 w2)
 rename_i sa J pw sb nb X he
 obtain rfl:l=(sa,J,pw):=QC (e1.symm.trans (congrArg Prod.fst he))
 obtain rfl:j=(sb,nb,X):=QC (e2.symm.trans (congrArg Prod.snd he))
 clear he;dsimp only at n1 n2 nx sz u1 T k;subst nx;refine Qu (NX fun y0 Z=>?_)
 have N:kindOf y0=kd:=by rw [Z];exact f.kd
 have q2:J7 y0=J7 z:=by rw [Z]
 have q3:Zi y0=wN (Zi z) i (sa,J,pw) (sa+J,nb,X):=by rw [Z];rfl
 have q4:Z7 y0=none:=by rw [Z];exact f.fine
 clear Z e1 e2;obtain⟨U,S,V,e,hU,hS⟩:=LN (J7 z).toList (i:=sa) (n:=J+nb) (by rw [Qg];lia);obtain⟨Al,Bl,rfl,hA,hB⟩:∃ Al Bl,S=Al++Bl/\Al.length=J/\Bl.length=nb:=⟨S.take J,S.drop J,(QU _ _).symm,by rw [QS];lia,by rw [Yb];lia⟩;subst hU hA hB;clear hS
 have M:(J7 z).toList=U++(Al++(Bl++V)):=by rw [e,QG]
 have eB:(J7 z).toList=(U++Al)++(Bl++V):=by rw [M,QG]
 have lB:(U++Al).length=U.length+Al.length:=Qd;have pA:=(zR M).mp u1;have pB:=(zR (κ:=κ) eB).mp (by rw [lB];exact T);have kz:KeysOf κ (J7 z):=B0 all f.mix fun _ h=>h
 have stay:∀ h:(∀ p∈Al,∀ q∈Bl,Rk κ p q),Q true y0:=fun h=>by
  refine k y0 ⟨by rw [q2];exact f.mix,N,q4⟩ q3 ?_ fun v _=>by rw [q2]
  rw [q2,<- Qd]
  exact(zR e).mpr (Ya.mpr ⟨pA,pB,h⟩)
 obtain⟨p,x,f1,f2,f3⟩:=i3 kz (show U.length+Al.length<(J7 z).size by lia);refine Qu (eH f1 (Qu (qF (left:=false) L N f2 (qH kz (by lia)) u1 n1 fun k1 b3 b1 b2=>?_)));dsimp only;refine cE (fun c=>QA (stay fun p' g q' B=>?_)) fun c=>?_
 ·have:=beq_iff_eq.mp c
  obtain⟨v,R,H⟩:=nZ (κ:=κ) M g;obtain⟨t,W,I⟩:=nZ (κ:=κ) eB B;unfold Rk;rw [<- H,<- I,lB];refine Yd (v7 (b1 v (by lia))) ?_;rw [<- f3]
  have:=T 0 t (Q9 _) W
  rwa [Ul]at this
 rw [beq_iff_eq]at c;obtain⟨p2,x2,g1,g2,g3⟩:=i3 kz (show U.length+k1+(Al.length-k1)-1<(J7 z).size by lia)
 have ei:U.length+k1+(Al.length-k1)-1=U.length+(Al.length-1):=by lia
 rw [ei]at g3;refine Qu (eH g1 (Qu (qF (left:=true) L N g2 (qH kz (by lia)) T (by lia) fun k2 b0 d1 d2=>?_)));dsimp only
 have G:∀ v,v<Al.length->κ.kle (KK κ (J7 z) (U.length+v)) x2:=fun v hv=>by rw [<- g3];exact u1 v (Al.length-1) (by lia) (by lia)
 have Y:∀ t,t<Bl.length->κ.kle x (KK κ (J7 z) (U.length+Al.length+t)):=fun t O=>by
  rw [<- f3]
  have:=T 0 t (Q9 _) O
  rwa [Ul]at this
 refine cE (fun c=>QA (stay fun p' g q' B=>?_)) fun c2=>?_
 ·have:=beq_iff_eq.mp c
  obtain⟨v,R,H⟩:=nZ (κ:=κ) M g;obtain⟨t,W,I⟩:=nZ (κ:=κ) eB B;unfold Rk;rw [<- H,<- I,lB];exact Yd (G v R) (v9 (d2 t (by lia) W))
 rw [beq_iff_eq]at c2;clear stay;obtain⟨A1,A2,rfl,a9⟩:∃ A1 A2,Al=A1++A2/\A1.length=k1:=⟨Al.take k1,Al.drop k1,(QU _ _).symm,by rw [QS];lia⟩;obtain⟨B1,B2,rfl,a8⟩:∃ B1 B2,Bl=B1++B2/\B1.length=k2:=⟨Bl.take k2,Bl.drop k2,(QU _ _).symm,by rw [QS];lia⟩;subst a9 a8;simp only [Qd]at *
 have r:(J7 z).toList=(U++A1)++(A2++(B1++(B2++V))):=by rw [M];simp only [QG]
 have K:(J7 z).toList=(U++A1++A2)++(B1++(B2++V)):=by rw [M];simp only [QG]
 have eM:(J7 z).toList=(U++A1)++((A2++B1)++(B2++V)):=by rw [M];simp only [QG]
 have ex:((J7 z).extract (U.length+A1.length) (U.length+(A1.length+A2.length))).toList=A2:=FI r (by simp only [Qd]) (by simp only [Qd];lia);have ey:((J7 z).extract (U.length+(A1.length+A2.length)) (U.length+(A1.length+A2.length)+B1.length)).toList=B1:=FI K (by simp only [Qd];lia) (by simp only [Qd];lia);have sx:=congrArg List.length ex;have sy:=congrArg List.length ey;rw [Qg]at sx sy;obtain⟨a7,a6,a5⟩:=Ya.mp pA;obtain⟨a4,a3,a2⟩:=Ya.mp pB;have ux:=Im (κ:=κ) (a:=(J7 z).extract (U.length+A1.length) (U.length+(A1.length+A2.length))) (by rw [ex];exact a6);have uy:=Im (κ:=κ) (a:=(J7 z).extract (U.length+(A1.length+A2.length)) (U.length+(A1.length+A2.length)+B1.length)) (by rw [ey];exact a4)
 have kx:KeysOf κ ((J7 z).extract (U.length+A1.length) (U.length+(A1.length+A2.length))):=B0 all f.mix fun p g=>by
  rw [ex]at g;rw [r];exact Qv _ (QY _ g)
 have ky:KeysOf κ ((J7 z).extract (U.length+(A1.length+A2.length)) (U.length+(A1.length+A2.length)+B1.length)):=B0 all f.mix fun p g=>by
  rw [ey]at g;rw [K];exact Qv _ (QY _ g)
 have xx:∀ t,t<A2.length->KK κ ((J7 z).extract (U.length+A1.length) (U.length+(A1.length+A2.length))) t=KK κ (J7 z) (U.length+A1.length+t):=fun t O=>HF (by lia) (by lia);have yy:∀ t,t<B1.length->KK κ ((J7 z).extract (U.length+(A1.length+A2.length)) (U.length+(A1.length+A2.length)+B1.length)) t=KK κ (J7 z) (U.length+(A1.length+A2.length)+t):=fun t O=>HF (by lia) (by lia)
 have a0:∀ t,t<A2.length->κ.kle x (KK κ (J7 z) (U.length+A1.length+t)):=fun t O=>by
  have:=Bk (b2 (A1.length+t) (by lia) (by lia))
  rwa [<- JI]at this
 generalize hx:(J7 z).extract (U.length+A1.length) (U.length+(A1.length+A2.length))=xs at ex sx ux kx xx ⊢;generalize hy:(J7 z).extract (U.length+(A1.length+A2.length)) (U.length+(A1.length+A2.length)+B1.length)=ys at ey sy uy ky yy ⊢
 have c0:κ.kle (KK κ ys 0) x:=by rw [yy 0 (by lia),Ul,f3];exact Yp _
 have c9:KK κ xs (xs.size-1)=x2:=by rw [sx,xx _ (by lia),<- g3];congr 1;lia
 have cl:∀ d u,Md κ xs ys d->Zq y0 u->∀ y2:Za,kindOf y2=kindOf u->Zi y2=Zi u->Z7 y2=Z7 u->J7 y2=List.foldl (fun a x=>a.setIfInBounds (U.length+A1.length+x.snd) x.fst) (J7 u) d.toList.zipIdx->Q true y2:=by
  intro d u m F y2 l j r3 r4
  have mp:d.toList.Perm (A2++B1):=by have:=m.pm;rwa [ex,ey]at this
  have ml:d.toList.length=A2.length+B1.length:=by rw [mp.length_eq,Qd]
  have en:(J7 y2).toList=(U++A1)++(d.toList++(B2++V)):=by
   rw [r4,F.ar,q2];exact FT _ d.toList (A2++B1) (U++A1) (B2++V) 0 _ (by rw [ml,Qd]) (by rw [Qd,Ul]) eM
  have e3:(J7 y2).toList=U++((A1++(d.toList++B2))++V):=by rw [en];simp only [QG]
  have hA:∀ p∈A1,∀ q∈A2++B1,Rk κ p q:=fun p g q B=>by
   rcases QD.mp B with h | h
   ·exact a5 p g q h
   ·obtain⟨v,R,H⟩:=nZ (κ:=κ) (S:=A1) (U:=U) (V:=A2++(B1++(B2++V))) (by rw [r];simp only [QG]) g;obtain⟨t,W,I⟩:=nZ (κ:=κ) K h;unfold Rk;rw [<- H,<- I];simp only [Qd];rw [JI U.length];exact Yd (v7 (b1 v R)) (Y t (by lia))
  have hB:∀ p∈A2++B1,∀ q∈B2,Rk κ p q:=fun p g q B=>by
   rcases QD.mp g with h | h
   ·obtain⟨v,R,H⟩:=nZ (κ:=κ) r h;obtain⟨t,W,I⟩:=nZ (κ:=κ) (S:=B2) (U:=U++A1++A2++B1) (V:=V) (by rw [r];simp only [QG]) B;unfold Rk;rw [<- H,<- I];simp only [Qd];have z1:=G (A1.length+v) (by lia);have z2:=v9 (d2 (B1.length+t) (by lia) (by lia));rw [show U.length+A1.length+v=U.length+(A1.length+v) by lia,show U.length+A1.length+A2.length+B1.length+t=U.length+(A1.length+A2.length)+(B1.length+t) by lia];exact Yd z1 z2
   ·exact a2 p h q B
  have hS:(A1++(d.toList++B2)).Pairwise (Rk κ):=by
   refine Ya.mpr ⟨a7,Ya.mpr ⟨m.so,a3,fun p g q B=>hB p (mp.mem_iff.mp g) q B⟩,fun p g q B=>?_⟩;rcases QD.mp B with h | h
   ·exact hA p g q (mp.mem_iff.mp h)
   ·obtain⟨o,ho⟩:∃ o,o∈B1:=List.exists_mem_of_length_pos (by lia);exact Yd (hA p g o (Qv _ ho)) (hB o (Qv _ ho) q h)
  refine k y2 ⟨?_,by rw [l,F.kd,N],by rw [r3,F.fa,q4]⟩ (by rw [j,F.pe,q3]) ?_ fun v hv=>?_
  ·refine Array.Perm.trans (YO.mpr ?_) f.mix;rw [en,eM]
   exact(mp.append_right _).append_left _
  ·have:=(zR (κ:=κ) e3).mpr hS
   simp only [Qd,ml]at this
   rwa [show A1.length+(A2.length+B1.length+B2.length)=A1.length+A2.length+(B1.length+B2.length) by lia]at this
  ·refine PU (U:=U) (V:=V) (S:=A1++((A2++B1)++B2)) (by rw [r];simp only [QG]) e3 (by simp only [Qd,ml]) ?_;simp only [Qd];rcases hv with h | h
   ·exact Zl h
   ·exact Zf (by lia)
 refine cE (fun _=>Qu (Mw L N kx ky ux uy (by lia) (by lia) ?_ (fun t O=>?_) fun d u m F=>?_)) fun _=>Qu (Me L N kx ky ux uy (by lia) (by lia) (fun t O=>?_) ?_ fun d u m F=>?_)
 ·rw [xx 0 (by lia)];exact Yd c0 (a0 0 (by lia))
 ·rw [c9,yy t (by lia)];exact v8 (d1 t (by lia))
 ·have fin:=cl d u m F;refine Qu (JW (Qu (UD (QA ((congrArg (fun b=>Q b _) (show Option.isNone (Z7 u)=true by rw [F.fa,q4];rfl)).mpr ?_)))));exact fin _ rfl rfl rfl rfl
 ·rw [xx t (by lia)];exact Yd c0 (a0 t (by lia))
 ·rw [c9,yy _ (by lia)];exact v8 (d1 _ (by lia))
 ·have fin:=cl d u m F;refine Qu (JW (Qu (UD (QA ((congrArg (fun b=>Q b _) (show Option.isNone (Z7 u)=true by rw [F.fa,q4];rfl)).mpr ?_)))));exact fin _ rfl rfl rfl rfl
end
end TS
namespace TS
open PySem PyProof.Rows SG
abbrev jX:=Nat × Nat × Nat
def jB(κ:KeyKind)(a:Array J8):Nat->List jX->Nat->Prop
 | n,[],m=>n=m
 | n,r::rs,m=>r.1=n/\0<r.2.1/\Up κ a n r.2.1/\jB κ a (n+r.2.1) rs m
variable {κ:KeyKind}{arr arr':Array J8}
theorem uI:∀{xs ys:List jX}{n m:Nat},jB κ arr n (xs++ys) m ↔ ∃ k,jB κ arr n xs k/\jB κ arr k ys m
 | [],ys,n,m=>⟨fun h=>⟨n,rfl,h⟩,fun⟨k,e,h⟩=>by cases e;exact h⟩
 | x::xs,ys,n,m=>⟨fun f=>by
   obtain⟨a,b,c,d⟩:=f;obtain⟨k,i,g⟩:=uI.mp d
   exact⟨k,⟨a,b,c,i⟩,g⟩,fun⟨k,⟨a,b,c,d⟩,h⟩=>⟨a,b,c,uI.mpr ⟨k,d,h⟩⟩⟩
theorem xX:∀{xs:List jX}{n m:Nat},jB κ arr n xs m->n+xs.length<=m
 | [],n,m,h=>by cases h;exact Ql _
 | x::xs,n,m,⟨_,b,_,d⟩=>by have:=xX d;rw [Qt];lia
theorem xY:∀{xs:List jX}{n m:Nat},jB κ arr n xs m->(∀ v,n<=v->v<m->KK κ arr' v=KK κ arr v)->jB κ arr' n xs m
 | [],n,m,h,_=>h
 | x::xs,n,m,⟨a,b,c,d⟩,h=>⟨a,b,fun i j le lt=>by
   have:=xX d
   rw [h _ (by lia) (by lia),h _ (by lia) (by lia)]
   exact c i j le lt,xY d fun v f e=>h v (by lia) e⟩
theorem Gm{f:jX->jX}(g:∀ r,(f r).1=r.1)(e:∀ r,(f r).2.1=r.2.1):∀{xs:List jX}{i n m:Nat},jB κ arr n xs m->jB κ arr n (xs.modify i f) m
 | [],i,n,m,h=>by cases i <;> exact h
 | x::xs,0,n,m,⟨a,b,c,d⟩=>by
   rw [List.modify_zero_cons]
   refine⟨(g x).trans a,?_,?_,?_⟩
   ·rw [e];exact b
   ·rw [e];exact c
   ·rw [e];exact d
 | x::xs,i+1,n,m,⟨a,b,c,d⟩=>by
   rw [List.modify_succ_cons]
   exact⟨a,b,c,Gm g e d⟩
theorem Kv:∀(l:List jX) (i:Nat),i+1<l.length->∃ pre r1 r2 post,l=pre++r1::r2::post/\pre.length=i
 | [],i,h=>by cases h
 | [x],i,h=>by rw [Qx]at h;lia
 | x::y::l,0,h=>⟨[],x,y,l,rfl,rfl⟩
 | x::y::l,i+1,h=>by
  obtain⟨pre,r1,r2,post,e,a⟩:=Kv (y::l) i (by rw [Qt]at h;lia)
  exact⟨x::pre,r1,r2,post,by rw [e];rfl,by rw [Qt,a]⟩
theorem TQ{p:Array jX}{a post:List jX}{b c:jX}{i:Nat}(e:p.toList=a++b::c::post)(d:a.length=i):(wN p i b c).toList=a++(b.1,b.2.1+c.2.1,b.2.2)::post:=by
 unfold wN
 have:p=(a++b::c::post).toArray:=by rw [<- e]
 subst this d
 simp [List.eraseIdx_append_of_length_le,List.set_append_right]
section
variable {prog:J2}{w:J5}{A:Around}{E:YP->JZ->Prop}{s:JZ}{kd:ZP}{z:Za}{src:Array J8}
structure iU(κ:KeyKind)(src:Array J8)(kd:ZP)(lo:Nat)(z:Za):Prop where
 ft:Ft src kd z
 co:jB κ (J7 z) 0 (Zi z).toList lo
 le:lo<=src.size
theorem Eg{c i:Nat}{Q:Bool->Za->Prop}(L:gY prog w A s κ kd)(all:KeysOf κ src)(f:iU κ src kd c z)(u:i+1<(Zi z).size)(k:∀ y,iU κ src kd c y->(Zi y).size+1=(Zi z).size->(∀ v,c<=v->KK κ (J7 y) v=KK κ (J7 z) v)->Q true y):wpS (J3 prog w) A E s (mergeAt' i) Q z:=by
 obtain⟨p,r1,r2,b,e,g⟩:=Kv (Zi z).toList i (by rw [Qg];exact u);have l:=f.co;rw [e]at l;obtain⟨m,B,a1,o,H,b1,G,F,n⟩:=uI.mp l;have I:=xX n;have sz:=f.le
 have t:(Zi z)[i]?=some r1:=by rw [<- QE,e,<- g,QI (Ql _),Nat.sub_self];rfl
 have r:(Zi z)[i+1]?=some r2:=by rw [<- QE,e,<- g,QI (Q7 _ 1),YK];rfl
 refine Mz L all f.ft t r o G (by rw [b1,a1]) (by rw [b1];lia) (by rw [a1];exact H) (by rw [b1];exact F) fun y x q j a=>?_;have d:=TQ e g;rw [<- q]at d;rw [a1,b1]at a;refine k y ⟨x,?_,f.le⟩ ?_ fun v h=>a v (Zf (by lia))
 ·rw [d];refine uI.mpr ⟨m,xY B fun v _ h=>a v (Zl h),a1,QX o (Q7 _ _),by rw [a1]at j;exact j,?_⟩
  show jB κ (J7 y) (m+(r1.2.1+r2.2.1)) b c
  rw [<- JI];exact xY n fun v h _=>a v (Zf h)
 ·rw [<- Qg,<- Qg,d,e];simp;lia
theorem Li{b:Nat}(f:iU κ src kd b z){a:Array J8}(d:Ft src kd (ZJ z a))(c:Sm κ b (J7 z) a):iU κ src kd b (ZJ z a):=⟨d,xY f.co fun v _ h=>c v h,f.le⟩
theorem Lj{a n:Nat}(f:iU κ src kd a z)(b:Up κ (J7 z) a n)(d:1<=n)(c:a+n<=src.size):iU κ src kd (a+n) (setPending z ((Zi z).push (a,n,0))):=⟨⟨f.ft.mix,f.ft.kd,f.ft.fine⟩,by
 show jB κ (J7 z) 0 ((Zi z).push (a,n,0)).toList (a+n)
 rw [JM]
 exact uI.mpr ⟨a,f.co,rfl,d,b,rfl⟩,c⟩
theorem all_z{Q:Unit->Za->Prop}(L:gY prog w A s κ kd)(all:KeysOf κ src)(f:Ft src kd z)(W:Zi z=#[])(h2:2<=src.size)
  (k:∀ z',(J7 z').Perm src->Z7 z'=none->SortedToK κ (J7 z') src.size->Q () z'):wpS (J3 prog w) A E s sortRuns' Q z:=by
 rw [sortRuns'_eq];refine Qu (UD ?_);dsimp only;simp only [f.len];have M:iU κ src kd 0 z:=⟨f,by rw [W];rfl,Q9 _⟩
 refine Qu (Jq (Ys (fun t c y=>∃ b,c=(none,b)/\t<=b/\iU κ src kd b y) (Q:=fun c y=>c=(none,src.size)/\iU κ src kd src.size y)
  (fun t c y _ lt q=>?_) (fun c y q=>?_) ⟨0,rfl,Q9 _,M⟩) fun c y J=>?_)
 ·obtain⟨b,g,S,a⟩:=q;subst g;dsimp only;refine cE (fun c=>?_) fun c=>?_
  ·have e:b=src.size:=Nat.le_antisymm a.le c;subst e;exact QA ⟨rfl,a⟩
  ·refine Qu (ND L all a.ft (by lia) (by lia) fun m ys O T X g2 p=>?_);dsimp only;have F:=Li a O T;refine cE (fun Z=>?_) fun Z=>?_;refine Qu (UX (Y7 ⟨rfl,Qu (Mi L all O (n:=min (src.size-b) (minRun' src.size src.size 0)) (by lia) (by lia) p fun us Y N l=>?_)⟩));have x:=Li F Y N;simp only [Yf,Qj,if_false]
   have H:1<=min (src.size-b) (minRun' src.size src.size 0):=by lia
   have G:b+min (src.size-b) (minRun' src.size src.size 0)<=src.size:=by lia
   generalize min (src.size-b) (minRun' src.size src.size 0)=n at H G l ⊢
   rotate_left
   have x:=F;have l:=p;have H:=X
   have G:b+m<=src.size:=by lia
   generalize m=n at H G l ⊢
   all_goals
    refine Qu (UD ?_);split
    ·refine Qu (Jq (Ys (fun _ c o=>c=(none,())/\iU κ src kd b o/\Up κ (J7 o) b n) (Q:=fun c o=>c=(none,())/\iU κ src kd b o/\Up κ (J7 o) b n) (fun t c o _ lt q=>?_) (fun _ _ h=>h) ⟨rfl,x,l⟩) fun c o J=>?_)
     ·obtain⟨g,a,p⟩:=q;subst g;refine Qu (UD ?_);by_cases c:(Zi o).size > 1
      ·split
       ·refine cE (fun _=>QA ⟨rfl,a,p⟩) fun _=>?_;refine Qu (Eg L all a (by lia) fun y2 B _ v=>?_);simp only [Yf,Qj,if_false];exact QA ⟨rfl,B,fun i j le lt=>by rw [v _ (Q7 _ _),v _ (Q7 _ _)];exact p i j le lt⟩
       ·exact QA ⟨rfl,a,p⟩
      ·rw [if_neg c];exact QA ⟨rfl,a,p⟩
     ·obtain⟨g,a,p⟩:=J;subst g;dsimp only;refine Qu (JW (Qu (JW (QA ⟨b+n,rfl,by lia,Lj ⟨⟨a.ft.mix,a.ft.kd,a.ft.fine⟩,?_,a.le⟩ p H G⟩))));rw [Array.toList_modify];refine Gm ?_ ?_ a.co
      ·exact fun _=>rfl
      ·exact fun _=>rfl
    ·exact Qu (JW (QA ⟨b+n,rfl,by lia,Lj x l H G⟩))
 ·obtain⟨b,g,S,a⟩:=q
  have:b=src.size:=by have:=a.le;lia
  subst this
  exact⟨g,a⟩
 ·obtain⟨g,a⟩:=J;subst g;dsimp only
  refine Qu (Jq (Ys (fun t c y=>c=(none,())/\iU κ src kd src.size y/\((Zi y).size<=1 ∨ (Zi y).size+t<=src.size)) (Q:=fun c y=>c=(none,())/\iU κ src kd src.size y/\(Zi y).size<=1)
   (fun t c y _ lt q=>?_) (fun c y q=>?_) ⟨rfl,a,Zf ?_⟩) fun c y J=>?_)
  ·obtain⟨g,a,I⟩:=q;subst g;refine Qu (UD ?_);refine cE (fun c=>QA ⟨rfl,a,c⟩) fun c=>?_;refine Qu (Eg L all a ?_ fun o B sz _=>?_)
   ·repeat' split
    all_goals lia
   ·simp only [Yf,Qj,if_false];exact QA ⟨rfl,B,Zf (by lia)⟩
  ·obtain⟨g,a,I⟩:=q
   exact⟨g,a,by lia⟩
  ·have:=xX a.co;rw [Qg]at this;lia
  ·obtain⟨g,a,I⟩:=J;subst g;refine QA (k y a.ft.mix a.ft.fine ?_);have K:=a.co;rw [<- Qg]at I
   cases e:(Zi y).toList with
   | nil=>rw [e]at K;have:0=src.size:=K;lia
   | cons r U=>
    rw [e]at K I
    cases U with
    | cons _ _=>simp at I
    | nil=>
     obtain⟨_,_,u,d⟩:=K;have R:0+r.2.1=src.size:=d;rw [QZ]at R;rw [R]at u;intro i j le lt
     have:=u i j le lt
     rwa [QZ,QZ]at this
end
end TS
namespace SG
open PySem PyProof.Rows
section
variable {prog:J2}{w:J5}{A:Around}{E:YP->JZ->Prop}{s:JZ}{κ:KeyKind}{kd:ZP}
theorem VY{a:JY}{vs:List YP}{n:Nat}{P:Fin->JZ->Prop}(f:s.heap.get? a=some (Um "list" vs.toArray n))(all:KeysOf κ (UV vs))(v:vs.length<=1000)
  (kind:∀ h',(∀ b o,b≠a->s.heap.get? b=some o->h'.get? b=some o)->2<=vs.length->J1 (J3 prog w) A (keyKind' vs.toArray) (fun q s'=>q=kd/\s'={ s with heap:=h' }) E { s with heap:=h' })
  (L:∀ h',(∀ b o,b≠a->s.heap.get? b=some o->h'.get? b=some o)->gY prog w A { s with heap:=h' } κ kd)
  (k:∀ z':Za,(J7 z').Perm (UV vs)->SortedToK κ (J7 z') (UV vs).size->P (.done (.ret .none)) { s with heap:=sortedHeap s.heap a vs ((J7 z').map (·.2)) }):
  J1 (J3 prog w) A (Builtin.«list.sort» ⟨[.ref a],[]⟩) P E s:=by
 have y:a<s.heap.objs.size:=Qs f
 have x:vs.toArray.size=vs.length:=by simp
 rw [list_sort_plain];refine Qa (listItems_at f rfl (Qa (listUpdate_at f rfl ?_)));obtain⟨t,p⟩:∃ t,(s.heap.update a (Ug fun _=>#[])).get? a=some (Um "list" #[] t):=⟨_,get?_update_seq f fun _=>#[]⟩;refine Qa (seqEpoch_at p rfl (Qa (wpAny_newTuple (Qa (wpAny_newList (Yg ?_))))))
 show J1 (J3 prog w) A _ P E { s with heap:=((s.heap.update a (Ug fun _=>#[])).push (Um "tuple" vs.toArray 0)).push (Um "list" #[] 0) }
 have keep:∀ b o,b≠a->s.heap.get? b=some o->(((s.heap.update a (Ug fun _=>#[])).push (Um "tuple" vs.toArray 0)).push (Um "list" #[] 0)).get? b=some o:=fun b o u e=>
  Qh _ (Qh _ (by rw [Heap.get?_update_ne _ _ _ _ u];exact e))
 have g:(((s.heap.update a (Ug fun _=>#[])).push (Um "tuple" vs.toArray 0)).push (Um "list" #[] 0)).get? a=some (Um "list" #[] t):=Qh _ (Qh _ p);dsimp only;by_cases c:vs.toArray.size<2
 ·rw [if_pos c,if_pos c];refine Qa (Qb ?_);rw [StateT.run_pure]
  refine Qa (Qb (Qa (seqEpoch_at g rfl (Qa (listUpdate_at g rfl ?_ (hsz2:=by
   rw [Jf];show(UV vs).size<=_;rw [Uo,Yj];lia))))))
  simp only [bne_self_eq_false,Qj,if_false];refine Qb (k (SortSt.mk' general' (vs.toArray.zip vs.toArray) #[] 7 none) (Array.Perm.refl _) fun i j le lt=>?_)
  obtain rfl:i=j:=by rw [Uo]at lt;lia
  exact Yp _
 ·rw [if_neg c,if_neg c];refine Qa (Y6 (kind _ keep (by lia)) (fun q s' m=>?_) fun _ _ e=>e);obtain⟨rfl,rfl⟩:=m
  refine Qa (Y6 (TS.all_z (src:=UV vs) (z:=SortSt.mk' q (vs.toArray.zip vs.toArray) #[] 7 none)
   (Q:=fun _ z'=>(J7 z').Perm (UV vs)/\Z7 z'=none/\SortedToK κ (J7 z') (UV vs).size)
   (L _ keep) all ⟨Array.Perm.refl _,rfl,rfl⟩ rfl (by rw [Uo];lia) fun z' d l h=>⟨d,l,h⟩) (fun r s' m=>?_) fun _ _ e=>e)
  obtain⟨⟨⟩,z'⟩:=r;obtain⟨rfl,d,l,h⟩:=m;dsimp only at d l h ⊢
  refine Qa (seqEpoch_at g rfl (Qa (listUpdate_at g rfl ?_ (hsz2:=by
   refine QL (Nat.le_of_eq ((Jf ..).trans (d.size_eq.trans (Uo _)))) ?_
   rw [Yj];lia))))
  rw [l];simp only [bne_self_eq_false,Qj,if_false];exact Qb (k z' d h)
end
end SG
namespace DL
open PySem PySem.Spec PyProof.Rows L2
abbrev D:=PyData
def lP(K:PySem.W.Frag)(F:JY->Prop)(H:Hp)(a:JY)(vs:List V):Prop:=(F a/\Rd H a (.lst vs)) ∨ cD K (fun _=>none) a vs
theorem lP.sq{K:PySem.W.Frag}{F:JY->Prop}{H:Hp}{a:JY}{vs:List V}(h:lP K F H a vs):cD K H a vs:=by
 rcases h with⟨_,h⟩ | (h | ⟨o,h⟩) | h
 ·exact .inl h
 ·cases h
 ·cases h
 ·exact .inr h
abbrev fC:=Sum (List Int) (List (List Int))
def sF(a:List Int):D:=.tuple (a.map .int)
def lW:fC->D
 | .inl b=>sF b
 | .inr a=>.tuple (a.map sF)
def Hq(a:List Int):Int:=reduceHash (Zg (a.map hashInt))
def BQ:fC->Int
 | .inl b=>Hq b
 | .inr a=>reduceHash (Zg (a.map Hq))
def gL(K:PySem.W.Frag)(H:Hp)(k:fC)(b:JY):Prop:=match k with
 | .inl c=>bP K H b (c.map V.int)
 | .inr a=>a≠[]/\∃ bs:List JY,bP K H b (bs.map V.ref)/\Paired (fun(c:List Int) (b:JY)=>bP K H b (c.map V.int)) a bs
def cN(a:JY)(es:List (fC × JY × V))(ep:Nat):HO:=.ext fun h=>(a == ZM)=false/\∃ o raw,h.get? a=some o/\o.ExactDict/\o.data=.dict raw ep/\Paired (fun(e:fC × JY × V) (r:ZV)=>r.hash=BQ e.1/\r.key=.ref e.2.1/\RelV e.2.2 r.val) es raw.toList
def Lx(a C:JY):HO:=.ext fun h=>∃ o,h.get? a=some o/\o.cls=.ref C
def L1(x:Str):D:=.dict [(.none,.str x)]
def LB(a:JY)(vs:List V):HO:=.ext fun h=>vs.length<=sizeLine/\∃(its:List YP) (n:Nat),Vals vs its/\h.get? a=some { cls:=.type "list",data:=.seq its.toArray n }
mutual
inductive aR(K:PySem.W.Frag)(F:JY->Prop)(H:Hp):D->V->Prop
 | non:aR K F H .none .non
 | bl (b:Bool):aR K F H (.bool b) (.bl b)
 | int (i:Int):aR K F H (.int i) (.int i)
 | str (x:Str):aR K F H (.str x) (.str x)
 | tup {a:JY}{vs:List V}{ds:List D}:bP K H a vs->Reps K F H ds vs->aR K F H (.tuple ds) (.ref a)
 | lst {a:JY}{vs:List V}{ds:List D}:lP K F H a vs->Reps K F H ds vs->aR K F H (.list ds) (.ref a)
 | dct {a:JY}{es:List (fC × JY × V)}{kvs:List (D × D)}{ep:Nat}:F a->H a=some (cN a es ep)->(es.map (·.1)).Nodup->es.length<=1000->DReps K F H kvs es->aR K F H (.dict kvs) (.ref a)
 | exn {a C:JY}{x:Str}:F a->H a=some (Lx a C)->PySem.W.nsIn K Zd x=some (some (.ref C))->aR K F H (L1 x) (.ref a)
inductive DReps(K:PySem.W.Frag)(F:JY->Prop)(H:Hp):List (D × D)->List (fC × JY × V)->Prop
 | nil:DReps K F H [] []
 | cons {k:fC}{b:JY}{d:D}{v:V}{kvs:List (D × D)}{es:List (fC × JY × V)}:gL K H k b->aR K F H d v->DReps K F H kvs es->DReps K F H ((lW k,d)::kvs) ((k,b,v)::es)
inductive Reps(K:PySem.W.Frag)(F:JY->Prop)(H:Hp):List D->List V->Prop
 | nil:Reps K F H [] []
 | cons {d:D}{v:V}{ds:List D}{vs:List V}:aR K F H d v->Reps K F H ds vs->Reps K F H (d::ds) (v::vs)
end
structure bN(K:PySem.W.Frag)(F F':JY->Prop)(H H':Hp):Prop where
 up:∀ a,F a->F' a
 tp:∀ a xs,bP K H a xs->bP K H' a xs
 ls:∀ a xs,F a->Rd H a (.lst xs)->Rd H' a (.lst xs)
 xt:∀ a φ,F a->H a=some (.ext φ)->H' a=some (.ext φ)
theorem gL.stay{K:PySem.W.Frag}{F f:JY->Prop}{H a:Hp}(S:bN K F f H a){k:fC}{b:JY}(h:gL K H k b):gL K a k b:=by
 cases k with
 | inl g=>exact S.tp _ _ h
 | inr c=>obtain⟨n,bs,e,d⟩:=h;exact⟨n,bs,S.tp _ _ e,Paired.mapP d fun _ _ z=>S.tp _ _ z⟩
theorem lP.stay{K:PySem.W.Frag}{F c:JY->Prop}{H b:Hp}(S:bN K F c H b){a:JY}{vs:List V}(h:lP K F H a vs):lP K c b a vs:=by
 rcases h with⟨f,h⟩ | h
 ·exact .inl ⟨S.up a f,S.ls a vs f h⟩
 ·exact .inr h
mutual
theorem aR.stay{K:PySem.W.Frag}{F c:JY->Prop}{H a:Hp}(S:bN K F c H a){d:D}{v:V}(h:aR K F H d v):aR K c a d v:=by
 cases h with
 | non=>exact .non
 | bl b=>exact .bl b
 | int i=>exact .int i
 | str x=>exact .str x
 | tup h r=>exact .tup (S.tp _ _ h) (Reps.stay S r)
 | lst h r=>exact .lst (h.stay S) (Reps.stay S r)
 | dct f h n l r=>exact .dct (S.up _ f) (S.xt _ _ f h) n l (DReps.stay S r)
 | exn f h n=>exact .exn (S.up _ f) (S.xt _ _ f h) n
theorem DReps.stay{K:PySem.W.Frag}{F c:JY->Prop}{H b:Hp}(S:bN K F c H b){a:List (D × D)}{es:List (fC × JY × V)}(h:DReps K F H a es):DReps K c b a es:=by
 cases h with
 | nil=>exact .nil
 | cons h r t=>exact .cons (h.stay S) (aR.stay S r) (DReps.stay S t)
theorem Reps.stay{K:PySem.W.Frag}{F b:JY->Prop}{H a:Hp}(S:bN K F b H a){ds:List D}{vs:List V}(h:Reps K F H ds vs):Reps K b a ds vs:=by
 cases h with
 | nil=>exact .nil
 | cons h r=>exact .cons (aR.stay S h) (Reps.stay S r)
end
theorem Reps.length{K:PySem.W.Frag}{F:JY->Prop}{H:Hp}:∀{ds:List D}{vs:List V},Reps K F H ds vs->ds.length=vs.length
 | _,_,.nil=>rfl
 | _,_,.cons _ r=>by simp [Reps.length r]
theorem Reps.get{K:PySem.W.Frag}{F:JY->Prop}{H:Hp}:∀{ds:List D}{vs:List V}{i:Nat}{d:D},Reps K F H ds vs->ds[i]?=some d->∃ v,vs[i]?=some v/\aR K F H d v
 | _,_,_,_,.nil,e=>by simp at e
 | _,_,0,_,.cons h _,e=>by simp at e;subst e;exact⟨_,rfl,h⟩
 | _,_,i+1,d,.cons _ r,e=>by
  obtain⟨v,b,a⟩:=Reps.get (i:=i) (d:=d) r (by simpa using e)
  exact⟨v,by simpa using b,a⟩
theorem Reps.append{K:PySem.W.Frag}{F:JY->Prop}{H:Hp}:∀{ds es:List D}{vs us:List V},Reps K F H ds vs->Reps K F H es us->Reps K F H (ds++es) (vs++us)
 | _,_,_,_,.nil,s=>s
 | _,_,_,_,.cons h r,s=>.cons h (Reps.append r s)
theorem Reps.take{K:PySem.W.Frag}{F:JY->Prop}{H:Hp}:∀{ds:List D}{vs:List V} (n:Nat),Reps K F H ds vs->Reps K F H (ds.take n) (vs.take n)
 | _,_,0,_=>.nil
 | _,_,_+1,.nil=>.nil
 | _,_,n+1,.cons h r=>.cons h (Reps.take n r)
theorem Reps.drop{K:PySem.W.Frag}{F:JY->Prop}{H:Hp}:∀{ds:List D}{vs:List V} (n:Nat),Reps K F H ds vs->Reps K F H (ds.drop n) (vs.drop n)
 | _,_,0,r=>r
 | _,_,_+1,.nil=>.nil
 | _,_,n+1,.cons _ r=>Reps.drop n r
structure aN(F F':JY->Prop)(H H':Hp):Prop where
 same:fG H H'
 up:∀ a,F a->F' a
 new:∀ a,F' a->F a ∨ (H a=none/\H' a≠none)
theorem aN.refl(F:JY->Prop)(H:Hp):aN F F H H:=⟨fG.refl H,fun _ h=>h,fun _ h=>.inl h⟩
theorem aN.trans{F g f:JY->Prop}{H e H2:Hp}(a:aN F g H e)(b:aN g f e H2):aN F f H H2:=
 ⟨a.same.trans b.same,fun x h=>b.up x (a.up x h),fun x h=>by
  rcases b.new x h with d | ⟨d,j⟩
  ·rcases a.new x d with c | ⟨c,i⟩
   ·exact .inl c
   ·refine .inr ⟨c,fun z=>i (b.same.free z)⟩
  ·exact .inr ⟨a.same.free d,j⟩⟩
theorem fG.sqT{K:PySem.W.Frag}{H b:Hp}{a:JY}{xs:List V}(e:fG H b)(h:bP K H a xs):bP K b a xs:=by
 rcases h with(h | ⟨o,h⟩) | h
 ·exact .inl (.inl (e _ _ h))
 ·exact .inl (.inr ⟨o,e _ _ h⟩)
 ·exact .inr h
theorem fG.rd{H b:Hp}{a:JY}{u:HO}(e:fG H b)(h:Rd H a u):Rd b a u:=by
 rcases h with h | ⟨o,h⟩
 ·exact .inl (e _ _ h)
 ·exact .inr ⟨o,e _ _ h⟩
theorem aN.stay{K:PySem.W.Frag}{F a:JY->Prop}{H H':Hp}(e:aN F a H H'):bN K F a H H':=
 ⟨e.up,fun _ _ h=>fG.sqT e.same h,fun _ _ _ h=>fG.rd e.same h,fun _ _ _ h=>e.same _ _ h⟩
theorem HS{H:Hp}{p:JY}{o:HO}(a:H p=none):fG H (aJ H p o):=fun b u e=>by
 rw [aZ (gF e a)];exact e
theorem aN.fresh{F:JY->Prop}{H:Hp}{p:JY}{o:HO}(a:H p=none):aN F F H (aJ H p o):=⟨HS a,fun _ h=>h,fun _ h=>.inl h⟩
theorem aN.frozen{F:JY->Prop}{H:Hp}{p:JY}{o:HO}(b:H p=none):aN F (fun a=>F a ∨ a=p) H (aJ H p o):=
 ⟨HS b,fun _ h=>.inl h,fun a h=>h.elim .inl fun e=>.inr (by subst e;exact⟨b,by rw [cS];simp⟩)⟩
theorem aR.newTup{K:PySem.W.Frag}{F:JY->Prop}{H:Hp}{p:JY}{vs:List V}{ds:List D}(a:H p=none)(r:Reps K F H ds vs):aR K F (aJ H p (.tup vs)) (.tuple ds) (.ref p):=
 .tup (.inl (.inl cS)) (r.stay (aN.fresh a).stay)
theorem aR.newLst{K:PySem.W.Frag}{F:JY->Prop}{H:Hp}{p:JY}{vs:List V}{ds:List D}(b:H p=none)(r:Reps K F H ds vs):aR K (fun a=>F a ∨ a=p) (aJ H p (.lst vs)) (.list ds) (.ref p):=
 .lst (.inl ⟨.inr rfl,.inl cS⟩) (r.stay (aN.frozen b).stay)
inductive Sl where
 | no
 | dat (d:D)
 | own (ds:List D)
 | ownD (kvs:List (D × D))
 | ownM (kvs:List (List Int × List D))
structure Q4 where
 k:List Int
 b:JY
 c:JY
 vs:List V
def Q4.ent(q:Q4):fC × JY × V:=(.inl q.k,q.b,.ref q.c)
structure LC(K:PySem.W.Frag)(F:JY->Prop)(H H₀:Hp)(kv:List Int × List D)(q:Q4):Prop where
 key:kv.1=q.k
 sq:bP K H q.b (q.k.map V.int)
 hc:H q.c=some (LB q.c q.vs)
 nf:¬ F q.c
 h0:H₀ q.c=none
 rs:Reps K F H kv.2 q.vs
structure wI(K:PySem.W.Frag)(F:JY->Prop)(H H₀:Hp)(kvs:List (List Int × List D))(a:JY)(qs:List Q4)(ep:Nat):Prop where
 hd:H a=some (cN a (qs.map Q4.ent) ep)
 nf:¬ F a
 h0:H₀ a=none
 nd:(qs.map (·.k)).Nodup
 ln:qs.length<=1000
 nv:(qs.map (·.c)).Nodup
 na:a∉qs.map (·.c)
 ps:Paired (LC K F H H₀) kvs qs
def vE(K:PySem.W.Frag)(F:JY->Prop)(H H₀:Hp):Option V->Sl->Prop
 | _,.no=>True
 | o,.dat d=>∃ v,o=some v/\aR K F H d v
 | o,.own ds=>∃ a vs,o=some (.ref a)/\H a=some (.lst vs)/\¬ F a/\H₀ a=none/\Reps K F H ds vs
 | o,.ownD kvs=>∃ a es ep,o=some (.ref a)/\H a=some (cN a es ep)/\¬ F a/\H₀ a=none/\(es.map (·.1)).Nodup/\es.length<=1000/\DReps K F H kvs es
 | o,.ownM kvs=>∃ a es ep,o=some (.ref a)/\wI K F H H₀ kvs a es ep
structure bH(K:PySem.W.Frag)(F:JY->Prop)(H H₀:Hp)(σ:L2.St)(ρ:List Sl):Prop where
 len:σ.length=ρ.length
 sl:∀(i:Nat) (s:Sl),ρ[i]?=some s->∃ o,σ[i]?=some o/\vE K F H H₀ o s
 sep:∀(i j:Nat) (a:JY) (ds es:List D),i≠j->ρ[i]?=some (.own ds)->ρ[j]?=some (.own es)->σ[i]?=some (some (.ref a))->σ[j]?≠some (some (.ref a))
 fz:∀ a,F a->H a≠none
theorem wI.to{K:PySem.W.Frag}{F e:JY->Prop}{H d H₀:Hp}{c:List (List Int × List D)}{a:JY}{es:List Q4}{ep:Nat}(m:wI K F H H₀ c a es ep)(T:bN K F e H d)
  (k:∀ b φ,H b=some (.ext φ)->¬ F b->d b=some (.ext φ)/\¬ e b):wI K e d H₀ c a es ep:=
 ⟨(k _ _ m.hd m.nf).1,(k _ _ m.hd m.nf).2,m.h0,m.nd,m.ln,m.nv,m.na,Paired.mapP m.ps fun _ _ q=>⟨q.key,T.tp _ _ q.sq,(k _ _ q.hc q.nf).1,(k _ _ q.hc q.nf).2,q.h0,q.rs.stay T⟩⟩
theorem vE.ext{K:PySem.W.Frag}{F w:JY->Prop}{H u H₀:Hp}(e:aN F w H u){o:Option V}{s:Sl}(h:vE K F H H₀ o s):vE K w u H₀ o s:=by
 cases s with
 | no=>trivial
 | ownM i=>
  obtain⟨a,k,p,q,m⟩:=h
  refine⟨a,k,p,q,m.to e.stay fun b y t c=>⟨e.same _ _ t,fun f=>?_⟩⟩
  rcases e.new b f with f | ⟨f,_⟩
  ·exact c f
  ·rw [t]at f;cases f
 | ownD i=>
  obtain⟨a,k,p,q,g,c,j,n,l,r⟩:=h
  refine⟨a,k,p,q,e.same _ _ g,fun f=>?_,j,n,l,r.stay e.stay⟩
  rcases e.new a f with f | ⟨f,_⟩
  ·exact c f
  ·rw [g]at f;cases f
 | dat d=>obtain⟨v,q,r⟩:=h;exact⟨v,q,r.stay e.stay⟩
 | own z=>
  obtain⟨a,x,q,g,c,j,r⟩:=h
  refine⟨a,x,q,e.same _ _ g,fun f=>?_,j,r.stay e.stay⟩
  rcases e.new a f with f | ⟨f,_⟩
  ·exact c f
  ·rw [g]at f;cases f
theorem aN.fz{F c:JY->Prop}{H b:Hp}(e:aN F c H b)(z:∀ a,F a->H a≠none):∀ a,c a->b a≠none:=fun a f q=>by
 rcases e.new a f with f | ⟨_,f⟩
 ·exact z a f (e.same.free q)
 ·exact f q
theorem bH.ext{K:PySem.W.Frag}{F c:JY->Prop}{H b H₀:Hp}{a:L2.St}{ρ:List Sl}(S:bH K F H H₀ a ρ)(e:aN F c H b):bH K c b H₀ a ρ:=
 ⟨S.len,fun i s h=>let⟨o,q,r⟩:=S.sl i s h;⟨o,q,r.ext e⟩,S.sep,e.fz S.fz⟩
theorem bH.dat{K:PySem.W.Frag}{F:JY->Prop}{H H₀:Hp}{a:L2.St}{ρ:List Sl}(S:bH K F H H₀ a ρ){i:Nat}{d:D}(h:ρ[i]?=some (.dat d)):∃ v,a[i]?=some (some v)/\aR K F H d v:=by
 obtain⟨o,q,v,e,r⟩:=S.sl i _ h
 exact⟨v,by rw [q,e],r⟩
theorem bH.ownD{K:PySem.W.Frag}{F:JY->Prop}{H H₀:Hp}{c:L2.St}{ρ:List Sl}(S:bH K F H H₀ c ρ){i:Nat}{b:List (D × D)}(h:ρ[i]?=some (.ownD b)):
  ∃ a es ep,c[i]?=some (some (.ref a))/\H a=some (cN a es ep)/\¬ F a/\H₀ a=none/\(es.map (·.1)).Nodup/\es.length<=1000/\DReps K F H b es:=by
 obtain⟨o,q,a,es,ep,e,r⟩:=S.sl i _ h
 exact⟨a,es,ep,by rw [q,e],r⟩
theorem bH.own{K:PySem.W.Frag}{F:JY->Prop}{H H₀:Hp}{b:L2.St}{ρ:List Sl}(S:bH K F H H₀ b ρ){i:Nat}{ds:List D}(h:ρ[i]?=some (.own ds)):
  ∃ a vs,b[i]?=some (some (.ref a))/\H a=some (.lst vs)/\¬ F a/\H₀ a=none/\Reps K F H ds vs:=by
 obtain⟨o,q,a,vs,e,r⟩:=S.sl i _ h
 exact⟨a,vs,by rw [q,e],r⟩
theorem bH.put{K:PySem.W.Frag}{F:JY->Prop}{H H₀:Hp}{m:L2.St}{ρ:List Sl}(S:bH K F H H₀ m ρ){i:Nat}{d:D}{v:V}(r:aR K F H d v):bH K F H H₀ (m.set i (some v)) (ρ.set i (.dat d)):=by
 refine⟨by simp [S.len],fun j s h=>?_,fun j k a x u l g f n=>?_,S.fz⟩
 ·by_cases b:i=j
  ·subst b
   have c:i<ρ.length:=by
    have:=Qc.mp h
    simpa using this.1
   rw [Qy c]at h;cases h
   exact⟨some v,by rw [Qy (by rw [S.len];exact c)],v,rfl,r⟩
  ·rw [Qr b]at h;obtain⟨o,q,w⟩:=S.sl j s h
   exact⟨o,by rw [Qr b];exact q,w⟩
 ·have t:i≠j:=by
   intro e;subst e
   have c:i<ρ.length:=by
    have:=Qc.mp g
    simpa using this.1
   rw [Qy c]at g;cases g
  have p:i≠k:=by
   intro e;subst e
   have c:i<ρ.length:=by
    have:=Qc.mp f
    simpa using this.1
   rw [Qy c]at f;cases f
  rw [Qr t]at g n;rw [Qr p]at f ⊢;exact S.sep j k a x u l g f n
theorem bH.putOwn{K:PySem.W.Frag}{F:JY->Prop}{H H₀:Hp}{B:L2.St}{ρ:List Sl}(S:bH K F H H₀ B ρ){i:Nat}{ds:List D}{vs:List V}{p:JY}(E:H p=none)(Q:H₀ p=none)(r:Reps K F H ds vs):
  bH K F (aJ H p (.lst vs)) H₀ (B.set i (some (.ref p))) (ρ.set i (.own ds)):=by
 have e:aN F F H (aJ H p (.lst vs)):=aN.fresh E;have S':=S.ext e;have O:¬ F p:=fun f=>S.fz p f E
 refine⟨by simp [S.len],fun j s h=>?_,fun j k a x v n A y u t=>?_,S'.fz⟩
 ·by_cases c:i=j
  ·subst c
   have g:i<ρ.length:=by
    have:=Qc.mp h
    simpa using this.1
   rw [Qy g]at h;cases h
   exact⟨some (.ref p),by rw [Qy (by rw [S.len];exact g)],p,vs,rfl,cS,O,Q,r.stay e.stay⟩
  ·rw [Qr c]at h;obtain⟨o,q,w⟩:=S'.sl j s h
   exact⟨o,by rw [Qr c];exact q,w⟩
 ·have l:∀(m:Nat) (a:JY) (v:List D),i≠m->(ρ.set i (.own ds))[m]?=some (.own v)->(B.set i (some (.ref p)))[m]?=some (some (.ref a))->a≠p:=fun m a v N J G z=>by
   rw [Qr N]at J G;obtain⟨b,R,M,I,_⟩:=S.own J;rw [M]at G;cases G;subst z;rw [E]at I;cases I
  by_cases c:i=j
  ·subst c;have d:i≠k:=n
   have g:i<ρ.length:=by
    have:=Qc.mp A
    simpa using this.1
   rw [Qy (by rw [S.len];exact g)]at u;cases u;exact l k p v d y t rfl
  ·by_cases d:i=k
   ·subst d
    have g:i<ρ.length:=by
     have:=Qc.mp y
     simpa using this.1
    rw [Qy (by rw [S.len];exact g)]at t;cases t;exact l j p x c A u rfl
   ·rw [Qr c]at A u;rw [Qr d]at y t;exact S.sep j k a x v n A y u t
theorem bH.turn{K:PySem.W.Frag}{F:JY->Prop}{H H₀:Hp}{N:L2.St}{ρ:List Sl}(S:bH K F H H₀ N ρ){i:Nat}{ds es:List D}{vs us:List V}{p:JY}(J:ρ[i]?=some (.own ds))(hs:N[i]?=some (some (.ref p)))
  (I:H p=some (.lst vs)) (M:¬ F p) (r:Reps K F H es us):bH K F (aJ H p (.lst us)) H₀ N (ρ.set i (.own es))/\bN K F F H (aJ H p (.lst us)):=by
 have T:bN K F F H (aJ H p (.lst us)):=⟨fun _ h=>h,fun a xs h=>by
   rcases h with(h | ⟨o,h⟩) | h
   ·exact .inl (.inl (by rw [aZ (by intro z;subst z;rw [I]at h;cases h)];exact h))
   ·exact .inl (.inr ⟨o,by rw [aZ (by intro z;subst z;rw [I]at h;cases h)];exact h⟩)
   ·exact .inr h,fun a xs f h=>by
   have x:a≠p:=fun z=>M (z ▸ f);rcases h with h | ⟨o,h⟩
   ·exact .inl (by rw [aZ x];exact h)
   ·exact .inr ⟨o,by rw [aZ x];exact h⟩,fun a φ f h=>by rw [aZ (fun z=>M (by rw [<- z];exact f))];exact h⟩
 refine⟨⟨by simp [S.len],fun j s h=>?_,fun j k a u c Q h1 h2 h3=>?_,fun a f z=>S.fz a f (by
  have x:a≠p:=fun y=>M (by rw [<- y];exact f)
  rwa [aZ x]at z)⟩,T⟩
 ·by_cases t:i=j
  ·subst t;have hl:i<ρ.length:=(Qc.mp J).1;rw [Qy hl]at h;cases h;obtain⟨a,Y,Z,_,_,q4,_⟩:=S.own J;rw [hs]at Z;cases Z
   exact⟨_,hs,p,us,rfl,cS,M,q4,r.stay T⟩
  ·rw [Qr t]at h;obtain⟨o,q,w⟩:=S.sl j s h
   refine⟨o,q,?_⟩
   cases s with
   | no=>trivial
   | ownM O=>
    obtain⟨a,c,X,e,m⟩:=w
    exact⟨a,c,X,e,m.to T fun b φ R B=>⟨by rw [aZ (by intro z;subst z;rw [I]at R;cases R)];exact R,B⟩⟩
   | ownD O=>
    obtain⟨a,c,X,e,G,B,U,n,l,A⟩:=w
    exact⟨a,c,X,e,by rw [aZ (by intro z;subst z;rw [I]at G;cases G)];exact G,B,U,n,l,A.stay T⟩
   | dat d=>obtain⟨v,e,A⟩:=w;exact⟨v,e,A.stay T⟩
   | own u=>
    obtain⟨a,Y,e,G,B,U,A⟩:=w
    have x:a≠p:=by
     intro z;subst z;exact S.sep i j a ds u t J h hs (by rw [q,e])
    exact⟨a,Y,e,by rw [aZ x];exact G,B,U,A.stay T⟩
 ·have get:∀(m:Nat) (c:List D),(ρ.set i (.own es))[m]?=some (.own c)->∃ ds'':List D,ρ[m]?=some (.own ds''):=fun m c g=>by
   by_cases E:i=m
   ·subst E;exact⟨ds,J⟩
   ·rw [Qr E]at g;exact⟨c,g⟩
  obtain⟨d1,g1⟩:=get j u h1;obtain⟨d2,g2⟩:=get k c h2;exact S.sep j k a d1 d2 Q g1 g2 h3
def frz:Sl->Sl
 | .own b=>.dat (.list b)
 | .ownD a=>.dat (.dict a)
 | .ownM _=>.no
 | s=>s
def eO(b:L2.St)(ρ:List Sl)(a:JY):Prop:=(∃(i:Nat) (ds:List D),ρ[i]?=some (.own ds)/\b[i]?=some (some (.ref a))) ∨ ∃(i:Nat) (kvs:List (D × D)),ρ[i]?=some (.ownD kvs)/\b[i]?=some (some (.ref a))
theorem bH.frz{K:PySem.W.Frag}{F:JY->Prop}{H H₀:Hp}{t:L2.St}{ρ:List Sl}(S:bH K F H H₀ t ρ):bH K (fun a=>F a ∨ eO t ρ a) H H₀ t (ρ.map frz):=by
 have T:bN K F (fun a=>F a ∨ eO t ρ a) H H:=⟨fun _ h=>.inl h,fun _ _ h=>h,fun _ _ _ h=>h,fun _ _ _ h=>h⟩
 refine⟨by simp [S.len],fun j s h=>?_,fun j k a B J _ p=>?_,fun a f=>?_⟩
 ·rw [QF]at h
  cases e:ρ[j]? with
  | none=>rw [e]at h;cases h
  | some u=>
   rw [e]at h;obtain⟨o,q,w⟩:=S.sl j u e
   refine⟨o,q,?_⟩
   cases u with
   | no=>cases h;trivial
   | ownM g=>cases h;trivial
   | ownD g=>
    cases h;obtain⟨a,J,M,c,y,G,I,n,l,r⟩:=w
    exact⟨.ref a,c,.dct (.inr (.inr ⟨j,g,e,by rw [q,c]⟩)) y n l (r.stay T)⟩
   | dat d=>cases h;obtain⟨v,c,r⟩:=w;exact⟨v,c,r.stay T⟩
   | own B=>
    cases h;obtain⟨a,E,c,y,G,I,r⟩:=w
    exact⟨.ref a,c,.lst (.inl ⟨.inr (.inl ⟨j,B,e,by rw [q,c]⟩),.inl y⟩) (r.stay T)⟩
 ·rw [QF]at p
  cases e:ρ[j]? with
  | none=>rw [e]at p;cases p
  | some u=>rw [e]at p;cases u <;> cases p
 ·rcases f with f | ⟨i,B,x,m⟩ | ⟨i,g,x,m⟩
  ·exact S.fz a f
  ·obtain⟨b,E,A,z,_⟩:=S.own x;rw [A]at m;cases m;rw [z];simp
  ·obtain⟨b,E,M,A,z,_⟩:=S.ownD x;rw [A]at m;cases m;rw [z];simp
end DL
namespace DL
open PySem PySem.Spec PyProof.Rows L2
abbrev aA:=List Sl
section
variable {X:Cx}
theorem cY{e:Expr}{t t':TE}(h:PE X e t)(m:∀ σ H Q,t' σ H Q->t σ H Q):PE X e t':=fun a s σ H Q I q=>h a s σ H Q I (m σ H Q q)
theorem nV{e:Expr}{t t':TT}(h:PT X e t)(m:∀ σ H Q,t' σ H Q->t σ H Q):PT X e t':=fun a s σ H Q I q=>h a s σ H Q I (m σ H Q q)
theorem C0{e:Expr}{t t':TT}(h:PW X e t)(m:∀ σ H Q,t' σ H Q->t σ H Q):PW X e t':=fun b a s σ H Q I q=>h b a s σ H Q I (m σ H Q q)
theorem xR{es:List Expr}{t t':TA}(h:PA X es t)(m:∀ σ H Q,t' σ H Q->t σ H Q):PA X es t':=fun b a s σ H Q I q=>h b a s σ H Q I (m σ H Q q)
theorem ps_mono{e:Zm}{t t':TS}(h:PS X e t)(m:∀ W σ H,t' W σ H->t W σ H):PS X e t':=fun a s σ H W I q=>h a s σ H W I (m W σ H q)
theorem tU{e:List Zm}{t t':TS}(h:gH X e t)(m:∀ W σ H,t' W σ H->t W σ H):gH X e t':=fun a s σ H W I q=>h a s σ H W I (m W σ H q)
theorem qP{f:YP->YP->Sem YP}{r r':R2}(h:bI X f r)(m:∀ x y H Q,r' x y H Q->r x y H Q):bI X f r':=fun a s b H x y v u Q I d c q=>h a s b H x y v u Q I d c (m x y H Q q)
theorem WT{f:YP->Sem YP}{r r':V->Hp->VK->Prop}(h:oA X f r)(m:∀ x H Q,r' x H Q->r x H Q):oA X f r':=fun a s b H x v Q I c q=>h a s b H x v Q I c (m x H Q q)
theorem wD{f:YP}{r r':List V->Hp->VK->Prop}(h:fV X f r)(m:∀ x H Q,r' x H Q->r x H Q):fV X f r':=fun a s b H x v Q I c q=>h a s b H x v Q I c (m x H Q q)
theorem Rn{r r':R2}(h:jD X r)(m:∀ x y H Q,r' x y H Q->r x y H Q):jD X r':=fun a b c s d H x y v u Q I f e q g=>h a b c s d H x y v u Q I f e (m x y H Q q) g
end
inductive n8(K:PySem.W.Frag)(σ:L2.St)(H:Hp){α:Type}(g:aA->Option α)(h:(JY->Prop)->α->Prop):Prop
 | mk (F:JY->Prop) (H₀:Hp) (ρ:aA) (x:α) (S:bH K F H H₀ σ ρ) (q:g ρ=some x) (k:h F x):n8 K σ H g h
def tD(K:PySem.W.Frag)(g:aA->Option D):TE:=fun a H Q=>n8 K a H g fun F d=>∀ F' H' v,aN F F' H H'->aR K F' H' d v->Q v H'
def oK(K:PySem.W.Frag)(g:aA->Option Bool):TT:=fun a H Q=>n8 K a H g fun F b=>∀ F' H',aN F F' H H'->Q b H'
def Ex(K:PySem.W.Frag)(g:aA->Option (List D)):TA:=fun a H Q=>n8 K a H g fun F b=>∀ F' H' vs,aN F F' H H'->Reps K F' H' b vs->Q vs H'
def DE(X:Cx)(e:Expr)(g:aA->Option D):Prop:=PE X e (tD X.K g)
def DT(X:Cx)(e:Expr)(g:aA->Option Bool):Prop:=PT X e (oK X.K g)
def DW(X:Cx)(e:Expr)(g:aA->Option Bool):Prop:=PW X e (oK X.K g)
def DA(X:Cx)(es:List Expr)(g:aA->Option (List D)):Prop:=PA X es (Ex X.K g)
def eC(d:D):aA->Option D:=fun _=>some d
def eV(i:Nat):aA->Option D:=fun a=>match a[i]? with
 | some (.dat d)=>some d
 | _=>none
def aF(f:D->D->Option D)(ga gb:aA->Option D):aA->Option D:=fun a=>(ga a).bind fun x=>(gb a).bind fun y=>f x y
def sE(f:D->Option D)(ga:aA->Option D):aA->Option D:=fun a=>(ga a).bind f
def aH:aA->Option (List D):=fun _=>some []
def aD(ga:aA->Option D)(gr:aA->Option (List D)):aA->Option (List D):=fun a=>(ga a).bind fun x=>(gr a).bind fun b=>some (x::b)
def cO(ga:aA->Option (List D)):aA->Option D:=fun b=>(ga b).bind fun a=>if a.length<=1000 then some (.tuple a)else none
def vJ(ga:aA->Option (List D)):aA->Option D:=fun b=>(ga b).bind fun a=>if a.length<=1000 then some (.list a)else none
def aV(G:List D->Option D)(ga:aA->Option (List D)):aA->Option D:=fun a=>(ga a).bind G
def iW:D->Option Bool
 | .bool b=>some b
 | _=>none
def D4:D->Option Int
 | .int i=>some i
 | _=>none
def eB(ga:aA->Option D):aA->Option Bool:=fun a=>(ga a).bind iW
def lU(t u:aA->Option Bool):aA->Option Bool:=fun a=>(t a).bind fun b=>if b=true then u a else some false
def m8(t u:aA->Option Bool):aA->Option Bool:=fun a=>(t a).bind fun b=>if b=true then some true else u a
def lV(t:aA->Option Bool):aA->Option Bool:=fun a=>(t a).bind fun b=>some (!b)
def As(t:aA->Option Bool)(ga gb:aA->Option D):aA->Option D:=fun a=>(t a).bind fun b=>if b=true then ga a else gb a
def mN(ga gb:aA->Option D):aA->Option D:=fun a=>(ga a).bind fun x=>(iW x).bind fun c=>if c=true then gb a else some (.bool false)
def D7(ga gb:aA->Option D):aA->Option D:=fun a=>(ga a).bind fun x=>(iW x).bind fun c=>if c=true then some (.bool true)else gb a
def FB(ga:aA->Option D):aA->Option D:=fun a=>(ga a).bind fun x=>(iW x).bind fun c=>some (.bool (!c))
def rZ(h h':D->D->Option D)(ga gb b:aA->Option D):aA->Option D:=fun a=>(ga a).bind fun x=>(gb a).bind fun y=>(h x y).bind fun z=>(iW z).bind fun k=>if k=true then(b a).bind fun w=>h' y w else some (.bool false)
inductive DY(K:PySem.W.Frag)(h:D->D->Option D)(x y:V)(H:Hp)(Q:VK):Prop
 | mk (F:JY->Prop) (d e r:D) (z:∀ a,F a->H a≠none) (R1:aR K F H d x) (R2:aR K F H e y) (q:h d e=some r) (k:∀ F' H' v,aN F F' H H'->aR K F' H' r v->Q v H'):DY K h x y H Q
def cP(K:PySem.W.Frag)(h:D->D->Option D):R2:=fun x y H Q=>DY K h x y H Q
inductive DX(K:PySem.W.Frag)(h:D->Option D)(x:V)(H:Hp)(Q:VK):Prop
 | mk (F:JY->Prop) (d r:D) (z:∀ a,F a->H a≠none) (R1:aR K F H d x) (q:h d=some r) (k:∀ F' H' v,aN F F' H H'->aR K F' H' r v->Q v H'):DX K h x H Q
def Es(K:PySem.W.Frag)(h:D->Option D):V->Hp->VK->Prop:=fun x H Q=>DX K h x H Q
inductive DZ(K:PySem.W.Frag)(h:List D->Option D)(xs:List V)(H:Hp)(Q:VK):Prop
 | mk (F:JY->Prop) (ds:List D) (r:D) (z:∀ a,F a->H a≠none) (R1:Reps K F H ds xs) (q:h ds=some r) (k:∀ F' H' v,aN F F' H H'->aR K F' H' r v->Q v H'):DZ K h xs H Q
def lC(K:PySem.W.Frag)(h:List D->Option D):List V->Hp->VK->Prop:=fun a H Q=>DZ K h a H Q
section
variable {X:Cx}{a b c e:Expr}{es:List Expr}{ga gb gc:aA->Option D}{pos p:Pos}
theorem aG{d c:Type}{o:Option d}{f:d->Option c}{b:c}(h:o.bind f=some b):∃ a,o=some a/\f a=some b:=by
 cases o with
 | none=>cases h
 | some a=>exact⟨a,rfl,h⟩
theorem A7{v:V}{d:D}(h:PE X e (tC v))(r:∀ K F H,aR K F H d v):DE X e (eC d):=
 cY h fun c H Q b=>by
  obtain⟨F,a,f,g,S,q,k⟩:=b;cases q;exact k F H v (aN.refl F H) (r _ _ _)
theorem aK{i:Int}{j:Nat}:DE X (.Constant (.int i) j pos) (eC (.int i)):=A7 xW fun _ _ _=>.int i
theorem hO{i:Bool}{j:Nat}:DE X (.Constant (.bool i) j pos) (eC (.bool i)):=A7 IN fun _ _ _=>.bl i
theorem Gv{j:Nat}:DE X (.Constant .none j pos) (eC .none):=A7 TJ fun _ _ _=>.non
theorem aC(i:Nat){x:Str}(j:X.N[i]?=some x:=by rfl)(f:iB X.env.scope x:=by first | exact Zl rfl | exact Zf (Zl rfl) | exact Zf (Zf rfl))(h:(x == ("__debug__":Str))=false:=by decide)
  (a:(x == ("__classdict__":Str))=false:=by decide):DE X (.Name x pos) (eV i):=
 cY (hW j f h a) fun l H Q c=>by
  obtain⟨F,b,m,d,S,q,k⟩:=c;unfold eV at q
  split at q
  ·rename_i n e;cases q;obtain⟨v,g,r⟩:=S.dat e
   exact⟨v,g,k F H v (aN.refl F H) r⟩
  ·cases q
theorem yO{h:D->D->Option D}{b:L2.St}{H:Hp}{Q:VK}(q:tD X.K (aF h ga gb) b H Q):oM (cP X.K h) (tD X.K ga) (tD X.K gb) b H Q:=by
 obtain⟨F,a,c,d,S,q,k⟩:=q;obtain⟨x,f,q⟩:=aG q;obtain⟨y,e,q⟩:=aG q
 exact⟨F,a,c,x,S,f,fun m p v E1 R1=>⟨m,a,c,y,S.ext E1,e,fun l o u E2 R2=>⟨l,x,y,d,((S.ext E1).ext E2).fz,R1.stay E2.stay,R2,q,fun j i w n g=>k j i w (E1.trans (E2.trans n)) g⟩⟩⟩
theorem bE{op:Operator}{h:D->D->Option D}(c:bI X (Zv op) (cP X.K h))(e:DE X a ga)(d:DE X b gb):DE X (.BinOp a op b pos) (aF h ga gb):=
 cY (IQ c e d) fun _ _ _ q=>yO q
theorem uJ{op:CmpOp}{h:D->D->Option D}(c:bI X (Ze op) (cP X.K h))(f:DE X a ga)(e:DE X b gb)(d:Zz op b=false):DE X (.Compare a [op] [b] pos) (aF h ga gb):=
 cY (BE c f e d) fun _ _ _ q=>yO q
theorem aY{h:D->D->Option D}(c:jD X (cP X.K h))(e:DE X a ga)(d:DE X b gb)(hs:Bg b:=by exact fun _ _=>rfl):DE X (.Subscript a b pos) (aF h ga gb):=
 cY (IO c e d hs) fun _ _ _ q=>yO q
theorem A9{op:UnaryOp}{h:D->Option D}(f:oA X (unaryOp op) (Es X.K h))(g:DE X a ga):DE X (.UnaryOp op a pos) (sE h ga):=
 cY (Nk f g) fun r H Q e=>by
  obtain⟨F,b,c,d,S,q,k⟩:=e;obtain⟨x,i,q⟩:=aG q
  exact⟨F,b,c,x,S,i,fun o s v E1 l=>⟨o,x,d,(S.ext E1).fz,l,q,fun n m w p j=>k n m w (E1.trans p) j⟩⟩
theorem kN{K:PySem.W.Frag}{F:JY->Prop}{H:Hp}{d:D}{v:V}{b:Bool}(r:aR K F H d v)(h:iW d=some b):v=.bl b:=by
 cases r with
 | bl c=>cases h;rfl
 | _=>cases h
theorem Wl{K:PySem.W.Frag}{F:JY->Prop}{H:Hp}{d:D}{v:V}{i:Int}(r:aR K F H d v)(h:D4 d=some i):v=.int i:=by
 cases r with
 | int c=>cases h;rfl
 | _=>cases h
theorem Ms{t:TE}{g:aA->Option D}(m:∀ a H Q,tD X.K g a H Q->t a H Q){a:L2.St}{H:Hp}{Q:Bool->Hp->Prop}(q:oK X.K (eB g) a H Q):CI t a H Q:=by
 obtain⟨F,c,e,b,S,q,k⟩:=q;obtain⟨d,f,q⟩:=aG q;exact m a H _ ⟨F,c,e,d,S,f,fun j i v l h=>⟨b,kN h q,k j i l⟩⟩
theorem gW{op:CmpOp}{h:D->D->Option D}(c:bI X (Ze op) (cP X.K h))(f:DE X a ga)(e:DE X b gb)(d:Zz op b=false):DT X (.Compare a [op] [b] pos) (eB (aF h ga gb)):=
 nV (CZ c f e d) fun _ _ _ q=>Ms (fun _ _ _=>yO) q
theorem Mr{h h':D->D->Option D}{c:L2.St}{H:Hp}{Q:VK}(q:tD X.K (rZ h h' ga gb gc) c H Q):Lo (cP X.K h) (cP X.K h') (tD X.K ga) (tD X.K gb) (tD X.K gc) c H Q:=by
 obtain⟨F,a,b,d,S,q,k⟩:=q;obtain⟨x,o,q⟩:=aG q;obtain⟨y,n,q⟩:=aG q;obtain⟨z,m,q⟩:=aG q;obtain⟨f,l,q⟩:=aG q
 refine⟨F,a,b,x,S,o,fun I R v E1 R1=>⟨I,a,b,y,S.ext E1,n,fun G O u E2 R2=>⟨G,x,y,z,((S.ext E1).ext E2).fz,R1.stay E2.stay,R2,m,fun g A w E3 s=>⟨f,kN s l,?_⟩⟩⟩⟩
 cases f with
 | false=>
  simp only [Qj,if_false]at q ⊢;cases q;exact k g A _ (E1.trans (E2.trans E3)) (.bl false)
 | true=>
  simp only [if_true]at q ⊢;obtain⟨e,j,q⟩:=aG q;have S3:=((S.ext E1).ext E2).ext E3
  exact⟨g,a,b,e,S3,j,fun E N M E4 r=>⟨E,y,e,d,(S3.ext E4).fz,(R2.stay E3.stay).stay E4.stay,r,q,fun B t i J p=>k B t i (E1.trans (E2.trans (E3.trans (E4.trans J)))) p⟩⟩
theorem x4{op d:CmpOp}{h h':D->D->Option D}(f:bI X (Ze op) (cP X.K h))(e:bI X (Ze d) (cP X.K h'))(k:DE X a ga)(j:DE X b gb)(i:DE X c gc)
  (g:lastMarks [op,d] [b,c]=false:=by with_unfolding_all rfl):DE X (.Compare a [op,d] [b,c] pos) (rZ h h' ga gb gc):=
 cY (Tz f e k j i g) fun _ _ _ q=>Mr q
theorem j5(g:DE X a ga)(he:∀ whole,isTrue a X.env whole=(do let v <- whole;standAt a.pos;UC [v] (truthy v)):=by intro _;rfl):DT X a (eB ga):=
 nV (wP g he) fun n H Q f=>by
  obtain⟨F,c,e,b,S,q,k⟩:=f;obtain⟨d,h,q⟩:=aG q
  exact⟨F,c,e,d,S,h,fun l j v m i=>⟨b,kN i q,k l j m⟩⟩
variable {t u:aA->Option Bool}{rest:List Expr}
theorem GI(b:DT X a t):DW X (.BoolOp .And [a] pos) t:=Tt b
theorem Ch(b:DT X a t):DW X (.BoolOp .Or [a] pos) t:=Il b
theorem GH(i:DT X a t)(h:DW X (.BoolOp .And (b::rest) pos) u):DW X (.BoolOp .And (a::b::rest) pos) (lU t u):=
 C0 (Ts i h) fun p H Q g=>by
  obtain⟨F,c,e,r,S,q,k⟩:=g;obtain⟨d,j,q⟩:=aG q
  refine⟨F,c,e,d,S,j,fun f m E1=>?_⟩
  cases d with
  | true=>simp only [if_true]at q ⊢;exact⟨f,c,e,r,S.ext E1,q,fun n l o=>k n l (E1.trans o)⟩
  | false=>simp only [Qj,if_false]at q ⊢;cases q;exact k f m E1
theorem Cg(i:DT X a t)(h:DW X (.BoolOp .Or (b::rest) pos) u):DW X (.BoolOp .Or (a::b::rest) pos) (m8 t u):=
 C0 (Ik i h) fun p H Q g=>by
  obtain⟨F,c,e,r,S,q,k⟩:=g;obtain⟨d,j,q⟩:=aG q
  refine⟨F,c,e,d,S,j,fun f m E1=>?_⟩
  cases d with
  | false=>simp only [Qj,if_false]at q ⊢;exact⟨f,c,e,r,S.ext E1,q,fun n l o=>k n l (E1.trans o)⟩
  | true=>simp only [if_true]at q ⊢;cases q;exact k f m E1
theorem sD(h:DW X a t):DT X a t:=PW.pt h
theorem rW(f:DT X a t):DT X (.UnaryOp .Not a pos) (lV t):=
 nV (Ig f) fun l H Q e=>by
  obtain⟨F,b,c,r,S,q,k⟩:=e;obtain⟨d,g,q⟩:=aG q;cases q
  exact⟨F,b,c,d,S,g,fun i h j=>k i h j⟩
theorem uK{op:BoolOp}(b:DE X a ga):DE X (.BoolOp op [a] pos) ga:=IP b
theorem x3(j:DE X a ga)(i:DE X (.BoolOp .And (b::rest) pos) gb):DE X (.BoolOp .And (a::b::rest) pos) (mN ga gb):=
 cY (IM j i) fun u H Q h=>by
  obtain⟨F,e,f,r,S,q,k⟩:=h;obtain⟨d,m,q⟩:=aG q;obtain⟨c,l,q⟩:=aG q
  refine⟨F,e,f,d,S,m,fun g p v E1 n=>⟨c,kN n l,?_⟩⟩
  cases c with
  | true=>simp only [if_true]at q ⊢;exact⟨g,e,f,r,S.ext E1,q,fun s o w t R2=>k s o w (E1.trans t) R2⟩
  | false=>simp only [Qj,if_false]at q ⊢;cases q;exact k g p _ E1 (.bl false)
theorem LV(j:DE X a ga)(i:DE X (.BoolOp .Or (b::rest) pos) gb):DE X (.BoolOp .Or (a::b::rest) pos) (D7 ga gb):=
 cY (Nj j i) fun u H Q h=>by
  obtain⟨F,e,f,r,S,q,k⟩:=h;obtain⟨d,m,q⟩:=aG q;obtain⟨c,l,q⟩:=aG q
  refine⟨F,e,f,d,S,m,fun g p v E1 n=>⟨c,kN n l,?_⟩⟩
  cases c with
  | false=>simp only [Qj,if_false]at q ⊢;exact⟨g,e,f,r,S.ext E1,q,fun s o w t R2=>k s o w (E1.trans t) R2⟩
  | true=>simp only [if_true]at q ⊢;cases q;exact k g p _ E1 (.bl true)
theorem Pe(g:DE X a ga):DE X (.UnaryOp .Not a pos) (FB ga):=
 cY (TM g) fun o H Q f=>by
  obtain⟨F,b,e,r,S,q,k⟩:=f;obtain⟨d,i,q⟩:=aG q;obtain⟨c,h,q⟩:=aG q;cases q
  exact⟨F,b,e,d,S,i,fun m l v n j=>⟨c,kN j h,k m l _ n (.bl _)⟩⟩
theorem Gu(m:DT X c t)(o:DE X a ga)(n:DE X b gb):DE X (.IfExp c a b pos) (As t ga gb):=
 cY (BF m o n) fun s H Q l=>by
  obtain⟨F,e,f,r,S,q,k⟩:=l;obtain⟨d,p,q⟩:=aG q
  refine⟨F,e,f,d,S,p,fun j u E1=>?_⟩
  cases d with
  | true=>simp only [if_true]at q ⊢;exact⟨j,e,f,r,S.ext E1,q,fun h g w i R2=>k h g w (E1.trans i) R2⟩
  | false=>simp only [Qj,if_false]at q ⊢;exact⟨j,e,f,r,S.ext E1,q,fun h g w i R2=>k h g w (E1.trans i) R2⟩
variable {gr:aA->Option (List D)}
theorem aP:DA X [] aH:=xR dC fun c H Q b=>by
 obtain⟨F,a,e,d,S,q,k⟩:=b;cases q;exact k F H [] (aN.refl F H) .nil
theorem O9(h:DE X e ga)(g:DA X es gr)(hs:J0 (e::es) X.env=(false,Zh e X.env)::J0 es X.env:=by rfl):DA X (e::es) (aD ga gr):=
 xR (cL h g hs) fun o H Q c=>by
  obtain⟨F,a,b,d,S,q,k⟩:=c;obtain⟨x,j,q⟩:=aG q;obtain⟨f,i,q⟩:=aG q;cases q
  exact⟨F,a,b,x,S,j,fun n r v E1 R1=>⟨n,a,b,f,S.ext E1,i,fun m l p E2 R2=>k m l _ (E1.trans E2) (.cons (R1.stay E2.stay) R2)⟩⟩
theorem gD{n:Nat}(h:n<=1000):n<=sizeLine:=Y2 (tZ h)
theorem OE{x1}(h:DA X es gr):DE X (.Tuple es x1 pos) (cO gr):=
 cY (IR h) fun l H Q g=>by
  obtain⟨F,a,f,d,S,q,k⟩:=g;obtain⟨c,i,q⟩:=aG q
  refine⟨F,a,f,c,S,i,fun j n m E1 R1=>?_⟩
  by_cases b:c.length<=1000
  ·rw [if_pos b]at q;cases q
   refine⟨gD (by rw [<- R1.length];exact b),fun p e=>k j _ _ (E1.trans (aN.fresh e)) (aR.newTup e R1)⟩
  ·rw [if_neg b]at q;cases q
theorem A6(h:DA X es gr):DE X (.List es pos) (vJ gr):=
 cY (qT h) fun j H Q g=>by
  obtain⟨F,a,f,d,S,q,k⟩:=g;obtain⟨c,i,q⟩:=aG q
  refine⟨F,a,f,c,S,i,fun n m l E1 R1=>?_⟩
  by_cases b:c.length<=1000
  ·rw [if_pos b]at q;cases q
   refine⟨gD (by rw [<- R1.length];exact b),fun p e=>k _ _ _ (E1.trans (aN.frozen e)) (aR.newLst e R1)⟩
  ·rw [if_neg b]at q;cases q
theorem GY{h:List D->Option D}{b:L2.St}{H:Hp}{Q:VK}(q:tD X.K (aV h gr) b H Q):AU (lC X.K h) (Ex X.K gr) b H Q:=by
 obtain⟨F,a,e,d,S,q,k⟩:=q;obtain⟨c,f,q⟩:=aG q
 exact⟨F,a,e,c,S,f,fun l o n E1 g=>⟨l,c,d,(S.ext E1).fz,g,q,fun j i w m R2=>k j i w (E1.trans m) R2⟩⟩
theorem i0{id:String}{x:Str}{h:List D->Option D}(g:fV X (.builtin id) (lC X.K h))(f:Gl X x)(d:X.mg x=none)(b:Zs x=some (.builtin id))(i:DA X (e::es) gr)(c:x≠"__name__":=by decide)(a:(x == ("__debug__":Str))=false:=by decide)
  (he:J0 (e::es) X.env=(false,Zh e X.env)::J0 es X.env:=by rfl) (hpl:(Zn pos (J0 es X.env)).any (·.1)=false:=by rfl):DE X (.Call (.Name x p) (e::es) [] pos) (aV h gr):=
 cY (xV g f d b i c a he hpl) fun _ _ _ q=>GY q
theorem oZ{T:String}{x:Str}{h:List D->Option D}(g:fV X (.type T) (lC X.K h))(f:Gl X x)(d:X.mg x=none)(b:Zs x=some (.type T))(i:DA X (e::es) gr)(c:x≠"__name__":=by decide)(a:(x == ("__debug__":Str))=false:=by decide)
  (he:J0 (e::es) X.env=(false,Zh e X.env)::J0 es X.env:=by rfl) (hpl:(Zn pos (J0 es X.env)).any (·.1)=false:=by rfl):DE X (.Call (.Name x p) (e::es) [] pos) (aV h gr):=
 cY (BD g f d b i c a he hpl) fun _ _ _ q=>GY q
def aU(K:PySem.W.Frag)(n:Nat)(G:List D->Option D):Sp:=fun b H Q _=>∃(F:JY->Prop) (ds:List D) (d:D),ds.length=n/\(∀ a,F a->H a≠none)/\Reps K F H ds b/\G ds=some d/\∀ F' H' v,aN F F' H H'->aR K F' H' d v->Q v H'
theorem Pc{k n:Nat}{f:JY}{h:J6}{ps:List Str}{x:Str}{G:List D->Option D}(F:aM X.prog X.w X.K X.mg X.base aO k f h ps (aU X.K n G))(m:cM k X.A)(s:Gl X x)(o:X.mg x=some (.ref f))(r:PySem.W.keepIn X.K (.ref f)=true)(t:Binds X.K h ps [])
  (u:DA X (e::es) gr) (c:∀ ρ ds,gr ρ=some ds->ds.length=n) (g:(x == ("__debug__":Str))=false:=by decide) (he:J0 (e::es) X.env=(false,Zh e X.env)::J0 es X.env:=by rfl) (hpl:(Zn pos (J0 es X.env)).any (·.1)=false:=by rfl):
  DE X (.Call (.Name x p) (e::es) [] pos) (aV G gr):=
 cY (jR (E:=E0) F m s o r t .nil fP u g he hpl) fun M H Q j=>by
  obtain⟨F,a,ρ,d,S,q,k⟩:=j;obtain⟨b,i,q⟩:=aG q
  exact⟨F,a,ρ,b,S,i,fun I z l E1 v=>by
   show aU X.K n G (l++[]) z Q E0
   rw [QR]
   exact⟨I,b,d,c ρ b i,(S.ext E1).fz,v,q,fun B y w J R2=>k B y w (E1.trans J) R2⟩⟩
theorem Rz{ρ:aA}{ds:List D}(h:aH ρ=some ds):ds.length=0:=by cases h;rfl
theorem x8{n:Nat}(h':∀ ρ ds,gr ρ=some ds->ds.length=n)(ρ:aA)(ds:List D)(h:aD ga gr ρ=some ds):ds.length=n+1:=by
 obtain⟨x,c,q⟩:=aG h;obtain⟨a,b,q⟩:=aG q;cases q
 simp [h' ρ a b]
end
end DL
namespace EX
open PySem PySem.Spec PyProof.Rows L2
def Ly(h:Heap)(e:JY)(cls:YP)(a:Option JY):Prop:=
 ∃ oe vs,h.get? e=some oe/\oe.cls=cls/\oe.data=.fields vs/\match a with
  | none=>vs[1]?=some .none
  | some T=>vs[1]?=some (.ref T)/\T≠e/\∃ oT ts,h.get? T=some oT/\oT.data=.fields ts/\ts[3]?=some .none
structure ThrownC(X:Cx)(pins:List (JY × Obj))(H:Hp)(s:JZ)(a:JY)(cls:YP)(tr:Option JY):Prop where
 fly:Ly s.heap a cls tr
 new:∀ b,(b=a ∨ some b=tr)->X.s₀.heap.get? b=none/\H b=none/\b≠X.env.locals/\(∀ x c,X.env.cells.lookup x=some c->c≠b)/\∀ p∈X.pn++pins,p.1≠b
section
variable {M:Model}{A:Around}{E:YP->JZ->Prop}{s:JZ}
end
end EX
namespace DL
open PySem PySem.Spec PyProof.Rows L2
inductive aW where
 | nx (ρ:aA)
 | rt (d:D)
 | bk (ρ:aA)
 | ct (ρ:aA)
 | ex (x:Str) (ρ:aA)
theorem bN.refl(K:PySem.W.Frag)(F:JY->Prop)(H:Hp):bN K F F H H:=⟨fun _ h=>h,fun _ _ h=>h,fun _ _ _ h=>h,fun _ _ _ h=>h⟩
theorem bN.trans{K:PySem.W.Frag}{F i g:JY->Prop}{H e H2:Hp}(a:bN K F i H e)(b:bN K i g e H2):bN K F g H H2:=
 ⟨fun x h=>b.up x (a.up x h),fun x c h=>b.tp x c (a.tp x c h),fun x c f h=>b.ls x c (a.up x f) (a.ls x c f h),fun x d f h=>b.xt x d (a.up x f) (a.xt x d f h)⟩
def uE(X:Cx)(b:JY->Prop)(H₀:Hp)(F:JY->Prop)(H:Hp)(W:jC):aW->Prop
 | .nx ρ=>∀ F' H' σ,aN b F' H₀ H'->bN X.K F F' H H'->bH X.K F' H' H₀ σ ρ->W.nx σ H'
 | .rt d=>∀ F' H' v,aN b F' H₀ H'->aR X.K F' H' d v->W.rt v H'
 | .bk ρ=>∀ F' H' σ,aN b F' H₀ H'->bN X.K F F' H H'->bH X.K F' H' H₀ σ ρ->W.bk σ H'
 | .ct ρ=>∀ F' H' σ,aN b F' H₀ H'->bN X.K F F' H H'->bH X.K F' H' H₀ σ ρ->W.ct σ H'
 | .ex x ρ=>∀ F' H' σ pins s a C tr,aN b F' H₀ H'->bH X.K F' H' H₀ σ ρ->Inv X pins σ H' s->PySem.W.nsIn X.K Zd x=some (some (.ref C))->EX.ThrownC X pins H' s a (.ref C) tr->X.xe (.ref a) s
theorem uE.from{X:Cx}{a F h:JY->Prop}{H₀ H g:Hp}{W:jC}{o:aW}(T:bN X.K F h H g)(k:uE X a H₀ F H W o):uE X a H₀ h g W o:=by
 cases o with
 | nx ρ=>exact fun f e b E c S=>k f e b E (T.trans c) S
 | rt d=>exact k
 | bk ρ=>exact fun f e b E c S=>k f e b E (T.trans c) S
 | ct ρ=>exact fun f e b E c S=>k f e b E (T.trans c) S
 | ex x ρ=>exact k
inductive D2(X:Cx)(g:aA->Option aW)(W:jC)(σ:L2.St)(H:Hp):Prop
 | mk (F₀:JY->Prop) (H₀:Hp) (F:JY->Prop) (ρ:aA) (o:aW) (E:aN F₀ F H₀ H) (S:bH X.K F H H₀ σ ρ) (q:g ρ=some o) (k:uE X F₀ H₀ F H W o):D2 X g W σ H
def vX(X:Cx)(g:aA->Option aW):TS:=fun W a H=>D2 X g W a H
def DS(X:Cx)(a:Zm)(g:aA->Option aW):Prop:=PS X a (vX X g)
def kT(X:Cx)(a:List Zm)(g:aA->Option aW):Prop:=gH X a (vX X g)
def bO(c b:aA->Option aW):aA->Option aW:=fun a=>(c a).bind fun o=>match o with
 | .nx ρ'=>b ρ'
 | o=>some o
def hX:aA->Option aW:=fun a=>some (.nx a)
def cQ(g:aA->Option D):aA->Option aW:=fun a=>(g (a.map frz)).bind fun d=>some (.rt d)
def c5(i:Nat)(g:aA->Option D):aA->Option aW:=fun a=>(g a).bind fun d=>some (.nx (a.set i (.dat d)))
def p4(i:Nat)(g:aA->Option (List D)):aA->Option aW:=fun a=>(g a).bind fun b=>if b.length<=1000 then some (.nx (a.set i (.own b)))else none
def FY(i:Nat)(ρ:aA):aA:=match ρ[i]? with
 | some (.own ds)=>ρ.set i (.dat (.list ds))
 | _=>ρ
def fR(t:aA->Option Bool)(d c:aA->Option aW):aA->Option aW:=fun a=>(t (a.map frz)).bind fun b=>if b=true then d a else c a
def qY(g:aA->Option D):aA->Option aW:=fun a=>(g a).bind fun _=>some (.nx a)
def p3(i:Nat)(g:aA->Option D):aA->Option aW:=fun a=>match a[i]? with
 | some (.own ds)=>(g a).bind fun d=>if ds.length<1000 then some (.nx (a.set i (.own (ds++[d]))))else none
 | _=>none
def n0(t:aA->Option Bool)(g:aA->Option aW):Nat->aA->Option aW
 | 0,_=>none
 | n+1,ρ=>(t (ρ.map frz)).bind fun b=>if b=true then(g ρ).bind fun o=>match o with
   | .nx ρ'=>n0 t g n ρ'
   | .ct ρ'=>n0 t g n ρ'
   | .bk ρ'=>some (.nx ρ')
   | .rt d=>some (.rt d)
   | .ex x ρ'=>some (.ex x ρ')
  else some (.nx ρ)
def jG(s:D->aA->Option aA)(g:aA->Option aW):List D->aA->Option aW
 | [],ρ=>some (.nx ρ)
 | d::ds,ρ=>(s d ρ).bind fun a=>(g a).bind fun o=>match o with
   | .nx ρ'=>jG s g ds ρ'
   | .ct ρ'=>jG s g ds ρ'
   | .bk ρ'=>some (.nx ρ')
   | .rt d=>some (.rt d)
   | .ex x ρ'=>some (.ex x ρ')
def lD(gi:aA->Option (List D))(s:D->aA->Option aA)(g:aA->Option aW):aA->Option aW:=fun a=>(gi a).bind fun b=>jG s g b a
section
variable {X:Cx}{e a b c tg:Expr}{es:List Expr}{st:Zm}{rest body orelse:List Zm}{g g1 g2 gb:aA->Option aW}{ga:aA->Option D}{gr:aA->Option (List D)}{t:aA->Option Bool}{pos p:Pos}
theorem kJ:kT X [] hX:=tU Ie fun W c H d=>by
 obtain⟨b,a,F,e,o,E,S,q,k⟩:=d;cases q;exact k F H c E (bN.refl _ F H) S
theorem VM{a:JY->Prop}{H₀:Hp}{F:JY->Prop}{ρ:aA}{o:aW}{W:jC}{b:L2.St}{H:Hp}(E:aN a F H₀ H)(S:bH X.K F H H₀ b ρ)(q:bO g1 g2 ρ=some o)(k:uE X a H₀ F H W o):vX X g1 { W with nx:=vX X g2 W } b H:=by
 obtain⟨c,f,q⟩:=aG q
 refine⟨a,H₀,F,ρ,c,E,S,f,?_⟩
 cases c with
 | nx ρ'=>exact fun i l e j g h=>⟨a,H₀,i,ρ',o,j,h,q,k.from g⟩
 | rt d=>cases q;exact k
 | bk ρ'=>cases q;exact k
 | ct ρ'=>cases q;exact k
 | ex x ρ'=>cases q;exact k
theorem bU(d:DS X st g1)(c:kT X rest g2):kT X (st::rest) (bO g1 g2):=
 tU (jS d c) fun W e H ⟨b,a,F,f,o,E,S,q,k⟩=>VM E S q k
theorem bX(a:DS X st g):kT X [st] g:=kM a
theorem aN.thaw{K:PySem.W.Frag}{c F l:JY->Prop}{H₀ H H':Hp}{k:L2.St}{ρ:aA}(E:aN c F H₀ H)(S:bH K F H H₀ k ρ)(E':aN (fun a=>F a ∨ eO k ρ a) l H H'):aN c l H₀ H':=
 ⟨E.same.trans E'.same,fun a f=>E'.up a (.inl (E.up a f)),fun a f=>by
  rcases E'.new a f with(f | ⟨i,q,e,d⟩ | ⟨i,q,e,d⟩) | ⟨o,n⟩
  ·rcases E.new a f with f | ⟨f,p⟩
   ·exact .inl f
   ·exact .inr ⟨f,fun z=>p (E'.same.free z)⟩
  ·obtain⟨b,m,j,h,_,g,_⟩:=S.own e;rw [j]at d;cases d;exact .inr ⟨g,by rw [E'.same _ _ h];simp⟩
  ·obtain⟨b,m,r,j,h,_,g,_⟩:=S.ownD e;rw [j]at d;cases d;exact .inr ⟨g,by rw [E'.same _ _ h];simp⟩
  ·exact .inr ⟨E.same.free o,n⟩⟩
theorem dA(g:DE X e ga):DS X (.Return (some e) pos) (cQ ga):=ps_mono (qV g) fun W n H f=>by
 obtain⟨b,a,F,c,o,E,S,q,k⟩:=f;obtain⟨d,h,q⟩:=aG q;cases q
 exact⟨_,a,c.map frz,d,S.frz,h,fun l j v m i=>k l j v (E.thaw S m) i⟩
theorem eJ{i:Nat}{x:Str}{a:Pos}(n:X.N.Nodup)(m:DE X e ga)(j:X.N[i]?=some x:=by rfl)(h:Loc X.env.scope x:=by first | exact Zl rfl | exact Zf rfl)(hs:Zw e (some (.Name x a)) pos.line X.env=pure false:=by rfl)(l:X.fn x=true ∨ X.env.scope.names.lookup x=some .local:=by first | exact .inl rfl | exact .inr rfl | assumption):
  DS X (.Assign [.Name x a] e pos) (c5 i ga):=ps_mono (l7 n j h m hs l) fun W u H g=>by
 obtain⟨c,b,F,f,o,E,S,q,k⟩:=g;obtain⟨d,p,q⟩:=aG q;cases q
 exact⟨F,b,f,d,S,p,fun t s v E' r=>k t s _ (E.trans E') E'.stay ((S.ext E').put r)⟩
theorem aN.lend{K:PySem.W.Frag}{F j:JY->Prop}{H H₀ H':Hp}{d:L2.St}{ρ:aA}(S:bH K F H H₀ d ρ)(E':aN (fun a=>F a ∨ eO d ρ a) j H H'):aN F (fun a=>j a/\¬ eO d ρ a) H H':=
 ⟨E'.same,fun a f=>⟨E'.up a (.inl f),fun z=>by
   rcases z with⟨i,o,e,c⟩ | ⟨i,o,e,c⟩
   ·obtain⟨b,l,h,m,g,_⟩:=S.own e;rw [h]at c;cases c;exact g f
   ·obtain⟨b,l,p,h,m,g,_⟩:=S.ownD e;rw [h]at c;cases c
    exact g f⟩,fun a k=>by
  obtain⟨f,n⟩:=k;rcases E'.new a f with(f | f) | f
  ·exact .inl f
  ·exact absurd f n
  ·exact .inr f⟩
theorem uQ{i:Nat}{x:Str}{b a:Pos}(r:X.N.Nodup)(p:DA X es gr)(m:X.N[i]?=some x:=by rfl)(l:Loc X.env.scope x:=by first | exact Zl rfl | exact Zf rfl)(hs:Zw (.List es a) (some (.Name x b)) pos.line X.env=pure false:=by rfl)(n:X.fn x=true ∨ X.env.scope.names.lookup x=some .local:=by first | exact .inl rfl | exact .inr rfl | assumption):
  DS X (.Assign [.Name x b] (.List es a) pos) (p4 i gr):=ps_mono (l7 r m l (qT p) hs n) fun W u H j=>by
 obtain⟨g,c,F,h,o,E,S,q,k⟩:=j;obtain⟨f,s,q⟩:=aG q;by_cases e:f.length<=1000
 ·rw [if_pos e]at q;cases q
  refine⟨F,c,h,f,S,s,fun t y v E' R'=>⟨gD (by rw [<- R'.length];exact e),fun w d=>?_⟩⟩
  exact k t _ _ ((E.trans E').trans (aN.fresh d)) (E'.stay.trans (aN.fresh d).stay) ((S.ext E').putOwn d ((E.trans E').same.free d) R')
 ·rw [if_neg e]at q;cases q
theorem kI(f:DT X c t)(h:kT X body g1)(g:kT X orelse g2):DS X (.If c body orelse pos) (fR t g1 g2):=ps_mono (Id f h g) fun W j H e=>by
 obtain⟨b,a,F,d,o,E,S,q,k⟩:=e;obtain⟨r,i,q⟩:=aG q
 refine⟨_,a,d.map frz,r,S.frz,i,fun m l E'=>?_⟩
 have E2:=E'.lend S
 cases r with
 | true=>simp only [if_true]at q ⊢;exact⟨b,a,_,d,o,E.trans E2,S.ext E2,q,k.from E2.stay⟩
 | false=>simp only [Qj,if_false]at q ⊢;exact⟨b,a,_,d,o,E.trans E2,S.ext E2,q,k.from E2.stay⟩
theorem Cc(h:DE X e ga)(hs:Zw e none pos.line X.env=pure false:=by rfl):DS X (.Expr e pos) (qY ga):=ps_mono (kL h hs) fun W c H g=>by
 obtain⟨b,a,F,f,o,E,S,q,k⟩:=g;obtain⟨d,i,q⟩:=aG q;cases q
 exact⟨F,a,f,d,S,i,fun l j v E' m=>k l j c (E.trans E') E'.stay (S.ext E')⟩
theorem aN.turn{c F:JY->Prop}{H₀ H:Hp}{p:JY}{o:HO}(E:aN c F H₀ H)(e:H₀ p=none):aN c F H₀ (aJ H p o):=
 ⟨fun b u q=>by rw [aZ (gF q e)];exact E.same b u q,E.up,fun a f=>by
  rcases E.new a f with f | ⟨h,g⟩
  ·exact .inl f
  ·refine .inr ⟨h,fun z=>?_⟩;by_cases d:a=p
   ·subst d;rw [cS]at z;cases z
   ·rw [aZ d]at z;exact g z⟩
theorem GF{i:Nat}{x:Str}{b a:Pos}(R:DE X e ga)(U:X.N[i]?=some x:=by rfl)(O:iB X.env.scope x:=by first | exact Zl rfl | exact Zf (Zl rfl) | exact Zf (Zf rfl))(Q:(x == ("__debug__":Str))=false:=by decide)
  (t:(x == ("__classdict__":Str))=false:=by decide) (h:J0 [e] X.env=(false,Zh e X.env)::J0 [] X.env:=by rfl)
  (g:ZA (.Name x p) "append" X.env (Zh (.Name x p) X.env)=Zh (.Name x p) X.env:=by rfl)
  (j:((Zn a (J0 [e] X.env)).all (fun x => !x.1) && (Z5 a (ZG [] X.env)).all (fun x=>x.1.isSome)
   && decide ([e].length+([]:List Ud).length+(if([]:List Ud).isEmpty then 0 else 1)<30))=true:=by rfl)
  (f:(b.endLine == a.line)=true:=by rfl) (c:(Zn a (J0 [] X.env)).any (·.1)=false:=by rfl) (s:Zw (.Call (.Attribute (.Name x p) "append" b) [e] [] a) none pos.line X.env=pure false:=by rfl):
  DS X (.Expr (.Call (.Attribute (.Name x p) "append" b) [e] [] a) pos) (p3 i ga):=
 ps_mono (kL (xU PySem.F.plainAttrs_list PySem.F.slot_list_append PySem.F.type_list_append xL (hW U O Q t) (cL R dC h) g j f h c) s) fun W G H J=>by
 obtain⟨B,m,F,I,o,E,S,q,k⟩:=J;unfold p3 at q
 split at q
 ·rename_i ds u;obtain⟨d,Z,q⟩:=aG q;by_cases w:ds.length<1000
  ·rw [if_pos w]at q;cases q;obtain⟨l,vs,r,M,q3,K,q5⟩:=S.own u
   refine⟨_,r,.inl ⟨rfl,_,cD.of M⟩,F,m,I,d,S,Z,fun F' H' v E' R'=>?_⟩
   have S':=S.ext E';obtain⟨l',n,A,z,Y,g4,y⟩:=S'.own u;rw [r]at A;cases A
   refine⟨l,n,v,rfl,rfl,z,tZ (by rw [<- y.length];lia),?_⟩
   obtain⟨S2,T⟩:=S'.turn u r z Y (y.append (.cons R' .nil));exact k F' _ G ((E.trans E').turn K) (E'.stay.trans T) S2
  ·rw [if_neg w]at q;cases q
 ·cases q
end
end DL
namespace DL
open PySem PySem.Spec PyProof.Rows L2
inductive D1(K:PySem.W.Frag)(s:D->aA->Option aA)(v:V)(σ:L2.St)(H:Hp)(Q:L2.St->Hp->Prop):Prop
 | mk (F:JY->Prop) (H₀:Hp) (ρ:aA) (d:D) (ρ':aA) (S:bH K F H H₀ σ ρ) (R:aR K F H d v) (q:s d ρ=some ρ') (k:∀ σ',bH K F H H₀ σ' ρ'->Q σ' H):D1 K s v σ H Q
def vW(K:PySem.W.Frag)(s:D->aA->Option aA):TG:=fun v a H Q=>D1 K s v a H Q
def N5(K:PySem.W.Frag)(s:List D->aA->Option aA):lQ:=fun b a H Q=>∃(F:JY->Prop) (H₀:Hp) (ρ:aA) (ds:List D) (ρ':aA),bH K F H H₀ a ρ/\Reps K F H ds b/\s ds ρ=some ρ'/\∀ σ',bH K F H H₀ σ' ρ'->Q σ' H
def DG(X:Cx)(a:Expr)(s:D->aA->Option aA):Prop:=PG X a (vW X.K s)
def u5(X:Cx)(a:List Expr)(s:List D->aA->Option aA):Prop:=n6 X a (N5 X.K s)
def cW(i:Nat):D->aA->Option aA:=fun d a=>some (a.set i (.dat d))
def nE:List D->aA->Option aA
 | [],ρ=>some ρ
 | _::_,_=>none
def iO(c:D->aA->Option aA)(b:List D->aA->Option aA):List D->aA->Option aA
 | [],_=>none
 | d::ds,ρ=>(c d ρ).bind fun a=>b ds a
def nG(n:Nat)(s:List D->aA->Option aA):D->aA->Option aA
 | .tuple ds,ρ=>if ds.length=n then s ds ρ else none
 | _,_=>none
section
variable {X:Cx}{e tg:Expr}{es:List Expr}{pos:Pos}
theorem IU{t t':TG}(h:PG X tg t)(m:∀ v σ H Q,t' v σ H Q->t v σ H Q):PG X tg t':=fun a s σ H v u Q I r q=>h a s σ H v u Q I r (m v σ H Q q)
theorem IW{t t':lQ}(h:n6 X es t)(m:∀ v σ H Q,t' v σ H Q->t v σ H Q):n6 X es t':=fun a s σ H v u Q I r q=>h a s σ H v u Q I r (m v σ H Q q)
theorem eI{i:Nat}{x:Str}(h:X.N.Nodup)(f:X.N[i]?=some x:=by rfl)(e:Loc X.env.scope x:=by first | exact Zl rfl | exact Zf rfl)(g:X.fn x=true ∨ X.env.scope.names.lookup x=some .local:=by first | exact .inl rfl | exact .inr rfl | assumption):DG X (.Name x pos) (cW i):=
 IU (IV h f e g) fun v j H Q c=>by
  obtain⟨F,a,l,d,b,S,R,q,k⟩:=c;cases q;exact k _ (S.put R)
theorem uN:u5 X [] nE:=IW TY fun v b H Q d=>by
 obtain⟨F,a,e,f,c,S,R,q,k⟩:=d
 cases R with
 | nil=>cases q;exact⟨rfl,k b S⟩
 | cons _ _=>cases q
theorem lJ{f:D->aA->Option aA}{d:List D->aA->Option aA}(m:DG X e f)(l:u5 X es d)
  (hs:(ZY (e::es) X.env).map (·.2)=assign e X.env::(ZY es X.env).map (·.2):=by rfl):u5 X (e::es) (iO f d):=
 IW (TW m l hs) fun v p H Q i=>by
  obtain⟨F,a,h,s,c,S,R,q,k⟩:=i
  cases R with
  | nil=>cases q
  | cons r j=>
   obtain⟨b,n,q⟩:=aG q
   exact⟨_,_,rfl,F,a,h,_,b,S,r,n,fun g o=>⟨F,a,b,_,c,o,j,q,k⟩⟩
theorem uM{n k:Nat}{s:List D->aA->Option aA}(l:X.calm=true)(h:u5 X es s)(j:(ZY es X.env).length=n:=by rfl)(f:(ZY es X.env).findIdx? (·.1)=none:=by rfl):DG X (.Tuple es k pos) (nG n s):=
 IU (TV l h j f) fun v m H Q i=>by
  obtain⟨F,c,e,d,ρ',S,R,q,k⟩:=i
  cases R with
  | @tup a vs ds hq r=>
   by_cases g:ds.length=n
   ·have b:(if ds.length=n then s ds e else none)=some ρ':=q;rw [if_pos g]at b
    exact⟨_,_,rfl,hq,by rw [<- r.length];exact g,F,c,e,_,ρ',S,r,b,k⟩
   ·have b:(if ds.length=n then s ds e else none)=some ρ':=q;rw [if_neg g]at b;cases b
  | non=>cases q
  | dct _ _ _ _ _=>cases q
  | exn _ _ _=>cases q
  | bl _=>cases q
  | int _=>cases q
  | str _=>cases q
  | lst _ _=>cases q
end
section
variable {X:Cx}{e a b c tg iter:Expr}{es:List Expr}{st:Zm}{rest body orelse:List Zm}{g g1 g2 gb:aA->Option aW}{ga:aA->Option D}{gr:aA->Option (List D)}{t:aA->Option Bool}{pos p:Pos}
theorem Rw(n:Nat)(I:PassesOwn (J3 X.prog X.w) X.A X.env X.xe)(J:DT X c t)(M:kT X body g):DS X (.While c body [] pos) (n0 t g n):=
 ps_mono (U6 I J M) fun W T H G=>by
  obtain⟨f,a,z,y,o,E,S,q,k⟩:=G
  refine⟨fun m j v=>∃ F h,aN f F a v/\bN X.K z F H v/\bH X.K F v a j h/\n0 t g m h=some o,⟨n,z,y,E,bN.refl _ _ _,S,q⟩,?_⟩
  rintro m j v ⟨F,h,E',T',S',e⟩
  cases m with
  | zero=>cases e
  | succ m=>
   obtain⟨r,Q,e⟩:=aG e
   refine⟨_,a,h.map frz,r,S'.frz,Q,fun U R E2'=>?_⟩
   have E2:=E2'.lend S'
   cases r with
   | false=>
    simp only [Qj,if_false]at e ⊢;cases e;exact k _ R j (E'.trans E2) (T'.trans E2.stay) (S'.ext E2)
   | true=>
    simp only [if_true]at e ⊢;obtain⟨B,O,e⟩:=aG e
    refine⟨fun b i=>∃ F h,aN f F a i/\bN X.K z F H i/\bH X.K F i a b h/\n0 t g m h=some o,fun b i N=>⟨m,JQ m,N⟩,f,a,_,h,B,E'.trans E2,S'.ext E2,O,?_⟩
    cases B with
    | nx ρ3=>exact fun s i b u l p=>⟨s,ρ3,u,(T'.trans E2.stay).trans l,p,e⟩
    | ct ρ3=>exact fun s i b u l p=>⟨s,ρ3,u,(T'.trans E2.stay).trans l,p,e⟩
    | bk ρ3=>cases e;exact fun s i b u l p=>k s i b u ((T'.trans E2.stay).trans l) p
    | rt d=>cases e;exact k
    | ex x ρ3=>cases e;exact k
def pG(K:PySem.W.Frag)(F:JY->Prop)(H:Hp)(ds:List D)(J:It):Prop:=
 ∀ F2 H2,bN K F F2 H H2->(∀ a,F2 a->H2 a≠none)->∀ i:Nat,(∀ d,ds[i]?=some d->J.go i H2/\∀ x H3,J.yld i H2 x H3->∃ F3,aN F2 F3 H2 H3/\aR K F3 H3 d x)/\(ds.length<=i->J.stop i H2)
def Ey(K:PySem.W.Frag)(gi:aA->Option (List D)):TI:=fun a H R=>n8 K a H gi fun F b=>∀ F' H' J,aN F F' H H'->pG K F' H' b J->R J H'
def DI(X:Cx)(b a:Expr)(gi:aA->Option (List D)):Prop:=PI X b a (Ey X.K gi)
theorem CU{b wi':TI}(h:PI X tg iter b)(m:∀ σ H R,wi' σ H R->b σ H R):PI X tg iter wi':=fun a s σ H R I q=>h a s σ H R I (m σ H R q)
structure Do(K:PySem.W.Frag)(s:D->aA->Option aA)(g:aA->Option aW)(xs:List D)(o:aW)(F₀ F F1:JY->Prop)(H₀ H H1:Hp)(i:Nat)(σ2:L2.St)(H2:Hp)(F2:JY->Prop)(ρ2:aA):Prop where
 E:aN F₀ F2 H₀ H2
 T0:bN K F F2 H H2
 T1:bN K F1 F2 H1 H2
 S:bH K F2 H2 H₀ σ2 ρ2
 q:jG s g (xs.drop i) ρ2=some o
theorem rV{gi:aA->Option (List D)}{s:D->aA->Option aA}(hp:PassesOwn (J3 X.prog X.w) X.A X.env X.xe)(hc:X.calm=true)(hi:DI X tg iter gi)(hg:DG X tg s)(hb:kT X body g)
  (hs:∀ x,ZD iter X.env x=pure x:=by intro _;rfl):DS X (.For tg iter body [] pos) (lD gi s g):=
 ps_mono (Ic hp hc hi hg hb hs) fun W σ H zz=>by
  obtain⟨e,a,F,U,o,E,S,q,k⟩:=zz;obtain⟨b,e1,q⟩:=aG q
  refine⟨F,a,U,b,S,e1,fun T H1 J E1 I1=>?_⟩
  refine⟨fun i m l I=>m=b.length-i/\i<=b.length/\∃ M n,Do X.K s g b o e F T a H H1 i l I M n,
   ⟨b.length,rfl,Q9 _,T,U,E.trans E1,E1.stay,bN.refl _ _ _,S.ext E1,q⟩,?_⟩
  rintro i m l I ⟨rfl,a2,M,n,E2,T0,T1,S2,c⟩;obtain⟨Q,O⟩:=I1 M I T1 S2.fz i;by_cases f:i<b.length
  ·right
   have u:b[i]?=some b[i]:=by simp [f]
   obtain⟨go,N⟩:=Q _ u;rw [Yn f]at c;obtain⟨t,e3,c⟩:=aG c;obtain⟨Y,e4,c⟩:=aG c
   refine⟨go,fun r Z=>∃ F4 ρ4,Do X.K s g b o e F T a H H1 (i+1) r Z F4 ρ4,fun r Z h=>⟨b.length-(i+1),by lia,rfl,f,h⟩,fun x H3 y=>?_⟩
   obtain⟨F3,E3,R3⟩:=N x H3 y
   refine⟨F3,a,n,b[i],t,S2.ext E3,R3,e3,fun a0 S5=>⟨e,a,F3,t,Y,E2.trans E3,S5,e4,?_⟩⟩
   have TT0:=T0.trans E3.stay;have TT1:=T1.trans E3.stay
   cases Y with
   | nx ρ6=>exact fun B R j G p z=>⟨B,ρ6,G,TT0.trans p,TT1.trans p,z,c⟩
   | ct ρ6=>exact fun B R j G p z=>⟨B,ρ6,G,TT0.trans p,TT1.trans p,z,c⟩
   | bk ρ6=>cases c;exact fun B R j G p z=>k B R j G (TT0.trans p) z
   | rt d=>cases c;exact k
   | ex x ρ6=>cases c;exact k
  ·left
   have v:b.length<=i:=YW f
   refine⟨O v,?_⟩
   rw [Jb v]at c;cases c;exact k M I l E2 T0 S2
def pY:List D->Option (List D)
 | [.int j]=>if -4611686018427387904<=j/\j<4611686018427387904 then some ((List.range j.toNat).map fun(k:Nat)=>.int (0+(k:Int)))else none
 | _=>none
theorem Rc{K:PySem.W.Frag}{F:JY->Prop}{H:Hp}(a:Int)(n:Nat):pG K F H ((List.range n).map fun(k:Nat)=>.int (a+(k:Int))) (u9 a n):=fun j m T z i=>by
 refine⟨fun d c=>?_,fun h=>?_⟩
 ·have e:i<n:=by
   have:=(Qc.mp c).1
   simpa using this
  have b:d=.int (a+(i:Int)):=by
   rw [QF,List.getElem?_range e]at c;cases c;rfl
  subst b
  refine⟨e,fun x l y=>?_⟩
  obtain⟨g,f⟩:=y;subst g f
  exact⟨j,aN.refl _ _,.int _⟩
 ·show n<=i
  simpa using h
theorem OK(g:Gl X "range")(f:X.mg "range"=none)(h:DA X [a] gr)(hs:J0 [a] X.env=[(false,Zh a X.env)]:=by rfl):DI X tg (.Call (.Name "range" p) [a] [] pos) (fun ρ=>(gr ρ).bind pY):=
 CU (T3 g f h hs) fun s H R d=>by
  obtain⟨F,b,ρ,v,S,q,k⟩:=d;obtain⟨t,i,q⟩:=aG q;unfold pY at q
  split at q
  ·rename_i j;by_cases c:-4611686018427387904<=j/\j<4611686018427387904
   ·rw [if_pos c]at q;cases q
    refine⟨F,b,ρ,_,S,i,fun n m u o l=>?_⟩
    cases l with
    | cons r e=>
     cases r;cases e
     exact⟨j,rfl,by lia,by lia,k n m _ o (Rc 0 _)⟩
   ·rw [if_neg c]at q;cases q
  ·cases q
def sW:D->Option (List D)
 | .list a=>some a
 | .tuple a=>some a
 | _=>none
theorem Rb{K:PySem.W.Frag}{F:JY->Prop}{H:Hp}{a:JY}{vs:List V}{ds:List D}(h:lP K F H a vs)(r:Reps K F H ds vs):pG K F H ds (Dp K a):=fun m o T z i=>by
 have b:=h.stay T;have c:=r.stay T
 refine⟨fun d l=>?_,fun k=>⟨vs,b.sq,by rw [<- c.length];exact k⟩⟩
 obtain⟨v,e,j⟩:=c.get l
 refine⟨⟨vs,v,b.sq,e⟩,fun x n y=>?_⟩
 obtain⟨g,f⟩:=y;subst g
 have:=f vs b.sq
 rw [e]at this;cases this
 exact⟨m,aN.refl _ _,j⟩
theorem Re{K:PySem.W.Frag}{F:JY->Prop}{H:Hp}{a:JY}{vs:List V}{ds:List D}(h:bP K H a vs)(r:Reps K F H ds vs):pG K F H ds (Dq K a):=fun m o T z i=>by
 have b:=T.tp _ _ h;have c:=r.stay T
 refine⟨fun d l=>?_,fun k=>⟨vs,b,by rw [<- c.length];exact k⟩⟩
 obtain⟨v,e,j⟩:=c.get l
 refine⟨⟨vs,v,b,e⟩,fun x n y=>?_⟩
 obtain⟨g,f⟩:=y;subst g
 have:=f vs b
 rw [e]at this;cases this
 exact⟨m,aN.refl _ _,j⟩
theorem OL(A:DE X e ga):DI X tg e (fun ρ=>(ga ρ).bind sW):=by
 intro i s u H R I h;obtain⟨F,l,ρ,E,S,q,k⟩:=h;obtain⟨d,B,q⟩:=aG q;refine bC (A i s u H (fun x f=>∃ g,aN F g H f/\aR X.K g f d x) I ⟨F,l,ρ,d,S,B,fun g f v m r=>⟨g,m,r⟩⟩) fun v c w=>?_;obtain⟨x,f,I1,t,g,m,r⟩:=w
 cases r with
 | @lst a vs ds' hq rr=>
  cases q;cases t;obtain⟨j,y,p,z⟩:=I1.list hq.sq;refine wpAny_pyIter_list p.isList ?_
  refine⟨c.heap.objs.size,[c.heap.objs.size],_,_,f,rfl,I1.kept (t':=c.toks) fun b o e=>Qh _ e,WL a _,⟨_,Qz _ rfl,rfl,rfl⟩,fun b n=>?_,k g f _ m (Rb hq rr)⟩
  have e:b=c.heap.objs.size:=by simpa using n
  subst e;exact I1.fpOk (Ql _) (I1.hok.fresh (Ql _))
 | @tup a vs ds' hq rr=>
  cases q;cases t;obtain⟨j,y,p,z⟩:=I1.tuple hq;refine Uh (show c.heap.IsTuple a j.toArray from p) ?_
  refine⟨c.heap.objs.size,[c.heap.objs.size],_,_,f,rfl,I1.kept (t':=c.toks) fun b o e=>Qh _ e,WN a _,⟨_,Qz _ rfl,rfl,rfl⟩,fun b n=>?_,k g f _ m (Re hq rr)⟩
  have e:b=c.heap.objs.size:=by simpa using n
  subst e;exact I1.fpOk (Ql _) (I1.hok.fresh (Ql _))
 | non=>cases q
 | dct _ _ _ _ _=>cases q
 | exn _ _ _=>cases q
 | bl _=>cases q
 | int _=>cases q
 | str _=>cases q
end
def c7(n:Nat)(ds:List D):aA:=ds.map .dat++List.replicate (n-ds.length) .no
def cX(n:Nat)(g:aA->Option aW):List D->Option D:=fun a=>match g (c7 n a)with
 | some (.rt d)=>some d
 | some (.nx _)=>some .none
 | _=>none
theorem zK{K:PySem.W.Frag}{F:JY->Prop}{H:Hp}{N:List Str}{ds:List D}{vs:List V}(z:∀ a,F a->H a≠none)(r:Reps K F H ds vs):bH K F H H (L2.start N vs) (c7 N.length ds):=by
 have k:=r.length
 refine⟨by simp [L2.start,c7,k],fun i s h=>?_,fun i j a o m l b=>?_,z⟩
 ·unfold c7 at h;by_cases c:i<ds.length
  ·rw [QQ (by simpa using c),QF]at h
   cases e:ds[i]? with
   | none=>rw [e]at h;cases h
   | some d=>
    rw [e]at h;cases h;obtain⟨v,n,g⟩:=r.get e
    refine⟨some v,?_,v,rfl,g⟩
    unfold L2.start;rw [QQ (by simpa using(by lia:i<vs.length)),QF,n];rfl
  ·rw [QI (by simpa using c),YJ]at h
   split at h
   ·rename_i f;cases h
    refine⟨none,?_,trivial⟩
    unfold L2.start;rw [QI (by simpa using(by lia:vs.length<=i)),YJ,if_pos (by simp at f ⊢;lia)]
   ·cases h
 ·unfold c7 at b;by_cases c:i<ds.length
  ·rw [QQ (by simpa using c),QF]at b
   cases e:ds[i]? with
   | none=>rw [e]at b;cases b
   | some d=>rw [e]at b;cases b
  ·rw [QI (by simpa using c),YJ]at b
   split at b <;> cases b
theorem L4{P:J2}{w:J5}{K:PySem.W.Frag}{l:Str->Option YP}{base:Heap}{x a:Str}{b:Zm}{f:JY}{o:J6}{N ps:List Str}{k:Nat}{g:aA->Option aW}(F:dR K x a b f o)(S:bR N ps (aS b))
  (B:∀(cdv:YP) (A:Around) (outer:List Env) (s:JZ) (H:Hp) (E:XK),cM k (A.deeper (UL a (aS b) s.heap.objs.size f cdv))->
   kT (kY aO P w K l base N a (aS b) f cdv A outer s H E).nox (dN b) g):aM P w K l base aO (k+1) f o ps (aU K ps.length (cX N.length g)):=by
 refine F.ok S (fun u H Q E h=>?_) (fun cdv A outer s H u Q E y h=>?_)
 ·obtain⟨F,G,d,n,_,r,_⟩:=h;rw [<- r.length,n]
 ·obtain⟨F,G,d,n,z,r,q,m⟩:=h
  refine⟨_,B cdv A outer s H E y,?_⟩
  unfold cX at q
  split at q
  ·rename_i J e;cases q
   exact⟨F,H,F,_,_,aN.refl F H,zK z r,e,fun i c v j I=>m i c v j I⟩
  ·rename_i t e;cases q
   exact⟨F,H,F,_,_,aN.refl F H,zK z r,e,fun i c p j M O=>m i c .non j .non⟩
  ·cases q
end DL
namespace DL
open PySem PySem.Spec PySem.SeqAt PyProof.Rows L2
mutual
theorem aR.reads{X:Cx}{a:List (JY × Obj)}{p:L2.St}{H:Hp}{s:JZ}{F:JY->Prop}(I:L2.Inv X a p H s){d:D}{x:V}{u:YP}(h:aR X.K F H d x)(c:d.canLay0=true)(r:L2.RelV x u):∃ as,Reads s.heap u d as:=by
 cases h with
 | non=>cases r;exact⟨_,.none⟩
 | bl b=>cases r;exact⟨_,.bool b⟩
 | int i=>obtain⟨t,rfl⟩:=r;exact⟨_,.int i t⟩
 | str x=>obtain⟨t,rfl⟩:=r;exact⟨_,.str x t⟩
 | tup h q=>
  cases r;obtain⟨g,e,⟨o,j,m,n,k⟩,_⟩:=I.tuple h;obtain⟨as,z⟩:=Reps.reads I q c e
  exact⟨_,.tuple j m k z⟩
 | lst h q=>
  cases r;obtain⟨g,e,v,_⟩:=I.list h.sq;obtain⟨o,n,j,m,_,k⟩:=v;obtain⟨as,z⟩:=Reps.reads I q c e
  exact⟨_,.list j m k z⟩
 | dct f h n l r=>cases c
 | exn f h n=>cases c
theorem Reps.reads{X:Cx}{a:List (JY × Obj)}{b:L2.St}{H:Hp}{s:JZ}{F:JY->Prop}(I:L2.Inv X a b H s){ds:List D}{xs:List V}{us:List YP}(h:Reps X.K F H ds xs)(c:Zt ds=true)(r:L2.Vals xs us):∃ as,ReadsAll s.heap us ds as:=by
 cases h with
 | nil=>cases r;exact⟨_,.nil⟩
 | cons h q=>
  have c:=QM.mp c
  cases r with
  | cons e d=>
   obtain⟨as,z⟩:=aR.reads I h c.1 e;obtain⟨bs,y⟩:=Reps.reads I q c.2 d
   exact⟨_,.cons z y⟩
end
def pN(t:Int->Int->D):D->D->Option D
 | .int i,.int j=>some (t i j)
 | _,_=>none
def sC(C:Int->Int->Bool)(t:Int->Int->D):D->D->Option D
 | .int i,.int j=>if C i j=true then some (t i j)else none
 | _,_=>none
def mS(i j:Int):Bool:=(decide (-18446744073709551616<i) && decide (i<18446744073709551616)) || (decide (-18446744073709551616<j) && decide (j<18446744073709551616))
def qN(_ j:Int):Bool:=decide (0<j) && decide (j<1073741824)
def GR(_ j:Int):Bool:=decide (0<j)
section
variable {X:Cx}
theorem vP{f:YP->YP->Sem YP}{g:Int->Int->V}{t:Int->Int->D}(h:bI X f (lY g))(r:∀ i j K F H,aR K F H (t i j) (g i j)):bI X f (cP X.K (pN t)):=
 qP h fun x y H Q b=>by
  obtain⟨F,d,e,q,z,c,R2,a,k⟩:=b;unfold pN at a
  split at a
  ·cases a;cases c;cases R2
   exact⟨_,_,rfl,rfl,k F H _ (aN.refl F H) (r _ _ _ _ _)⟩
  ·cases a
theorem AA{f:YP->YP->Sem YP}{C:Int->Int->Prop}{B:Int->Int->Bool}{g:Int->Int->V}{t:Int->Int->D}(h:bI X f (rI C g))(l:∀ i j,B i j=true->C i j)(r:∀ i j K F H,aR K F H (t i j) (g i j)):bI X f (cP X.K (sC B t)):=
 qP h fun x y H Q c=>by
  obtain⟨F,d,e,q,z,m,R2,a,k⟩:=c;unfold sC at a
  split at a
  ·rename_i i j;by_cases b:B i j=true
   ·rw [if_pos b]at a;cases a;cases m;cases R2
    exact⟨_,_,rfl,rfl,l _ _ b,k F H _ (aN.refl F H) (r _ _ _ _ _)⟩
   ·rw [if_neg b]at a;cases a
  ·cases a
def g8:D->D->Option D:=pN fun i j=>.int (i-j)
def LT:D->D->Option D:=sC mS fun i j=>.int (i * j)
def oY:D->D->Option D:=sC qN fun i j=>.int (i / j)
def j0:D->D->Option D:=sC GR fun i j=>.int (i % j)
def kZ:D->D->Option D:=pN fun i j=>.bool (decide (i<=j))
def Ar:D->D->Option D:=pN fun i j=>.bool (decide (j<i))
def oD:D->D->Option D:=pN fun i j=>.bool (decide (j<=i))
theorem kD:bI X (Zv .Sub) (cP X.K g8):=vP Vq fun _ _ _ _ _=>.int _
theorem Vr:bI X (Zv .Mult) (cP X.K LT):=AA Vo (fun i j h=>by
 unfold mS at h;simp only [JV,QH,decide_eq_true_eq]at h;unfold u4
 lia) fun _ _ _ _ _=>.int _
theorem xN:bI X (Zv .FloorDiv) (cP X.K oY):=AA Vl (fun i j h=>by
 unfold qN at h;simp only [QH,decide_eq_true_eq]at h
 exact h) fun _ _ _ _ _=>.int _
theorem qO:bI X (Zv .Mod) (cP X.K j0):=AA Vn (fun i j h=>by
 unfold GR at h
 simpa using h) fun _ _ _ _ _=>.int _
theorem l5:bI X (Ze .LtE) (cP X.K kZ):=vP Ng fun _ _ _ _ _=>.bl _
theorem IA:bI X (Ze .Gt) (cP X.K Ar):=vP Nf fun _ _ _ _ _=>.bl _
theorem GU:bI X (Ze .GtE) (cP X.K oD):=vP Nd fun _ _ _ _ _=>.bl _
def pP:D->Option D
 | .int i=>some (.int (-i))
 | _=>none
theorem CM:oA X (unaryOp .USub) (Es X.K pP):=WT WR fun x H Q b=>by
 obtain⟨F,d,q,z,c,a,k⟩:=b;unfold pP at a
 split at a
 ·cases a;cases c
  exact⟨_,rfl,k F H _ (aN.refl F H) (.int _)⟩
 ·cases a
def eA(d e:D):Option D:=if(shaped d && shaped e)=true then some (.bool (ZS d e))else none
def cU(d e:D):Option D:=if(shaped d && shaped e)=true then some (.bool (!PyData.eqv d e))else none
theorem nR(j:X.A.units+64<Zc):bI X (Ze .Eq) (cP X.K eA):=fun f s m H x y v u Q I i h g=>by
 obtain⟨F,d,e,q,z,R1,R2,a,k⟩:=g;unfold eA at a;by_cases c:(shaped d && shaped e)=true
 ·rw [if_pos c]at a;cases a;have b:=QM.mp c;obtain⟨n,a1⟩:=R1.reads I (QV b.1) i;obtain⟨bs,l⟩:=R2.reads I (QV b.2) h;exact eq_dataH a1 l b.1 b.2 j ⟨.bl _,H,I,rfl,k F H _ (aN.refl F H) (.bl _)⟩
 ·rw [if_neg c]at a;cases a
theorem jP(j:X.A.units+64<Zc):bI X (Ze .NotEq) (cP X.K cU):=fun f s m H x y v u Q I i h g=>by
 obtain⟨F,d,e,q,z,R1,R2,a,k⟩:=g;unfold cU at a;by_cases c:(shaped d && shaped e)=true
 ·rw [if_pos c]at a;cases a;have b:=QM.mp c;obtain⟨n,a1⟩:=R1.reads I (QV b.1) i;obtain⟨bs,l⟩:=R2.reads I (QV b.2) h;exact ne_dataH a1 l b.1 b.2 j ⟨.bl _,H,I,rfl,k F H _ (aN.refl F H) (.bl _)⟩
 ·rw [if_neg c]at a;cases a
def jE(b:Bool)(d:D):D->Option D
 | .list a=>if(shaped d && shaped (.list a))=true then some (.bool (if b then !(a.any fun y=>ZS y d)else a.any fun y=>ZS y d))else none
 | .tuple a=>if(shaped d && shaped (.tuple a))=true then some (.bool (if b then !(a.any fun y=>ZS y d)else a.any fun y=>ZS y d))else none
 | _=>none
theorem tP(l:X.A.units+65<Zc):bI X (Ze .In) (cP X.K (jE false)):=fun j s o H x y v u Q I i h m=>by
 obtain⟨F,d,e,q,z,R1,R2,a,k⟩:=m;unfold jE at a
 split at a
 ·rename_i f;by_cases c:(shaped d && shaped (.list f))=true
  ·rw [if_pos c]at a;cases a;have b:=QM.mp c;obtain⟨n,a1⟩:=R1.reads I (QV b.1) i;obtain⟨bs,g⟩:=R2.reads I (QV b.2) h;exact in_list_reads g a1 (QV b.2) (QV b.1) (UR b.1 l) ⟨.bl _,H,I,rfl,k F H _ (aN.refl F H) (.bl _)⟩
  ·rw [if_neg c]at a;cases a
 ·rename_i f;by_cases c:(shaped d && shaped (.tuple f))=true
  ·rw [if_pos c]at a;cases a;have b:=QM.mp c;obtain⟨n,a1⟩:=R1.reads I (QV b.1) i;obtain⟨bs,g⟩:=R2.reads I (QV b.2) h;exact in_tuple_reads g a1 (QV b.2) (QV b.1) (UR b.1 l) ⟨.bl _,H,I,rfl,k F H _ (aN.refl F H) (.bl _)⟩
  ·rw [if_neg c]at a;cases a
 ·cases a
theorem IC(l:X.A.units+65<Zc):bI X (Ze .NotIn) (cP X.K (jE true)):=fun j s o H x y v u Q I i h m=>by
 obtain⟨F,d,e,q,z,R1,R2,a,k⟩:=m;unfold jE at a
 split at a
 ·rename_i f;by_cases c:(shaped d && shaped (.list f))=true
  ·rw [if_pos c]at a;cases a;have b:=QM.mp c;obtain⟨n,a1⟩:=R1.reads I (QV b.1) i;obtain⟨bs,g⟩:=R2.reads I (QV b.2) h;exact notIn_list_reads g a1 (QV b.2) (QV b.1) (UR b.1 l) ⟨.bl _,H,I,rfl,k F H _ (aN.refl F H) (.bl _)⟩
  ·rw [if_neg c]at a;cases a
 ·rename_i f;by_cases c:(shaped d && shaped (.tuple f))=true
  ·rw [if_pos c]at a;cases a;have b:=QM.mp c;obtain⟨n,a1⟩:=R1.reads I (QV b.1) i;obtain⟨bs,g⟩:=R2.reads I (QV b.2) h;exact notIn_tuple_reads g a1 (QV b.2) (QV b.1) (UR b.1 l) ⟨.bl _,H,I,rfl,k F H _ (aN.refl F H) (.bl _)⟩
  ·rw [if_neg c]at a;cases a
 ·cases a
def aQ:D->D->Option D
 | .tuple xs,.int i=>atI xs i
 | .list xs,.int i=>atI xs i
 | _,_=>none
theorem Reps.atI{K:PySem.W.Frag}{F:JY->Prop}{H:Hp}{ds:List D}{vs:List V}{i:Int}{d:D}(r:Reps K F H ds vs)(h:L2.atI ds i=some d):∃ v,L2.atI vs i=some v/\aR K F H d v:=by
 unfold L2.atI at h ⊢;rw [r.length]at h
 cases e:ixN vs.length i with
 | none=>rw [e]at h;cases h
 | some j=>
  rw [e]at h;obtain⟨v,b,a⟩:=r.get (show ds[j]?=some d from h)
  exact⟨v,b,a⟩
theorem aX:jD X (cP X.K aQ):=Rn (Rl.or Rm) fun x y H Q h=>by
 obtain⟨F,d,e,q,z,g,R2,b,k⟩:=h;unfold aQ at b
 split at b
 ·rename_i j i
  cases g with
  | @tup a vs _ h1 r1=>
   cases R2;obtain⟨v,f,c⟩:=r1.atI b;exact .inr ⟨a,vs,i,v,rfl,rfl,h1,f,k F H _ (aN.refl F H) c⟩
 ·rename_i j i
  cases g with
  | @lst a vs _ h1 r1=>
   cases R2;obtain⟨v,f,c⟩:=r1.atI b;exact .inl ⟨a,vs,i,v,rfl,rfl,h1.sq,f,k F H _ (aN.refl F H) c⟩
 ·cases b
def eU:List D->Option D
 | [.list xs]=>some (.int xs.length)
 | [.tuple xs]=>some (.int xs.length)
 | _=>none
theorem mK:fV X (.builtin "len") (lC X.K eU):=wD Pt fun e H Q d=>by
 obtain⟨F,f,q,z,R,b,k⟩:=d;unfold eU at b
 split at b
 ·cases b
  cases R with
  | cons c R2=>
   cases R2
   cases c with
   | @lst a vs _ h1 r1=>exact⟨a,vs,rfl,.inl h1.sq,by rw [<- r1.length];exact k F H _ (aN.refl F H) (.int _)⟩
 ·cases b
  cases R with
  | cons c R2=>
   cases R2
   cases c with
   | @tup a vs _ h1 r1=>exact⟨a,vs,rfl,.inr h1,by rw [<- r1.length];exact k F H _ (aN.refl F H) (.int _)⟩
 ·cases b
def oC:List D->Option D
 | [.int i]=>some (.int (if i<0 then -i else i))
 | _=>none
theorem uF:fV X (.builtin "abs") (lC X.K oC):=wD Pq fun d H Q b=>by
 obtain⟨F,e,q,z,R,a,k⟩:=b;unfold oC at a
 split at a
 ·cases a
  cases R with
  | cons c R2=>cases R2;cases c;exact⟨_,rfl,k F H _ (aN.refl F H) (.int _)⟩
 ·cases a
def eF:List D->Option (List Int)
 | []=>some []
 | .int i::r=>(eF r).bind fun a=>some (i::a)
 | _=>none
theorem yH{K:PySem.W.Frag}{F:JY->Prop}{H:Hp}:∀{ds:List D}{vs:List V}{is:List Int},Reps K F H ds vs->eF ds=some is->vs=is.map V.int:=by
 intro ds
 induction ds with
 | nil=>intro vs is r h;cases r;cases h;rfl
 | cons d ds c=>
  intro vs is r h
  cases r with
  | cons b a=>
   cases d with
   | int i=>
    cases b;obtain⟨f,e,h⟩:=aG h;cases h;rw [c a e];rfl
   | _=>cases h
def nN:List D->Option D
 | [.list xs]=>some (.tuple xs)
 | [.tuple xs]=>some (.tuple xs)
 | _=>none
theorem rS:fV X (.type "tuple") (lC X.K nN):=wD Py fun f H Q e=>by
 obtain⟨F,g,q,z,R,b,k⟩:=e;unfold nN at b
 split at b
 ·cases b
  cases R with
  | cons c R2=>
   cases R2
   cases c with
   | @lst a vs _ h1 r1=>exact⟨a,vs,rfl,.inl ⟨h1.sq,fun l d=>k F _ _ (aN.fresh d) (aR.newTup d r1)⟩⟩
 ·cases b
  cases R with
  | cons c R2=>
   cases R2
   cases c with
   | @tup a vs _ h1 r1=>exact⟨a,vs,rfl,.inr ⟨h1,k F H _ (aN.refl F H) (.tup h1 r1)⟩⟩
 ·cases b
end
end DL
namespace CL
open PySem PySem.Spec PyProof.Rows L2
theorem Bt{env:Env}:∀(names:List (Str × UG)) (acc:List (Str × JY)),(∀ x∈names,x.2=.free->∃ c,env.cells.lookup x.1=some c)->
  (∀ x c,acc.lookup x=some c->env.cells.lookup x=some c)->
  ∃ cl,(forIn names acc (fun(x:Str × UG) (cs:List (Str × JY))=>(do
    if x.2 == .free then
     let c <- cellOf env x.1
     pure (Ue ((x.1,c)::cs))
    else pure (Ue cs):Sem (ForInStep (List (Str × JY)))))=(pure cl:Sem _))/\(∀ x c,cl.lookup x=some c->env.cells.lookup x=some c) /\
   (∀ x,(x,Zb)∈names->∃ c,cl.lookup x=some c)/\(∀ x c,acc.lookup x=some c->∃ c',cl.lookup x=some c')/\(∀ x c,cl.lookup x=some c->(x,Zb)∈names ∨ acc.lookup x=some c)
 | [],acc,_,h2=>⟨acc,by rw [List.forIn_nil],h2,fun x h=>by simp at h,fun x c h=>⟨c,h⟩,fun x c h=>.inr h⟩
 | (n,k)::r,acc,h1,h2=>by
  rw [List.forIn_cons];by_cases f:k=.free
  ·subst f;obtain⟨c,l⟩:=h1 (n,.free) (Qo) rfl;have b:env.cells.lookup n=some c:=l
   have g:∀ x c',((n,c)::acc).lookup x=some c'->env.cells.lookup x=some c':=fun x c' h=>by
    rw [QN]at h
    cases e:x == n with
    | true=>rw [e]at h;cases h;rw [Yv e];exact b
    | false=>rw [e]at h;exact h2 x c' h
   obtain⟨cl,q,a1,j,d,i⟩:=Bt r ((n,c)::acc) (fun x a=>h1 x (Qf _ a)) g
   refine⟨cl,?_,a1,fun x a=>?_,fun x c' h=>?_,fun x c' h=>?_⟩
   ·have m:cellOf env n=pure c:=by unfold cellOf;rw [b]
    simp only [beq_self_eq_true,if_true,m,pure_bind];exact q
   ·rcases Qp.mp a with a | a
    ·cases a;exact d n c (by rw [QN,beq_self_eq_true])
    ·exact j x a
   ·cases e:x == n with
    | true=>rw [Yv e];exact d n c (by rw [QN,beq_self_eq_true])
    | false=>exact d x c' (by rw [QN,e];exact h)
   ·rcases i x c' h with h | h
    ·exact .inl (Qf _ h)
    ·rw [QN]at h
     cases e:x == n with
     | true=>rw [Yv e];exact .inl Qo
     | false=>rw [e]at h;exact .inr h
  ·obtain⟨cl,q,a1,j,d,i⟩:=Bt r acc (fun x a=>h1 x (Qf _ a)) h2
   refine⟨cl,?_,a1,fun x a=>?_,d,fun x c h=>(i x c h).imp (Qf _) id⟩
   ·have e:(k == Zb)=false:=by simpa using f
    simp only [e,Qj,if_false,pure_bind];exact q
   ·rcases Qp.mp a with a | a
    ·cases a;exact absurd rfl f
    ·exact j x a
theorem D6{env:Env}{scope:ZX}(h:∀ x∈scope.names,x.2=.free->∃ c,env.cells.lookup x.1=some c):
  ∃ cl,closureFor scope env=pure cl/\(∀ x c,cl.lookup x=some c->env.cells.lookup x=some c)/\(∀ x,(x,Zb)∈scope.names->∃ c,cl.lookup x=some c)/\(∀ x c,cl.lookup x=some c->(x,Zb)∈scope.names):=by
 obtain⟨cl,q,a1,b,_,a⟩:=Bt (env:=env) scope.names [] h (fun x c h=>by simp at h)
 refine⟨cl,?_,a1,b,fun x c h=>(a x c h).elim id fun z=>by simp at z⟩
 simp only [closureFor]
 first
  | exact q
  | (rw [<- q];congr 1;funext x cs;obtain⟨n,k⟩:=x;rfl)
  | simpa using q
def fJ(X:Cx)(N':List Str)(scope:ZX)(b:List (Str × JY))(C:JY)(a:List JY)(s:JZ)(H:Hp):Cx:=
 { X with N:=N',s₀:=s,H₀:=H,env:=compEnvC scope b C X.env,outer:=X.stack,ex:=a,fn:=fun x=>scope.names.lookup x == some .local,pn:=[],xe:=fun _ _=>False }
structure o6(X:Cx)(N':List Str)(scope:ZX)(inner:List (Option Nat)):Prop where
 kind:scope.kind=.function
 nocell:∀ x∈scope.names,x.2≠.cell
 loc:∀ x∈scope.names,x.2=.local->scope.names.lookup x.1=some .local
 free:∀ x∈scope.names,x.2=.free->scope.names.lookup x.1=some .free/\(X.env.scope.names.lookup x.1=some .cell ∨ X.env.scope.names.lookup x.1=some .free)
 len:inner.length=N'.length
 out:∀(i j:Nat),inner[i]?=some (some j)->∃ x,N'[i]?=some x/\X.N[j]?=some x/\scope.names.lookup x=some .free
def k7(inner:List (Option Nat))(a:L2.St):L2.St:=inner.map fun o=>o.bind fun j=>(a[j]?).bind id
theorem Iu{env:Env}:∀{names:List (Str × UG)}{x:Str},names.lookup x=some .free->
  (names.map fun(n,k)=>if(k == Zb && env.scope.kind == .function && env.kindOf n == some .cell)then(n,Z8)else(n,k)).lookup x=some .free ∨
  (names.map fun(n,k)=>if(k == Zb && env.scope.kind == .function && env.kindOf n == some .cell)then(n,Z8)else(n,k)).lookup x=some .cell
 | [],_,h=>by simp at h
 | (n,k)::r,x,h=>by
  have c:=@Iu env r x;rw [Qm]
  show List.lookup x ((if(k == Zb && env.scope.kind == .function && env.kindOf n == some .cell)=true then(n,Z8)else(n,k))::_)=_ ∨ List.lookup x ((if(k == Zb && env.scope.kind == .function && env.kindOf n == some .cell)=true then(n,Z8)else(n,k))::_)=_
  cases a:x == n with
  | true=>
   simp only [QN,a]at h;cases h;by_cases b:(Zb == Zb && env.scope.kind == .function && env.kindOf n == some .cell)=true
   ·rw [if_pos b];right;simp [QN,a]
   ·rw [if_neg b];left;simp [QN,a]
  | false=>
   simp only [QN,a]at h;by_cases b:(k == Zb && env.scope.kind == .function && env.kindOf n == some .cell)=true
   ·rw [if_pos b];simp only [QN,a];exact c h
   ·rw [if_neg b];simp only [QN,a];exact c h
theorem C7{env:Env}:∀{names:List (Str × UG)}{x:Str}{q:UG},(∀ y∈names,y.2≠.cell)->(q=.cell ∨ q=.free)->
  (names.map fun(n,k)=>if(k == Zb && env.scope.kind == .function && env.kindOf n == some .cell)then(n,Z8)else(n,k)).lookup x=some q->(x,Zb)∈names
 | [],_,_,_,_,h=>by simp at h
 | (n,k)::r,x,q,hn,hq,h=>by
  have f:=@C7 env r x q (fun y g=>hn y (Qf _ g)) hq;rw [Qm]at h;have a:List.lookup x ((if(k == Zb && env.scope.kind == .function && env.kindOf n == some .cell)=true then(n,Z8)else(n,k))::_)=some q:=h
  cases c:x == n with
  | true=>
   have e:x=n:=Yv c;by_cases b:(k == Zb && env.scope.kind == .function && env.kindOf n == some .cell)=true
   ·have:k=.free:=by
     have:=b
     simp only [QH,beq_iff_eq]at this;exact this.1.1
    rw [e,this];exact Qo
   ·rw [if_neg b]at a;simp only [QN,c]at a;have d:k=q:=QC a;rcases hq with z | z
    ·exact absurd (d.trans z) (hn (n,k) Qo)
    ·rw [e,<- z,<- d];exact Qo
  | false=>
   by_cases b:(k == Zb && env.scope.kind == .function && env.kindOf n == some .cell)=true
   ·rw [if_pos b]at a;simp only [QN,c]at a;exact Qf _ (f a)
   ·rw [if_neg b]at a;simp only [QN,c]at a;exact Qf _ (f a)
section
variable {X:Cx}{N':List Str}{scope:ZX}{inner:List (Option Nat)}{cl:List (Str × JY)}{C:JY}{fp:List JY}{s s4:JZ}{H:Hp}{σ:L2.St}{pins:List (JY × Obj)}
theorem P7(CS:o6 X N' scope inner)(I:Inv X pins σ H s)(w:∀ b∈fp,hZ X pins H b)(n:∀ x c,cl.lookup x=some c->X.env.cells.lookup x=some c)(Q:∀ x,(x,Zb)∈scope.names->∃ c,cl.lookup x=some c)(c3:∀ x c,cl.lookup x=some c->(x,Zb)∈scope.names)
  (K:∀ b∈fp,b<s.heap.objs.size) (A:C=s.heap.objs.size) {h':Heap}{tk:Nat} (t:∀ b o,s.heap.get? b=some o->h'.get? b=some o) (J:h'.Ns C fun _=>none) (G:s4={ s with heap:=h',toks:=tk }):
  Inv (fJ X N' scope cl C fp s H) [] (k7 inner σ) H s4:=by
 subst G
 have B:∀ b o,s.heap.get? b=some o->b≠C:=fun b o e=>by rw [A];exact QB (Qs e)
 have cC:∀ x c,cl.lookup x=some c->c≠C:=fun x c e=>by
  obtain⟨v,o,q,_⟩:=I.cell x c (n x c e);exact B c o q
 refine⟨⟨I.ok.mod,CS.kind,I.ok.glob,I.ok.blt,?_,fun x y c h1 h2=>I.ok.inj x y c (n x c h1) (n y c h2),fun x F=>?_,fun x c F h=>?_,I.ok.hd,I.ok.frames,.inl rfl,fun b l=>⟨?_,fun x c e z=>(w b l).2.2.2.2.1 x c (n x c e) z⟩,I.bs,QL I.ok.bsz I.sz,fun b o e l=>?_,fun b l=>?_,I.stack,I.stkFree⟩,
  rfl,I.bare,Un.kept t,⟨_,J,fun i x v O g e3=>?_⟩,fun x c e=>?_,?_,fun x c e=>I.freeC x c (n x c e),fun p hp=>absurd (show p∈([]:List (JY × Obj))from hp) (by simp),I.hok.kept t,?_⟩
 ·show s.heap.objs.size<=C
  rw [A];exact Ql _
 ·have d:(relabel scope X.env).names.lookup x=some .cell ∨ (relabel scope X.env).names.lookup x=some .free:=F;rcases d with d | d
  ·exact Q x (C7 CS.nocell (.inl rfl) d)
  ·exact Q x (C7 CS.nocell (.inr rfl) d)
 ·have d:(scope.names.lookup x == some NameKind.local)=true:=F;have O:scope.names.lookup x=some .local:=Yv d;have g:=(CS.free _ (c3 x c h) rfl).1;rw [O]at g;cases g
 ·show b≠C
  rw [A];exact QB (K b l)
 ·rcases(w b l).2.2.2.1 with z | z
  ·exact I.ok.noex b o e z
  ·exact absurd (QX (Qs e) (QL I.ok.bsz z)) (JH _)
 ·intro z;rcases Qp.mp (I.stkSub b z)with q | q
  ·exact(w b l).2.1 q
  ·exact(w b l).2.2.1 q
 ·
  unfold k7 at g;rw [QF]at g
  cases M:inner[i]? with
  | none=>rw [M]at g;cases g
  | some o=>
   rw [M]at g
   cases o with
   | none=>cases g
   | some j=>
    have k:(σ[j]?).bind id=some v:=by simpa using g
    have e4:σ[j]?=some (some v):=by
     cases U:σ[j]? with
     | none=>rw [U]at k;cases k
     | some w'=>rw [U]at k;exact congrArg some k
    obtain⟨x',T,g2,S⟩:=CS.out i j M;have N:N'[i]?=some x:=O;rw [N]at T;cases T;have r:(x,Zb)∈scope.names:=PySem.mem_of_lookup S;have f:=(CS.free _ r rfl).2;obtain⟨m,hm,hl⟩:=I.loc;have vis:iB X.env.scope x:=f.elim (fun z=>.inr (.inl z)) fun z=>.inr (.inr z);obtain⟨u,Y,Z⟩:=hl j x v g2 e4 vis
    refine⟨u,Y,?_⟩
    obtain⟨c,R⟩:=Q x r;rcases Z with⟨k1,_⟩ | ⟨_,c',k2,k3⟩
    ·have E:X.env.scope.names.lookup x=some .local:=k1
     rcases f with z | z <;> (rw [E]at z;cases z)
    ·have W:=n x c R;rw [k2]at W;cases W;refine .inr ⟨?_,c,R,(let⟨o,q1,q2⟩:=k3;⟨o,t _ o q1,q2⟩)⟩
     have:=Iu (env:=X.env) S
     exact this.elim .inr .inl
 ·obtain⟨v,q⟩:=I.cell x c (n x c e)
  exact⟨v,(let⟨o,q1,q2⟩:=q;⟨o,t _ o q1,q2⟩)⟩
 ·show H C=none
  exact I.hok.fresh (by rw [A];exact Ql _)
 ·show(k7 inner σ).length=N'.length
  unfold k7;rw [Qi];exact CS.len
theorem P6(I:Inv X pins σ H s)(i:∀ b∈fp,hZ X pins H b)(t:C=s.heap.objs.size){j:L2.St}{g:Hp}{s5:JZ}(J:Inv (fJ X N' scope cl C fp s H) [] j g s5){h':Heap}(h:Zk C s5.heap h'):
  Inv X pins σ g { s5 with heap:=h' }:=by
 have d:∀ b o,s.heap.get? b=some o->b≠C:=fun b o e=>by rw [t];exact QB (Qs e)
 have U:Un (jH X.stack) fp H g s.heap s5.heap:=J.base;have p:g C=none:=J.free;refine I.call' (ch:=fp) J.os ⟨fun b o e n a f=>?_,fun b o e n a f=>?_,U.free,fun b o e f=>?_,U.tups,U.frzs,U.tbls⟩ (fun b u e=>?_) J.bare fun b a=>?_
 ·rw [h.2 b (d b o e)];exact U.keep b o e n a f
 ·obtain⟨l,q⟩:=U.slot b o e n a f
  exact⟨l,by rw [h.2 b (d b o e)];exact q⟩
 ·obtain⟨m,q⟩:=U.there b o e f
  exact⟨m,by rw [h.2 b (d b o e)];exact q⟩
 ·have k:∀ c v,g c=some v->c≠C:=fun c v q z=>by rw [z,p]at q;cases q
  refine(J.hok b u e).stay (fun c v r q=>?_) (fun _ q=>q) fun _ _ q=>q
  rw [h.2 c ?_]
  ·exact q
  ·rcases r with z | z
   ·rw [z];exact k b u e
   ·exact k c _ z
 ·exact⟨(i b a).2.2.2.1,(i b a).2.1,(i b a).2.2.2.2.1,(i b a).2.2.2.2.2⟩
end
def pI(X:Cx)(a:List Expr)(t:TT):Prop:=
 ∀(pins:List (JY × Obj)) (s:JZ) (σ:L2.St) (H:Hp) (Q:Bool->Hp->Prop),Inv X pins σ H s->t σ H Q->
  J1 (J3 X.prog X.w) X.A (forIn a true fun c r=>if r=true then do let ok <- isTrue c X.env (Zh c X.env);pure (Ue ok)else pure (Ue r)) (TP X pins σ Q) X.xe s
theorem To{X:Cx}{c:Expr}{t:TT}(h:PT X c t):pI X [c] t:=fun a s b H Q I q=>wpAny_tests_one (h a s b H Q I q)
def Dl(h:TI)(g:TG)(ti:TT)(te:TE)(inner:List (Option Nat)):TE:=fun c H Q=>h c H fun J f=>∀ D,f D=none->∃ W:Nat->Nat->L2.St->Hp->Prop,(∃ m,W 0 m (k7 inner c) (aJ f D (.lst [])))/\∀ i m σ' H',W i m σ' H'->
 (J.stop i H'/\Q (.ref D) H') ∨ (J.go i H'/\∀ x H2,J.yld i H' x H2->g x σ' H2 fun a j=>ti a j fun b e=>if b=true then te a e fun y d=>∃ ys,d D=some (.lst ys)/\ys.length<sizeLine/\∃ m',m'<m/\W (i+1) m' a (aJ d D (.lst (ys++[y])))else ∃ m',m'<m/\W (i+1) m' a e)
section
variable {X:Cx}{elt tg iter:Expr}{ifs:List Expr}{scope:ZX}{pos:Pos}{N':List Str}{inner:List (Option Nat)}{wi:TI}{g:TG}{ti:TT}{te:TE}
theorem OV{Y:Cx}{D H:JY}{h:List JY}{q:Nat->Heap->Prop}{J:It}{W:Nat->Nat->L2.St->Hp->Prop}{Qn:Hp->Prop}{RR:Result->JZ->Prop}{n:L2.St}{U:Hp}{s4:JZ}{m0:Nat}
  (hc:Y.calm=true) (c:∀ v s,¬ Y.xe v s) (hg:PG Y tg g) (ht:pI Y ifs ti) (he:PE Y elt te) (T:mY Y.prog Y.w Y.K tg J h H q) (M:∀{H'':Hp},(∀ b∈h,H'' b=none)->∀ b∈h,hZ Y [] H'' b)
  (I4:Inv Y [] n U s4) (t4:q 0 s4.heap) (O:∀ b∈h,U b=none) (w0:W 0 m0 n U)
  (step:∀ i m σ' H',W i m σ' H'->(J.stop i H'/\Qn H') ∨ (J.go i H'/\∀ x H3,J.yld i H' x H3->g x σ' H3 fun σ3 H3=>ti σ3 H3 fun b H4=>if b=true then te σ3 H4 fun y H5=>∃ ys,H5 D=some (.lst ys)/\ys.length<sizeLine/\∃ m',m'<m/\W (i+1) m' σ3 (aJ H5 D (.lst (ys++[y])))else ∃ m',m'<m/\W (i+1) m' σ3 H4))
  (fin:∀ σ' H' s5,Inv Y [] σ' H' s5->Qn H'->RR (.ok .next) s5):
  Uc (J3 Y.prog Y.w) Y.A (.compLoop (.ListComp elt [⟨tg,iter,ifs,0⟩] scope pos) 0 (.ref H) (.ref D) Y.env) RR s4:=by
 refine codeAny_loop rfl (fun m k=>∃ i σ' H',Inv Y [] σ' H' k/\q i k.heap/\(∀ b∈h,H' b=none)/\W i m σ' H') (fun m k hI=>?_) m0 ⟨0,_,_,I4,t4,O,w0⟩;obtain⟨i,σ',H',I',Z,p,w'⟩:=hI
 show J1 _ Y.A ((compTurn (.ListComp elt [⟨tg,iter,ifs,0⟩] scope pos) 0 (.ref H) (.ref D) Y.env).onRaise (fun x=>do noteFrame x Y.env;theTreesLotGoes x)) _ _ k
 refine wpAny_noted ?_;rw [compTurn_list];refine Qa (wpAny_standAt (Qa ?_));rcases step i m σ' H' w' with⟨stop,qn⟩ | ⟨go,G⟩
 ·refine Y6 (T.done Y rfl rfl rfl hc i [] k σ' H' (fun _ _=>False) I' (M p) Z stop) (fun r s5 f=>?_) fun _ _ z=>z.elim;obtain⟨f,I5⟩:=f;subst f;exact Qb (fin σ' H' s5 I5 qn)
 ·refine Y6 (T.item Y rfl rfl rfl hc i [] k σ' H' (fun _ _=>False) I' (M p) Z go) (fun r s5 f=>?_) fun _ _ z=>z.elim;obtain⟨u,f,h5⟩:=f;subst f;refine Qa (Y6 h5 (fun _ s6 h6=>?_) fun _ _ z=>z.elim);obtain⟨x,H6,I6,r6,y6,F,N⟩:=h6;have R:=I6.pinned (M N) (T.obj _ _ F)
  have d:∀{m':Nat}{a:L2.St}{l:Hp}{j:JZ},Inv Y ([]++tT h s6.heap) a l j->m'<m->W (i+1) m' a l->
    ∃ m',m'<m/\∃ i σ' H',Inv Y [] σ' H' j/\q i j.heap/\(∀ b∈h,H' b=none)/\W i m' σ' H':=fun{m' a l j} I7 lt w7=>by
   refine⟨m',lt,i+1,a,l,I7.unpinned,T.keep _ _ _ F fun b B o e=>(I7.pin (b,o) (Qv _ (Qv _ (xH B e)))).1,fun b B=>?_,w7⟩
   obtain⟨o,e,_⟩:=T.obj _ _ F b B
   exact(I7.pin (b,o) (Qv _ (Qv _ (xH B e)))).2.1
  refine Qa (Y6 (hg _ s6 σ' H6 x u _ R r6 (G x H6 y6)) (fun _ j h7=>?_) fun _ _ z=>absurd z (c _ _));obtain⟨a,l,I7,q7⟩:=h7;refine Qa (Y6 (ht _ j a l _ I7 q7) (fun ok s8 h8=>?_) fun _ _ z=>absurd z (c _ _));obtain⟨H8,I8,t⟩:=h8
  cases ok with
  | false=>
   simp only [Qj,if_false]at t ⊢;obtain⟨m',lt,w8⟩:=t;exact Qb ⟨rfl,d I8 lt w8⟩
  | true=>
   simp only [if_true]at t ⊢;refine Qa (Qa (Y6 (he _ s8 a H8 _ I8 t) (fun y s9 h9=>?_) fun _ _ z=>absurd z (c _ _)));obtain⟨E,H9,I9,r9,ys,d9,l9,m',lt,w9⟩:=h9;refine Qa (Y6 (xL (X:=Y) _ s9 a H9 (.ref D) [E] _ [y] (fun v H'=>H'=aJ H9 D (.lst (ys++[E]))) I9 rfl (.cons r9 .nil) ⟨_,ys,E,rfl,rfl,d9,l9,rfl⟩) (fun _ a0 I=>?_) fun _ _ z=>absurd z (c _ _));obtain⟨_,a2,S,_,Q⟩:=I;subst Q;exact Qb (Qb ⟨rfl,d S lt w9⟩)
theorem uH(hc:X.calm=true)(CS:o6 X N' scope inner)(hg:∀ h C f s H,PG (fJ X N' scope h C f s H) tg g)(ht:∀ h C f s H,pI (fJ X N' scope h C f s H) ifs ti)(he:∀ h C f s H,PE (fJ X N' scope h C f s H) elt te)
  {a:List (JY × Obj)}{t:L2.St}{s2:JZ}{n:Hp}{F:JY}{f:List JY}{E:Nat->Heap->Prop}{J:It}{h:List (Str × JY)}{Q:VK}{RR:YP->JY->Result->JZ->Prop}
  (c1:∀ x c,h.lookup x=some c->X.env.cells.lookup x=some c) (c2:∀ x,(x,Zb)∈scope.names->∃ c,h.lookup x=some c) (c3:∀ x c,h.lookup x=some c->(x,Zb)∈scope.names)
  (I2:Inv X a t n s2) (T:mY X.prog X.w X.K tg J f F E) (U:E 0 s2.heap) (f2:∀ b∈f,hZ X a n b)
  (q:∀ D,n D=none->∃ W:Nat->Nat->L2.St->Hp->Prop,(∃ m,W 0 m (k7 inner t) (aJ n D (.lst [])))/\∀ i m σ' H',W i m σ' H'->
   (J.stop i H'/\Q (.ref D) H') ∨ (J.go i H'/\∀ x H3,J.yld i H' x H3->g x σ' H3 fun σ3 H3=>ti σ3 H3 fun b H4=>if b=true then te σ3 H4 fun y H5=>∃ ys,H5 D=some (.lst ys)/\ys.length<sizeLine/\∃ m',m'<m/\W (i+1) m' σ3 (aJ H5 D (.lst (ys++[y])))else ∃ m',m'<m/\W (i+1) m' σ3 H4))
  (fin:∀(D C:JY) (H':Hp) (s5:JZ) (m:Str->Option YP),s5.heap.Ns C m->Q (.ref D) H'->(∀ h',Zk C s5.heap h'->Inv X a t H' { s5 with heap:=h' })->(H' C=none/\C≠X.env.locals/\X.s₀.heap.objs.size<=C/\(∀ x c,X.env.cells.lookup x=some c->c≠C)/\∀ p∈X.pn++a,p.1≠C)->RR (.ref D) C (.ok .next) s5):
  J1 (J3 X.prog X.w) X.A (newList []) (fun acc s₃=>J1 (J3 X.prog X.w) X.A (newFunctionEnv scope X.env.globals h [] X.env.qual none .none (some X.env)) (fun cenv s₄=>
   Uc (J3 X.prog X.w) X.A (.compStart (.ListComp elt [⟨tg,iter,ifs,0⟩] scope pos) 0 (.ref F) acc { cenv with scope:=relabel scope X.env }) (RR acc cenv.locals) s₄) X.xe s₃) X.xe s2:=by
 refine wpAny_newList ?_;have hD:n s2.heap.objs.size=none:=I2.hok.fresh (Ql _);generalize hs3:({ s2 with heap:=s2.heap.push { cls:=.type "list",data:=.seq ([]:List YP).toArray } }:JZ)=s3
 have I:∀ b o,s2.heap.get? b=some o->s3.heap.get? b=some o:=fun b o e=>by rw [<- hs3];exact Qh _ e
 have G:s3.heap.objs.size=s2.heap.objs.size+1:=by rw [<- hs3];exact YD _ _
 have I3:Inv X a t (aJ n s2.heap.objs.size (.lst [])) s3:=by
  rw [<- hs3];exact I2.laid (t':=s2.toks) (o:=.lst []) (fun b o e=>Qh _ e) (Ql _) ⟨Q9 _,[],0,.nil,Qz _ rfl⟩
 have B:∀ b∈f,b<s2.heap.objs.size:=fun b k=>by
  obtain⟨o,e,_⟩:=T.obj 0 _ U b k;exact Qs e
 have R:∀ b∈f,hZ X a (aJ n s2.heap.objs.size (.lst [])) b:=fun b k=>by
  obtain⟨g0,g1⟩:=f2 b k
  exact⟨by rw [aZ (QB (B b k))];exact g0,g1⟩
 have t3:E 0 s3.heap:=T.keep _ _ _ U fun b _ o e=>I b o e;obtain⟨W,⟨m0,Z⟩,step⟩:=q _ hD;refine wpAny_newFunctionEnv (fun x hx=>CS.nocell x hx) (by intro y hy;simp at hy) (fun l d j=>?_) CS.kind
 try dsimp only at d j ⊢
 have u:∀ b o,s3.heap.get? b=some o->l.get? b=some o:=fun b o e=>j.extBut b o (QB (Qs e)) (Qh _ e)
 have N:l.Ns s3.heap.objs.size fun _=>none:=by
  have:(fun x=>([]:List (Str × YP)).reverse.lookup x)=(fun _=>none:Str->Option YP):=by funext x;rfl
  rw [this]at d;exact d
 generalize hs4:({ s3 with heap:=l,toks:=s3.toks+([]:List (Str × YP)).length }:JZ)=s4
 have I4:Inv (fJ X N' scope h s3.heap.objs.size f s3 (aJ n s2.heap.objs.size (.lst []))) [] (k7 inner t) (aJ n s2.heap.objs.size (.lst [])) s4:=
  P7 CS I3 R c1 c2 c3 (fun b k=>by rw [G];exact Jl (B b k)) rfl u N hs4.symm
 have S:E 0 s4.heap:=by rw [<- hs4];exact T.keep _ _ _ t3 fun b _ o e=>u b o e
 have CL:s3.heap.objs.size≠X.env.locals:=Y9 I3.lt
 have CC:∀ x c,X.env.cells.lookup x=some c->c≠s3.heap.objs.size:=fun x c e=>by
  obtain⟨v,o,z,_⟩:=I3.cell x c e;exact QB (Qs z)
 show Uc (J3 X.prog X.w) X.A (.compStart (.ListComp elt [⟨tg,iter,ifs,0⟩] scope pos) 0 (.ref F) (.ref s2.heap.objs.size) (compEnvC scope h s3.heap.objs.size X.env)) (RR (.ref s2.heap.objs.size) s3.heap.objs.size) s4
 have r:Uc (J3 X.prog X.w) X.A (.compLoop (.ListComp elt [⟨tg,iter,ifs,0⟩] scope pos) 0 (.ref F) (.ref s2.heap.objs.size) (compEnvC scope h s3.heap.objs.size X.env)) (RR (.ref s2.heap.objs.size) s3.heap.objs.size) s4:=by
  have fx:∀{H'':Hp},(∀ b∈f,H'' b=none)->∀ b∈f,hZ (fJ X N' scope h s3.heap.objs.size f s3 (aJ n s2.heap.objs.size (.lst []))) [] H'' b:=fun{H''} z b k=>
   ⟨z b k,(I4.ok.exf b k).1,I4.ok.exfs b k,.inl k,fun x c e=>(I4.ok.exf b k).2 x c e,fun p M=>absurd (show p∈([]:List (JY × Obj))from M) (by simp)⟩
  refine OV (Y:=fJ X N' scope h s3.heap.objs.size f s3 (aJ n s2.heap.objs.size (.lst []))) hc (fun _ _ z=>z) (hg _ _ _ _ _) (ht _ _ _ _ _) (he _ _ _ _ _) T fx I4 S (fun b k=>(R b k).1) Z step fun σ' H' s5 I5 qn=>?_;obtain⟨m5,O,_⟩:=id I5.loc;exact fin _ _ H' s5 m5 O qn (fun h' sb=>P6 I3 R rfl I5 sb) ⟨I5.free,CL,I3.sz,CC,fun p M=>QB (Qs (I3.pin p M).1)⟩
 exact codeAny_compStart_list r (T.self X.A 0 s4 _ _ S r)
theorem TC(t:X.calm=true)(CS:o6 X N' scope inner)(p:PI X tg iter wi)(r:∀ cl C fp s H,PG (fJ X N' scope cl C fp s H) tg g)(k:∀ cl C fp s H,pI (fJ X N' scope cl C fp s H) ifs ti)(he:∀ cl C fp s H,PE (fJ X N' scope cl C fp s H) elt te)
  (hs:∀ x,ZD iter X.env x=pure x:=by intro _;rfl):PE X (.ListComp elt [⟨tg,iter,ifs,0⟩] scope pos) (Dl wi g ti te inner):=by
 intro a s d H Q I h;obtain⟨cl,b,G,F,E⟩:=D6 (env:=X.env) (scope:=scope) fun x j o=>I.ok.has x.1 (CS.free x j o).2;rw [eval_ListComp];refine wpAny_comprehension_free (use:=none) rfl hs b CS.kind CS.loc (bC (p a s d H _ I h) fun N U y=>bC y fun i S v=>?_);obtain⟨W,fp,O,J,Y,rfl,K,T,e,B,q⟩:=v;refine uH (RR:=fun c C=>compPost (J3 X.prog X.w) X.A X.xe none (EP X a d Q) c C) t CS r k he G F E K T e B q ?_;intro D C M R m n l u _
 exact⟨m,n,fun z f=>⟨.ref D,M,u z f,rfl,l⟩⟩
theorem U4{i:Nat}{y:Str}{f d:Pos}(hN:X.N.Nodup)(hc:X.calm=true)(CS:o6 X N' scope inner)(hi:PI X tg iter wi)(hg:∀ cl C fp s H,PG (fJ X N' scope cl C fp s H) tg g)(ht:∀ cl C fp s H,pI (fJ X N' scope cl C fp s H) ifs ti)(he:∀ cl C fp s H,PE (fJ X N' scope cl C fp s H) elt te)
  (r:Zw (.ListComp elt [⟨tg,iter,ifs,0⟩] scope pos) (some (.Name y f)) d.line X.env=pure true:=by rfl) (hy:X.N[i]?=some y:=by rfl) (p:Loc X.env.scope y:=by first | exact Zl rfl | exact Zf rfl) (hf:X.fn y=true ∨ X.env.scope.names.lookup y=some .local:=by first | exact .inl rfl | exact .inr rfl | assumption)
  (hs:∀ x,ZD iter X.env x=pure x:=by intro _;rfl):PS X (.Assign [.Name y f] (.ListComp elt [⟨tg,iter,ifs,0⟩] scope pos) d) (Ew (Dl wi g ti te inner) (yF i)):=by
 intro c s E H D I h;obtain⟨cl,u,c1,c2,c3⟩:=D6 (env:=X.env) (scope:=scope) fun x p hk=>I.ok.has x.1 (CS.free x p hk).2;rw [exec_Assign_Name_used _ _ _ _ r];refine Qa (wpAny_standAt (Qa ?_))
 show J1 _ X.A (do let _ <- comprehension (.ListComp elt [⟨tg,iter,ifs,0⟩] scope pos) scope X.env _ (newList []) false (Zh iter X.env) (some (assign (.Name y f) X.env))) _ _ s
 refine Qa (Y6 (wpAny_comprehension_free (use:=some (assign (.Name y f) X.env)) (Q:=fun _ k=>SP X c D .next k) rfl hs u CS.kind CS.loc
  (bC (hi c s E H _ I h) fun xv s1 h1=>bC h1 fun a0 s2 h2=>?_)) (fun _ k t=>Qb (Qb t)) fun _ _ e=>e)
 obtain⟨it,fp,tn,J,H2,rfl,I2,T,R,f2,q⟩:=h2;refine uH (Q:=fun v B=>yF i v E B D.nx) (RR:=fun z C=>compPost (J3 X.prog X.w) X.A X.xe (some (assign (.Name y f) X.env)) (fun _ k=>SP X c D .next k) z C) hc CS hg ht he c1 c2 c3 I2 T R f2 q ?_;intro l C B W m hm t hI hC;obtain⟨O,G,M,F,K⟩:=hC
 show J1 _ X.A (assign (.Name y f) X.env (.ref l)) _ _ _
 have I5:=hI W.heap (Uq ..);refine wpAny_assign_Name (Ll (v:=.ref l) I5 hN hy p (show L2.RelV (.ref l) (J4 l)from rfl) (fun U I6 k6=>?_) hf);obtain⟨a,S,j⟩:=k6
 have Z:C≠a:=by
  rcases j with j | j
  ·rw [j];exact G
  ·exact(F y a j).symm
 refine⟨m,hm.sameBut S Z,fun h' n=>⟨_,B,?_,t⟩⟩
 exact I6.turned (t':=U.toks) (fun b o Y e=>by rw [n.2 b Y];exact e) O G (.inr M) F K
end
end CL
namespace DL
open PySem PySem.Spec PySem.SeqAt PyProof.Rows L2 CL
def lK(inner:List (Option Nat))(ρ:aA):aA:=inner.map fun o=>match o with
 | some j=>match ρ[j]? with
  | some (.dat d)=>.dat d
  | _=>.no
 | none=>.no
def nK(s:D->aA->Option aA)(t:aA->Option Bool)(ge:aA->Option D):List D->aA->Option (List D)
 | [],_=>some []
 | d::ds,ρ=>(s d ρ).bind fun a=>(t a).bind fun b=>if b=true then(ge a).bind fun y=>(nK s t ge ds a).bind fun r=>some (y::r)else nK s t ge ds a
def fW(gi:aA->Option (List D))(s:D->aA->Option aA)(t:aA->Option Bool)(ge:aA->Option D)(inner:List (Option Nat)):aA->Option (List D):=
 fun b=>(gi b).bind fun c=>(nK s t ge c (lK inner b)).bind fun a=>if a.length<=1000 then some a else none
def fQ(g:aA->Option (List D)):aA->Option D:=fun b=>(g b).bind fun a=>some (.list a)
def eT:aA->Option Bool:=fun _=>some true
def Mj:Sl->Bool
 | .own _ | .ownD _ | .ownM _=>true
 | _=>false
def mJ(ρ:aA):Prop:=∀(i:Nat) (s:Sl),Mj s=true->ρ[i]?≠some s
def rN(s:D->aA->Option aA):Prop:=∀ d ρ ρ',mJ ρ->s d ρ=some ρ'->mJ ρ'
def wH(s:List D->aA->Option aA):Prop:=∀ ds ρ ρ',mJ ρ->s ds ρ=some ρ'->mJ ρ'
theorem T7{ρ:aA}{i:Nat}{d:D}(h:mJ ρ):mJ (ρ.set i (.dat d)):=fun j b a e=>by
 by_cases c:i=j
 ·subst c;by_cases l:i<ρ.length
  ·rw [Qy l]at e;cases e;cases a
  ·rw [YU (by simpa using YW l)]at e;cases e
 ·rw [Qr c]at e;exact h j b a e
theorem iI(i:Nat):rN (cW i):=fun d b a h e=>by cases e;exact T7 h
theorem HG:wH nE:=fun b c a h e=>by
 cases b with
 | nil=>cases e;exact h
 | cons _ _=>cases e
theorem yK{g:D->aA->Option aA}{f:List D->aA->Option aA}(k:rN g)(j:wH f):wH (iO g f):=fun c i b h e=>by
 cases c with
 | nil=>cases e
 | cons d c=>
  obtain⟨a,l,e⟩:=aG e;exact j c a b (k d i a h l) e
theorem HH{n:Nat}{s:List D->aA->Option aA}(g:wH s):rN (nG n s):=fun d f ρ' h e=>by
 cases d with
 | tuple b=>
  have a:(if b.length=n then s b f else none)=some ρ':=e;by_cases c:b.length=n
  ·rw [if_pos c]at a;exact g b f ρ' h a
  ·rw [if_neg c]at a;cases a
 | _=>cases e
theorem CY(inner:List (Option Nat))(ρ:aA):mJ (lK inner ρ):=fun i ds a e=>by
 unfold lK at e;rw [QF]at e
 cases q:inner[i]? with
 | none=>rw [q]at e;cases e
 | some o=>
  rw [q]at e
  cases o with
  | none=>cases e;cases a
  | some j=>
   have b:(match ρ[j]? with | some (.dat d)=>Sl.dat d | _=>Sl.no)=ds:=QC e
   split at b <;> (subst b;cases a)
theorem Wa{K:PySem.W.Frag}{F:JY->Prop}{H:Hp}{p:JY}{vs us:List V}(c:H p=some (.lst vs))(d:¬ F p):bN K F F H (aJ H p (.lst us)):=
 ⟨fun _ h=>h,fun a e h=>by
  rcases h with(h | ⟨o,h⟩) | h
  ·exact .inl (.inl (by rw [aZ (by intro z;subst z;rw [c]at h;cases h)];exact h))
  ·exact .inl (.inr ⟨o,by rw [aZ (by intro z;subst z;rw [c]at h;cases h)];exact h⟩)
  ·exact .inr h,fun a e f h=>by
  have b:a≠p:=fun z=>d (by rw [<- z];exact f);rcases h with h | ⟨o,h⟩
  ·exact .inl (by rw [aZ b];exact h)
  ·exact .inr ⟨o,by rw [aZ b];exact h⟩,fun a g f h=>by rw [aZ (fun z=>d (by rw [<- z];exact f))];exact h⟩
theorem bH.plain{K:PySem.W.Frag}{F g:JY->Prop}{H f H₀ b:Hp}{k:L2.St}{ρ:aA}(S:bH K F H H₀ k ρ)(pl:mJ ρ)(T:bN K F g H f)(z:∀ a,g a->f a≠none):bH K g f b k ρ:=
 ⟨S.len,fun i s h=>by
  obtain⟨o,q,w⟩:=S.sl i s h
  refine⟨o,q,?_⟩
  cases s with
  | no=>trivial
  | ownD c=>exact absurd h (pl i _ rfl)
  | ownM c=>exact absurd h (pl i _ rfl)
  | dat d=>obtain⟨v,e,r⟩:=w;exact⟨v,e,r.stay T⟩
  | own m=>exact absurd h (pl i _ rfl),fun i j a m n _ l=>absurd l (pl i _ rfl),z⟩
theorem bH.inner{K:PySem.W.Frag}{F:JY->Prop}{H H₀:Hp}{c:L2.St}{ρ:aA}(S:bH K F H H₀ c ρ)(inner:List (Option Nat)):bH K F H H₀ (k7 inner c) (lK inner ρ):=
 ⟨by simp [k7,lK],fun i s h=>by
  unfold lK at h;unfold k7;rw [QF]at h ⊢
  cases q:inner[i]? with
  | none=>rw [q]at h;cases h
  | some o=>
   rw [q]at h
   cases o with
   | none=>cases h;exact⟨none,rfl,trivial⟩
   | some j=>
    have b:(match ρ[j]? with | some (.dat d)=>Sl.dat d | _=>Sl.no)=s:=QC h
    split at b
    ·rename_i d e;cases b;obtain⟨v,g,r⟩:=S.dat e
     exact⟨some v,by simp [g],v,rfl,r⟩
    ·cases b
     exact⟨_,rfl,trivial⟩,fun i j a l k _ f=>absurd f (CY inner ρ i _ rfl),S.fz⟩
def u7(X:Cx)(a:List Expr)(t:aA->Option Bool):Prop:=pI X a (oK X.K t)
theorem rX{X:Cx}:u7 X [] eT:=fun a s e H Q I d=>by
 obtain⟨F,c,f,b,S,q,k⟩:=d;cases q;exact wpAny_tests_nil ⟨H,I,k F H (aN.refl F H)⟩
theorem rY{X:Cx}{c:Expr}{t:aA->Option Bool}(h:DT X c t):u7 X [c] t:=To h
section
variable {X:Cx}{elt tg iter:Expr}{ifs:List Expr}{scope:ZX}{pos:Pos}{N':List Str}{inner:List (Option Nat)}{gi:aA->Option (List D)}{s:D->aA->Option aA}{t:aA->Option Bool}{ge:aA->Option D}
structure Lu(X:Cx)(s:D->aA->Option aA)(t:aA->Option Bool)(ge:aA->Option D)(xs out:List D)(F1:JY->Prop)(H1:Hp)(D':JY)(i m:Nat)(σ':L2.St)(H':Hp)(F2:JY->Prop)(ρ2:aA)(vs:List V)(don rst:List D):Prop where
 em:m=xs.length-i
 hi:i<=xs.length
 E:aN F1 F2 H1 H'
 T:bN X.K F1 F2 H1 H'
 S:bH X.K F2 H' H1 σ' ρ2
 pl:mJ ρ2
 dD:H' D'=some (.lst vs)
 nf:¬ F2 D'
 rd:Reps X.K F2 H' don vs
 ec:nK s t ge (xs.drop i) ρ2=some rst
 eo:don++rst=out
 kp:∀ b o,b≠D'->H1 b=some o->H' b=some o
theorem Gk(kp:rN s){R:L2.St}{H:Hp}{Q:VK}{F:JY->Prop}{H₀:Hp}{ρ:aA}{out:List D}(S:bH X.K F H H₀ R ρ)(q:fW gi s t ge inner ρ=some out)
  (fin:∀ F' H' D' vs,aN F F' H H'->bN X.K F F' H H'->H D'=none->H' D'=some (.lst vs)->¬ F' D'->Reps X.K F' H' out vs->bH X.K F' H' H₀ R ρ->Q (.ref D') H'):
  Dl (Ey X.K gi) (vW X.K s) (oK X.K t) (tD X.K ge) inner R H Q:=by
 obtain⟨g,e1,q⟩:=aG q;obtain⟨u,e2,q⟩:=aG q;by_cases hl:u.length<=1000
 ·rw [if_pos hl]at q;cases q
  refine⟨F,H₀,ρ,g,S,e1,fun M n J E1 I1 D' N=>?_⟩
  have S1:=S.ext E1
  refine⟨fun i m r H'=>∃ I j vs h k,Lu X s t ge g out M n D' i m r H' I j vs h k,?_,?_⟩
  ·have E2:aN M M n (aJ n D' (.lst [])):=aN.fresh N
   refine⟨g.length,M,lK inner ρ,[],[],out,rfl,Q9 _,E2,E2.stay,?_,CY inner ρ,cS,fun f=>S1.fz _ f N,.nil,e2,rfl,fun b o p e=>by rw [aZ p];exact e⟩
   exact(S1.inner inner).plain (CY inner ρ) E2.stay (E2.fz S1.fz)
  ·rintro i m r H' ⟨I,j,vs,h,k,rfl,hi,E2,T2,S2,pl,E,Y,rd,a,B,w⟩;obtain⟨a0,Z⟩:=I1 I H' T2 S2.fz i;by_cases d:i<g.length
   ·right
    have z:g[i]?=some g[i]:=by simp [d]
    obtain⟨go,U⟩:=a0 _ z;rw [Yn d]at a;obtain⟨c,e3,a⟩:=aG a;obtain⟨b,e4,a⟩:=aG a
    refine⟨go,fun x H3 y=>?_⟩
    obtain⟨F3,E3,R3⟩:=U x H3 y;have l:=kp _ _ _ pl e3
    refine⟨F3,n,j,g[i],c,S2.ext E3,R3,e3,fun a2 S5=>⟨F3,n,c,b,S5,e4,fun F6 H6 E6=>?_⟩⟩
    have S6:=S5.ext E6;have E36:=E3.trans E6;have d6:H6 D'=some (.lst vs):=E36.same _ _ E
    have W:¬ F6 D':=fun f=>by
     rcases E36.new _ f with f | ⟨f,_⟩
     ·exact Y f
     ·rw [E]at f;cases f
    cases b with
    | false=>
     simp only [Qj,if_false]at a ⊢
     exact⟨g.length-(i+1),by lia,F6,c,vs,h,k,rfl,d,E2.trans E36,T2.trans E36.stay,S6,l,d6,W,rd.stay E36.stay,a,B,fun b o p e=>E36.same _ _ (w b o p e)⟩
    | true=>
     simp only [if_true]at a ⊢;obtain⟨yd,e5,a⟩:=aG a;obtain⟨r',e6,a⟩:=aG a;cases a
     refine⟨F6,n,c,yd,S6,e5,fun G O T E7 R7=>?_⟩
     have E37:=E36.trans E7;have d7:O D'=some (.lst vs):=E37.same _ _ E
     have v:¬ G D':=fun f=>by
      rcases E37.new _ f with f | ⟨f,_⟩
      ·exact Y f
      ·rw [E]at f;cases f
     have T8:bN X.K G G O (aJ O D' (.lst (vs++[T]))):=Wa d7 v;have S7:=S6.ext E7;have E8:aN M G n (aJ O D' (.lst (vs++[T]))):=(E2.trans E37).turn N
     have ll:vs.length<1000:=by
      have h1:=rd.length;have h2:=congrArg List.length B;rw [Qd,Qt]at h2;lia
     refine⟨vs,d7,tZ (Y2 ll),g.length-(i+1),by lia,G,c,vs++[T],h++[yd],r',rfl,d,E8,(T2.trans E37.stay).trans T8,S7.plain l T8 (E8.fz S1.fz),l,cS,v,?_,e6,by rw [QG];exact B,fun b o p e=>?_⟩
     ·exact((rd.stay E37.stay).append (.cons R7 .nil)).stay T8
     ·rw [aZ p];exact E37.same _ _ (w b o p e)
   ·left
    have A:g.length<=i:=YW d
    refine⟨Z A,?_⟩
    rw [Jb A]at a;cases a;rw [QR]at B;subst B;have hH:H D'=none:=E1.same.free N;have EE:aN F I H H':=E1.trans E2;exact fin I H' D' vs EE (E1.stay.trans T2) hH E Y rd (S.ext EE)
 ·rw [if_neg hl]at q;cases q
theorem nO(n:X.calm=true)(y:o6 X N' scope inner)(i:rN s)(l:DI X tg iter gi)(m:∀ cl C fp s' H,DG (fJ X N' scope cl C fp s' H) tg s)(j:∀ cl C fp s' H,u7 (fJ X N' scope cl C fp s' H) ifs t)(he:∀ cl C fp s' H,DE (fJ X N' scope cl C fp s' H) elt ge)
  (hs:∀ x,ZD iter X.env x=pure x:=by intro _;rfl):DE X (.ListComp elt [⟨tg,iter,ifs,0⟩] scope pos) (fQ (fW gi s t ge inner)):=
 cY (TC (g:=vW X.K s) (ti:=oK X.K t) (te:=tD X.K ge) n y l (fun cl C fp s' H=>m cl C fp s' H) (fun cl C fp s' H=>j cl C fp s' H) (fun cl C fp s' H=>he cl C fp s' H) hs) fun z H Q e=>by
  obtain⟨F,c,A,d,S,q,k⟩:=e;obtain⟨h,r,q⟩:=aG q;cases q;refine Gk i S r fun v u w B E' G p b E o h5=>?_;refine k (fun a=>v a ∨ a=w) u _ ⟨E'.same,fun a f=>.inl (E'.up a f),fun a f=>?_⟩ (.lst (.inl ⟨.inr rfl,.inl b⟩) (o.stay ⟨fun _ f=>.inl f,fun _ _ f=>f,fun _ _ _ f=>f,fun _ _ _ f=>f⟩));rcases f with f | rfl
  ·exact E'.new a f
  ·exact .inr ⟨p,by rw [b];simp⟩
theorem x6{i:Nat}{y:Str}{h b:Pos}(O:X.N.Nodup)(M:X.calm=true)(Y:o6 X N' scope inner)(w:rN s)(G:DI X tg iter gi)(I:∀ cl C fp s' H,DG (fJ X N' scope cl C fp s' H) tg s)(B:∀ cl C fp s' H,u7 (fJ X N' scope cl C fp s' H) ifs t)(he:∀ cl C fp s' H,DE (fJ X N' scope cl C fp s' H) elt ge)
  (c:Zw (.ListComp elt [⟨tg,iter,ifs,0⟩] scope pos) (some (.Name y h)) b.line X.env=pure true:=by rfl) (z:X.N[i]?=some y:=by rfl) (A:L2.Loc X.env.scope y:=by first | exact Zl rfl | exact Zf rfl) (J:X.fn y=true ∨ X.env.scope.names.lookup y=some .local:=by first | exact .inl rfl | exact .inr rfl | assumption)
  (hs:∀ x,ZD iter X.env x=pure x:=by intro _;rfl):DS X (.Assign [.Name y h] (.ListComp elt [⟨tg,iter,ifs,0⟩] scope pos) b) (c5 i (fQ (fW gi s t ge inner))):=
 ps_mono (U4 (g:=vW X.K s) (ti:=oK X.K t) (te:=tD X.K ge) O M Y G (fun cl C fp s' H=>I cl C fp s' H) (fun cl C fp s' H=>B cl C fp s' H) (fun cl C fp s' H=>he cl C fp s' H) c z A J hs) fun W Z H u=>by
  obtain⟨n,m,F,ρ,o,E,S,q,k⟩:=u;obtain⟨d,U,q⟩:=aG q;cases q;obtain⟨v,T,q⟩:=aG U;cases q;refine Gk w S T fun e H' r vs E' T' R j h3 Q h5=>?_;have l:bN X.K e (fun a=>e a ∨ a=r) H' H':=⟨fun _ f=>.inl f,fun _ _ f=>f,fun _ _ _ f=>f,fun _ _ _ f=>f⟩
  have p:aN F (fun a=>e a ∨ a=r) H H':=⟨E'.same,fun a f=>.inl (E'.up a f),fun a f=>by
   rcases f with f | rfl
   ·exact E'.new a f
   ·exact .inr ⟨R,by rw [j];simp⟩⟩
  exact k _ H' _ (E.trans p) (T'.trans l) ((S.ext p).put (.lst (.inl ⟨.inr rfl,.inl j⟩) (Q.stay l)))
end
end DL
namespace SD
open PySem PySem.Spec PySem.SeqAt PyProof.Rows L2 DL SG
theorem qI:∀ a:List Int,HT.lexLt a a=false
 | []=>rfl
 | x::xs=>by rw [HT.lexLt_cons,if_pos rfl];exact qI xs
theorem yN:∀ a b c:List Int,HT.lexLt a b=true->HT.lexLt b c=true->HT.lexLt a c=true
 | [],b,[],h1,h2=>by cases b with | nil=>cases h1 | cons _ _=>cases h2
 | [],_,_::_,_,_=>rfl
 | _::_,[],_,h1,_=>by cases h1
 | _::_,_::_,[],_,h2=>by cases h2
 | x::xs,y::ys,z::zs,h1,h2=>by
  rw [HT.lexLt_cons]at h1 h2 ⊢;by_cases e:x=y
  ·subst e;rw [if_pos rfl]at h1;by_cases d:x=z
   ·subst d;rw [if_pos rfl]at h2 ⊢;exact yN xs ys zs h1 h2
   ·rw [if_neg d]at h2 ⊢;exact h2
  ·rw [if_neg e]at h1;have f:x<y:=of_decide_eq_true h1;by_cases d:y=z
   ·subst d;rw [if_neg e];exact decide_eq_true f
   ·rw [if_neg d]at h2;have g:y<z:=of_decide_eq_true h2;rw [if_neg (by lia)];exact decide_eq_true (by lia)
theorem u0:∀ a b:List Int,HT.lexLt a b=false->HT.lexLt b a=false->a=b
 | [],[],_,_=>rfl
 | [],_::_,h1,_=>by cases h1
 | _::_,[],_,h2=>by cases h2
 | x::xs,y::ys,h1,h2=>by
  rw [HT.lexLt_cons]at h1 h2;by_cases c:x=y
  ·subst c;rw [if_pos rfl]at h1 h2;rw [u0 xs ys h1 h2]
  ·rw [if_neg c]at h1;rw [if_neg (Z2 c)]at h2;have e:¬ x<y:=of_decide_eq_false h1;have d:¬ y<x:=of_decide_eq_false h2;lia
theorem GW(a b c:List Int)(h:HT.lexLt a c=true):HT.lexLt a b=true ∨ HT.lexLt b c=true:=by
 cases e:HT.lexLt a b with
 | true=>exact .inl rfl
 | false=>
  right
  cases d:HT.lexLt b a with
  | false=>rw [<- u0 a b e d];exact h
  | true=>exact yN b a c d h
theorem B5:∀(a b c d:List Int),a.length=b.length->HT.lexLt (a++c) (b++d)=if a=b then HT.lexLt c d else HT.lexLt a b
 | [],[],c,d,_=>by simp
 | [],_::_,_,_,h=>by simp at h
 | _::_,[],_,_,h=>by simp at h
 | x::xs,y::ys,c,d,h=>by
  rw [YY,YY,HT.lexLt_cons];have f:=B5 xs ys c d (by simpa using h);by_cases e:x=y
  ·subst e;rw [if_pos rfl,f,HT.lexLt_cons,if_pos rfl];simp
  ·rw [if_neg e,if_neg (by simp [e]),HT.lexLt_cons,if_neg e]
def sL(a:List (YP × List Int)):PyProof.Rows.KeyKind where
 α:=List Int
 blt:=HT.lexLt
 irrefl:=qI
 trans:=yN
 negTrans:=GW
 total:=u0
 keyOf:=fun v=>a.lookup v
 dflt:=[]
def jM:D->D->Bool
 | .int _,.int _=>true
 | .tuple xs,.tuple ys=>decide (xs.length=ys.length)
 | _,_=>false
def iJ:List D->List D->Bool
 | [],[]=>true
 | x::xs,y::ys=>jM x y && iJ xs ys
 | _,_=>false
def o7:D->Option (List Int)
 | .int i=>some [i]
 | .tuple a=>eF a
 | _=>none
def jK:List D->Option (List Int)
 | []=>some []
 | d::ds=>(o7 d).bind fun a=>(jK ds).bind fun b=>some (a++b)
theorem S0{d x y:D}(c:jM d x=true)(e:jM d y=true):jM x y=true:=by
 cases d with
 | int i=>
  cases x with
  | int _=>cases y with
   | int _=>rfl
   | _=>cases e
  | _=>cases c
 | tuple f=>
  cases x with
  | tuple h=>cases y with
   | tuple g=>
    have a:f.length=h.length:=of_decide_eq_true c;have b:f.length=g.length:=of_decide_eq_true e;exact decide_eq_true (a.symm.trans b)
   | _=>cases e
  | _=>cases c
 | _=>cases x <;> cases c
theorem yQ:∀{d x y:List D},iJ d x=true->iJ d y=true->iJ x y=true
 | [],[],[],_,_=>rfl
 | [],[],_::_,_,h=>by cases h
 | [],_::_,_,h,_=>by cases h
 | _::_,[],_,h,_=>by cases h
 | _::_,_::_,[],_,h=>by cases h
 | d::ds,x::xs,y::ys,h1,h2=>by
  have a:=QM.mp h1;have b:=QM.mp h2;exact QM.mpr ⟨S0 a.1 b.1,yQ a.2 b.2⟩
theorem Hy:∀{xs ys:List D}{a b:List Int},eF xs=some a->eF ys=some b->PyData.eqvAll xs ys=decide (a=b)
 | [],[],_,_,e,d=>by cases e;cases d;rfl
 | [],.int _::_,_,_,e,d=>by
  cases e;obtain⟨_,_,d⟩:=aG d;cases d
  simp [PyData.eqvAll]
 | .int _::_,[],_,_,e,d=>by
  cases d;obtain⟨_,_,e⟩:=aG e;cases e
  simp [PyData.eqvAll]
 | .int i::xs,.int j::ys,_,_,e,d=>by
  obtain⟨a,g,e⟩:=aG e;obtain⟨b,f,d⟩:=aG d
  cases e;cases d
  rw [PyData.eqvAll,Hy g f]
  simp [ZS]
  by_cases c:i=j <;> simp [c]
 | .none::_,_,_,_,e,_=>by cases e
 | .bool _::_,_,_,_,e,_=>by cases e
 | .str _::_,_,_,_,e,_=>by cases e
 | .list _::_,_,_,_,e,_=>by cases e
 | .tuple _::_,_,_,_,e,_=>by cases e
 | .dict _::_,_,_,_,e,_=>by cases e
 | _,.none::_,_,_,_,d=>by cases d
 | _,.bool _::_,_,_,_,d=>by cases d
 | _,.str _::_,_,_,_,d=>by cases d
 | _,.list _::_,_,_,_,d=>by cases d
 | _,.tuple _::_,_,_,_,d=>by cases d
 | _,.dict _::_,_,_,_,d=>by cases d
theorem nP:∀{xs:List D}{a:List Int},eF xs=some a->Zt xs=true/\Zx xs=0/\xs.length=a.length/\xs=a.map J9
 | [],_,h=>by cases h;exact⟨rfl,rfl,rfl,rfl⟩
 | .int i::xs,_,h=>by
  obtain⟨a,e,h⟩:=aG h;cases h;obtain⟨f,d,c,b⟩:=nP e
  exact⟨by simp [Zt,Ur,f],by simp [Zx,PyData.depth,d],by simp [c],by rw [b];rfl⟩
 | .none::_,_,h=>by cases h
 | .bool _::_,_,h=>by cases h
 | .str _::_,_,h=>by cases h
 | .list _::_,_,h=>by cases h
 | .tuple _::_,_,h=>by cases h
 | .dict _::_,_,h=>by cases h
theorem BU{h:Heap}:∀{xs:List D}{a:List Int}{us:List YP}{as:List JY},eF xs=some a->ReadsAll h us xs as->ZW us a
 | [],_,_,_,e,r=>by cases e;cases r;exact .nil
 | .int i::xs,_,_,_,e,r=>by
  obtain⟨a,d,e⟩:=aG e;cases e
  cases r with
  | cons c b=>
   cases c;exact .cons i _ (BU d b)
 | .none::_,_,_,_,h,_=>by cases h
 | .bool _::_,_,_,_,h,_=>by cases h
 | .str _::_,_,_,_,h,_=>by cases h
 | .list _::_,_,_,_,h,_=>by cases h
 | .tuple _::_,_,_,_,h,_=>by cases h
 | .dict _::_,_,_,_,h,_=>by cases h
section
variable {prog:J2}{w:J5}{A:Around}{E:YP->JZ->Prop}{s:JZ}
theorem FO{x y:D}{a b:List Int}(l:jM x y=true)(g:o7 x=some a)(f:o7 y=some b):a.length=b.length:=by
 cases x with
 | int i=>cases y with
  | int j=>cases g;cases f;rfl
  | _=>cases l
 | tuple d=>cases y with
  | tuple c=>
   have e:d.length=c.length:=of_decide_eq_true l;rw [<- (nP (show eF d=some a from g)).2.2.1,<- (nP (show eF c=some b from f)).2.2.1,e]
  | _=>cases l
 | _=>cases y <;> cases l
theorem LW{x y:D}{p q:YP}{a b:List Int}{r bs:List JY}(E:A.units+64<Zc)(h:Reads s.heap p x r)(g:Reads s.heap q y bs)(l:jM x y=true)(m:o7 x=some a)(k:o7 y=some b):EqAt A s p q (decide (a=b)):=by
 cases x with
 | int i=>cases y with
  | int j=>
   cases m;cases k
   cases h with
   | int _ t=>cases g with
    | int _ u=>
     have:=EqAt.int_int (A:=A) (s:=s) i t j u
     have e:(i == j)=decide ([i]=[j]):=by
      by_cases c:i=j
      ·subst c;simp
      ·simp [c]
     rw [<- e];exact this
  | _=>cases l
 | tuple f=>cases y with
  | tuple d=>
   have o:eF f=some a:=m;have n:eF d=some b:=k;obtain⟨B,w,_,_⟩:=nP o;obtain⟨z,v,_,_⟩:=nP n
   have:=eqAt_reads (.tuple f) (.tuple d) A s p q r bs h g B z (by show A.units+min (Zx f+1) (Zx d+1)<Zc;rw [w,v];lia)
   have e:ZS (.tuple f) (.tuple d)=decide (a=b):=by rw [ZS];exact Hy o n
   rw [e]at this;exact this
  | _=>cases l
 | _=>cases y <;> cases l
theorem Kr{b:Bool}{Q:Bool->JZ->Prop}(h:Q b s):J1 (J3 prog w) A (truthOfDropped (.bool b)) Q E s:=by
 unfold truthOfDropped;exact YN h
theorem LX{x y:D}{p q:YP}{a b:List Int}{N bs:List JY}{f:Bool}{Q:Bool->JZ->Prop}(O:A.units+64<Zc)(d:Reads s.heap p x N)(c:Reads s.heap q y bs)(l:jM x y=true)(h:o7 x=some a)(g:o7 y=some b)
  (t:f=true->∃ i,x=.int i) (k:Q (HT.lexLt a b) s) (o:a≠b):J1 (J3 prog w) A (oneLt' f p q) Q E s:=by
 cases x with
 | int i=>cases y with
  | int j=>
   cases h;cases g;cases d;cases c
   have e:HT.lexLt [i] [j]=decide (i<j):=by
    rw [HT.lexLt_cons,if_neg (by intro z;exact o (by rw [z]))]
   rw [e]at k
   cases f with
   | true=>exact oneLt_int k
   | false=>
    rw [oneLt'_eq];simp only [Qj,if_false];refine Qa (HT.rcLt_int A s i _ j _ prog w E _ (Kr k))
  | _=>cases l
 | tuple n=>
  cases f with
  | true=>obtain⟨i,r⟩:=t rfl;cases r
  | false=>cases y with
   | tuple m=>
    have M:eF n=some a:=h;have K:eF m=some b:=g
    cases d with
    | tuple F B v u=>cases c with
     | tuple J I H G=>
      rw [oneLt'_eq];simp only [Qj,if_false];exact Qa (HT.lt_tupInts ⟨_,F,B,_,v⟩ ⟨_,J,I,_,H⟩ (BU M u) (BU K G) (by lia) (Kr k))
   | _=>cases l
 | _=>cases y <;> cases l
theorem Iy{b:Bool}{fin:Bool}{Q:Bool->JZ->Prop}(k:A.units+64<Zc):∀{xs ys:List D}{a c:List Int}{us vs:List YP}{as bs:List JY} (i:Nat),iJ xs ys=true->jK xs=some a->jK ys=some c->ReadsAll s.heap us xs as->ReadsAll s.heap vs ys bs->
  (b=true->i=0->∀ x r,xs=x::r->∃ n,x=.int n)->(a=c->Q fin s)->(a≠c->Q (HT.lexLt a c) s)->PySem.W.KatLex prog w A b fin Q (us.zip vs) i s
 | [],[],_,_,_,_,_,_,i,_,g,f,r1,r2,_,k1,k2=>by
  cases g;cases f;cases r1;cases r2
  exact PySem.W.kat_nil (k1 rfl)
 | [],_::_,_,_,_,_,_,_,_,l,_,_,_,_,_,_,_=>by cases l
 | _::_,[],_,_,_,_,_,_,_,l,_,_,_,_,_,_,_=>by cases l
 | x::xs,y::ys,_,_,_,_,_,_,i,l,g,f,r1,r2,hb,k1,k2=>by
  obtain⟨a1,o,g⟩:=aG g;obtain⟨K,J,g⟩:=aG g;cases g;obtain⟨t,m,f⟩:=aG f;obtain⟨c2,I,f⟩:=aG f;cases f;obtain⟨j,E⟩:=QM.mp l;have d:=FO j o m
  cases r1 with
  | cons q v=>cases r2 with
   | cons p u=>
    rw [JB];refine PySem.W.kat_cons (LW k q p j o m prog w _ _ ?_);by_cases c:a1=t
    ·rw [decide_eq_true c];subst c;refine PySem.W.kat_yes (Iy k (i+1) E J I v u (fun _ h=>by lia) (fun e=>k1 (by rw [e])) fun e=>?_)
     have:=k2 (fun z=>e (List.append_cancel_left z))
     rw [B5 _ _ _ _ rfl,if_pos rfl]at this;exact this
    ·rw [decide_eq_false c];refine PySem.W.kat_no (LX k q p j o m (fun F=>?_) ?_ c)
     ·obtain⟨H,G⟩:=QM.mp F;exact hb H (by simpa using G) x xs rfl
     ·have B:a1++K≠t++c2:=fun z=>c (List.append_inj_left z d)
      have:=k2 B
      rw [B5 _ _ _ _ d,if_neg c]at this;exact this
theorem B7{a:Type}{f:YP->Sem a}{g:YP->a}:∀{vs:List YP}{Q:List a->JZ->Prop},(∀ v∈vs,∀(R:a->JZ->Prop),R (g v) s->J1 (J3 prog w) A (f v) R E s)->Q (vs.map g) s->J1 (J3 prog w) A (vs.mapM f) Q E s
 | [],_,_,k=>by rw [List.mapM_nil];exact Qb k
 | v::vs,Q,h,k=>by
  rw [List.mapM_cons];refine Qa (h v Qo _ (Qa (B7 (fun u b=>h u (Qf _ b)) (Qb k))))
def isInt:D->Bool
 | .int _=>true
 | _=>false
def j6(h:Heap):YP->Option YP
 | .ref a=>match h.get? a with
  | some o=>match o.data with
   | .seq b _=>b[0]?
   | _=>none
  | none=>none
 | _=>none
def p6:YP->YP
 | .ref _=>.type "tuple"
 | _=>.type "int"
theorem RI(v:YP):firstOfTuple' v=(typeOf v >>= fun t=>if(t != .type "tuple")=true then pure none else Builtin.List.listItems v >>= fun xs=>pure xs[0]?):=by
 unfold firstOfTuple';rfl
theorem PQ{vs:List YP}{m:Bool}{d:D}(N:isInt d=m)(O:∀ v∈vs,∃ x xs as,Reads s.heap v (.tuple (x::xs)) as/\jM d x=true)(K:vs≠[]):
  J1 (J3 prog w) A (keyKind' vs.toArray) (fun q s'=>q=tuples' m/\s'=s) E s:=by
 rw [keyKind'_eq,List.mapM_toArray,map_eq_pure_bind];refine Qa (Qa (B7 (g:=fun v=>j6 s.heap v) (fun v c R B=>?_) (Qb ?_)))
 ·obtain⟨x,xs,as,r,_⟩:=O v c
  cases r with
  | @tuple a o us n _ _ f I F H=>
   rw [RI];refine Qa (Ja (T:="tuple") ⟨o,f,I⟩ ?_)
   have e:(ZH "tuple" != ZH "tuple")=false:=by simp
   rw [if_neg (by rw [e];simp)];refine Qa (listItems_at f F (Qb ?_))
   have G:j6 s.heap (.ref a)=us[0]?:=by
    show(match s.heap.get? a with | some o=>(match o.data with | .seq xs _=>xs[0]? | _=>none) | none=>none)=us[0]?
    rw [f]
    show(match o.data with | .seq xs _=>xs[0]? | _=>none)=us[0]?
    rw [F]
   rw [G]at B;exact B
 ·have h:∀ v∈vs,∃ u x as,j6 s.heap v=some u/\Reads s.heap u x as/\jM d x=true:=fun v c=>by
   obtain⟨x,xs,as,r,l⟩:=O v c
   cases r with
   | @tuple a o us n _ _ f I F H=>
    have G:j6 s.heap (.ref a)=us[0]?:=by
     show(match s.heap.get? a with | some o=>(match o.data with | .seq xs _=>xs[0]? | _=>none) | none=>none)=us[0]?
     rw [f]
     show(match o.data with | .seq xs _=>xs[0]? | _=>none)=us[0]?
     rw [F]
    generalize hl:us.toList=ul at H
    cases H with
    | @cons u vs' _ _ as' bs' r1 r2=>
     refine⟨u,x,as',?_,r1,l⟩
     rw [G,<- QE,hl];rfl
  have ty:∀ u x as,Reads s.heap u x as->jM d x=true->p6 u=(if m=true then .type "int" else .type "tuple")/\∀(R:YP->JZ->Prop),R (p6 u) s->J1 (J3 prog w) A (typeOf u) R E s:=fun u x as r l=>by
   cases d with
   | int i=>
    cases x with
    | int j=>cases r;cases N;exact⟨rfl,fun R k=>Ja (T:="int") (typeIs_int s _ _) k⟩
    | _=>cases l
   | tuple ds=>
    cases x with
    | tuple xs=>
     cases r with
     | tuple f I F H=>cases N;exact⟨rfl,fun R k=>Ja (T:="tuple") ⟨_,f,I⟩ k⟩
    | _=>cases l
   | _=>cases x <;> cases l
  have all:((vs.map fun v=>j6 s.heap v).toArray.all fun x=>x.isSome)=true:=by
   rw [List.all_toArray,List.all_map,Q8];intro v c;obtain⟨u,x,as,e,_⟩:=h v c
   simp [e]
  rw [if_pos all];refine Qa (Y7 (Qa ?_));rw [oneTypeOnly'_eq]
  have Z:((vs.map fun v=>j6 s.heap v).toArray.filterMap id)=(vs.filterMap fun v=>j6 s.heap v).toArray:=by
   rw [List.filterMap_toArray,List.filterMap_map];rfl
  rw [Z,List.mapM_toArray,map_eq_pure_bind]
  have y:∀ u∈vs.filterMap (fun v=>j6 s.heap v),∃ x as,Reads s.heap u x as/\jM d x=true:=fun u z=>by
   obtain⟨v,c,e⟩:=List.mem_filterMap.mp z;obtain⟨u',x,as,Q,r,l⟩:=h v c;rw [e]at Q;cases Q
   exact⟨x,as,r,l⟩
  refine Qa (Qa (B7 (g:=p6) (fun u z R k=>?_) (Qb ?_)))
  ·obtain⟨x,as,r,l⟩:=y u z
   exact(ty u x as r l).2 R k
  ·obtain⟨p,vs',rfl⟩:∃ p vs',vs=p::vs':=by
    cases vs with
    | nil=>exact absurd rfl K
    | cons a b=>exact⟨a,b,rfl⟩
   obtain⟨U,S,M,e0,W,X⟩:=h p Qo
   have Y:∀ t∈((p::vs').filterMap (fun v=>j6 s.heap v)).map p6,t=(if m=true then .type "int" else .type "tuple"):=fun t J=>by
    obtain⟨u,z,rfl⟩:=QO.mp J;obtain⟨x,as,r,l⟩:=y u z
    exact(ty u x as r l).1
   have e1:(((p::vs').filterMap (fun v=>j6 s.heap v)).map p6).toArray[0]?=some (if m=true then .type "int" else .type "tuple"):=by
    rw [JR,e0];simp only [Qm];rw [(ty U S M W X).1];rfl
   rw [e1]
   have G:((((p::vs').filterMap (fun v=>j6 s.heap v)).map p6).toArray.all fun x=>x == (if m=true then .type "int" else .type "tuple"))=true:=by
    rw [List.all_toArray,Q8];intro t J;rw [Y t J];simp
   dsimp only;rw [if_pos G];refine Qb (Qb ⟨?_,rfl⟩)
   cases m <;> rfl
end
end SD
namespace SD
open PySem PySem.Spec PySem.SeqAt PyProof.Rows L2 DL SG
abbrev KD:=List Int × D
def lZ(d0:List D):D->Option (List Int)
 | .tuple (x::xs)=>if iJ d0 (x::xs)=true then jK (x::xs)else none
 | _=>none
def fT(d0:List D):List D->Option (List KD)
 | []=>some []
 | d::ds=>(lZ d0 d).bind fun k=>(fT d0 ds).bind fun r=>some ((k,d)::r)
def k8(p:KD):List KD->List KD
 | []=>[p]
 | q::r=>if HT.lexLt q.1 p.1=true then q::k8 p r else p::q::r
def fU:List KD->List KD
 | []=>[]
 | p::r=>k8 p (fU r)
def iF:List D->Option D
 | [.list []]=>some (.list [])
 | [.list (.tuple d0::ds)]=>if ds.length<1000 then(fT d0 (.tuple d0::ds)).bind fun l=>some (.list ((fU l).map (·.2)))else none
 | _=>none
def Le(p q:KD):Prop:=HT.lexLt q.1 p.1=false
theorem Le.trans{p q r:KD}(a:Le p q)(b:Le q r):Le p r:=by
 unfold Le at *
 cases e:HT.lexLt r.1 p.1 with
 | false=>rfl
 | true=>
  rcases GW _ q.1 _ e with h | h
  ·rw [b]at h;cases h
  ·rw [a]at h;cases h
theorem BT(p:KD):∀ l:List KD,(k8 p l).Perm (p::l)
 | []=>.refl _
 | q::r=>by
  unfold k8;split
  ·exact((BT p r).cons q).trans (.swap p q r)
  ·exact .refl _
theorem pE:∀ l:List KD,(fU l).Perm l
 | []=>.refl _
 | p::r=>(BT p (fU r)).trans ((pE r).cons p)
theorem Hv(p:KD):∀ l:List KD,l.Pairwise Le->(k8 p l).Pairwise Le
 | [],_=>by simp [k8]
 | q::r,h=>by
  obtain⟨d,f⟩:=Q6.mp h;unfold k8;split
  ·rename_i c;refine Q6.mpr ⟨fun z a=>?_,Hv p r f⟩;rcases Qp.mp ((BT p r).mem_iff.mp a)with e | e
   ·subst e;unfold Le
    cases g:HT.lexLt z.1 q.1 with
    | false=>rfl
    | true=>have:=yN _ _ _ c g;rw [qI]at this;cases this
   ·exact d z e
  ·rename_i c
   have b:Le p q:=by simpa [Le]using c
   refine Q6.mpr ⟨fun z a=>?_,h⟩;rcases Qp.mp a with e | e
   ·rw [e];exact b
   ·exact b.trans (d z e)
theorem t6:∀ l:List KD,(fU l).Pairwise Le
 | []=>.nil
 | p::r=>Hv p _ (t6 r)
theorem Di:∀{a b:List KD},a.Perm b->a.Pairwise Le->b.Pairwise Le->(∀ p∈a,∀ q∈a,p.1=q.1->p=q)->a=b
 | [],b,h,_,_,_=>h.nil_eq
 | x::r,[],h,_,_,_=>absurd h.length_eq (by simp)
 | x::r,y::t,h,ha,hb,inj=>by
  have d:y∈x::r:=h.mem_iff.mpr Qo;have f:x∈y::t:=h.mem_iff.mp Qo
  have e:x=y:=by
   refine inj x Qo y d (u0 _ _ ?_ ?_)
   ·rcases Qp.mp f with c | c
    ·rw [c];exact qI _
    ·exact(Q6.mp hb).1 x c
   ·rcases Qp.mp d with c | c
    ·rw [c];exact qI _
    ·exact(Q6.mp ha).1 y c
  subst e;rw [Di h.cons_inv (Q6.mp ha).2 (Q6.mp hb).2 fun p i q g=>inj p (Qf _ i) q (Qf _ g)]
theorem TU{c i:Type}{f:c->i}{a b:List i}(h:a.Perm b):∀ l:List c,l.map f=a->∃ l':List c,l'.Perm l/\l'.map f=b:=by
 induction h with
 | nil=>intro l e;exact⟨l,.refl _,e⟩
 | cons x _ t=>
  intro l e
  cases l with
  | nil=>cases e
  | cons y l=>
   rw [Qm]at e
   injection e with e1 e2
   obtain⟨l',p,q⟩:=t l e2
   exact⟨y::l',p.cons y,by rw [Qm,e1,q]⟩
 | swap x y r=>
  intro l e
  match l,e with
  | a::b::l,e=>
   rw [Qm,Qm]at e
   injection e with e1 e2
   injection e2 with e2 e3
   exact⟨b::a::l,.swap a b l,by rw [Qm,Qm,e1,e2,e3]⟩
 | trans _ _ g d=>
  intro l e;obtain⟨s,n,k⟩:=g l e;obtain⟨o,m,j⟩:=d s k
  exact⟨o,m.trans n,j⟩
theorem FM:∀{xs ys:List D}{a:List Int},iJ xs ys=true->jK xs=some a->jK ys=some a->xs=ys
 | [],[],_,_,_,_=>rfl
 | [],_::_,_,l,_,_=>by cases l
 | _::_,[],_,l,_,_=>by cases l
 | x::xs,y::ys,a,l,c,b=>by
  obtain⟨a1,f,c⟩:=aG c;obtain⟨t,r,c⟩:=aG c;obtain⟨s,e,b⟩:=aG b;obtain⟨c2,q,b⟩:=aG b;obtain⟨d,k⟩:=QM.mp l;have m:=FO d f e;have p:a1++t=s++c2:=(QC c).trans (QC b).symm;obtain⟨o,n⟩:=List.append_inj p m;subst o n;rw [FM k r q];congr 1
  cases x with
  | int i=>cases y with
   | int j=>cases f;cases e;rfl
   | _=>cases d
  | tuple h=>cases y with
   | tuple g=>rw [(nP (show eF h=some a1 from f)).2.2.2,(nP (show eF g=some a1 from e)).2.2.2]
   | _=>cases d
  | _=>cases y <;> cases d
theorem Cn:∀{xs:List D}{a:List Int},jK xs=some a->Zt xs=true
 | [],_,_=>rfl
 | x::xs,a,f=>by
  obtain⟨a1,b,f⟩:=aG f;obtain⟨h,g,f⟩:=aG f;have d:=Cn g
  have e:Ur x=true:=by
   cases x with
   | int i=>rfl
   | tuple c=>exact(nP (show eF c=some a1 from b)).1
   | _=>cases b
  simp [Zt,e,d]
theorem pD{d0:List D}{d:D}{k:List Int}(h:lZ d0 d=some k):∃ x xs,d=.tuple (x::xs)/\iJ d0 (x::xs)=true/\jK (x::xs)=some k:=by
 cases d with
 | tuple b=>
  cases b with
  | nil=>cases h
  | cons x xs=>
   have a:(if iJ d0 (x::xs)=true then jK (x::xs)else none)=some k:=h;by_cases c:iJ d0 (x::xs)=true
   ·rw [if_pos c]at a;exact⟨x,xs,rfl,c,a⟩
   ·rw [if_neg c]at a;cases a
 | _=>cases h
theorem nW{d0:List D}{d e:D}{k:List Int}(f:lZ d0 d=some k)(c:lZ d0 e=some k):d=e:=by
 obtain⟨x,j,rfl,b,h⟩:=pD f;obtain⟨y,i,rfl,a,g⟩:=pD c;rw [FM (yQ b a) h g]
theorem C8{d0:List D}:∀{ds:List D}{l:List KD},fT d0 ds=some l->l.map (·.2)=ds/\∀ p∈l,lZ d0 p.2=some p.1
 | [],_,h=>by cases h;exact⟨rfl,fun p a=>nomatch a⟩
 | d::ds,_,h=>by
  obtain⟨k,g,h⟩:=aG h;obtain⟨r,f,h⟩:=aG h;cases h;obtain⟨c,b⟩:=C8 f
  refine⟨by rw [Qm,c],fun p a=>?_⟩
  rcases Qp.mp a with e | e
  ·rw [e];exact g
  ·exact b p e
abbrev Tr:=KD × V × YP
section
variable {X:Cx}{pins:List (JY × Obj)}{σ:L2.St}{H:Hp}{s:JZ}{F:JY->Prop}
theorem Ko{K:PySem.W.Frag}:∀{l:List KD}{vs:List V}{us:List YP},Reps K F H (l.map (·.2)) vs->L2.Vals vs us->∃ T:List Tr,T.map (·.1)=l/\T.map (·.2.1)=vs/\T.map (·.2.2)=us/\∀ t∈T,aR K F H t.1.2 t.2.1/\L2.RelV t.2.1 t.2.2
 | [],_,_,r,v=>by cases r;cases v;exact⟨[],rfl,rfl,rfl,fun t a=>nomatch a⟩
 | p::l,_,_,r,v=>by
  cases r with
  | cons f d=>cases v with
   | cons c b=>
    obtain⟨T,j,i,h,g⟩:=Ko (l:=l) d b
    refine⟨(p,_,_)::T,by rw [Qm,j],by rw [Qm,i],by rw [Qm,h],fun t a=>?_⟩
    rcases Qp.mp a with e | e
    ·rw [e];exact⟨f,c⟩
    ·exact g t e
theorem Kq{K:PySem.W.Frag}:∀{T:List Tr},(∀ t∈T,aR K F H t.1.2 t.2.1/\L2.RelV t.2.1 t.2.2)->Reps K F H (T.map (·.1.2)) (T.map (·.2.1))/\L2.Vals (T.map (·.2.1)) (T.map (·.2.2))
 | [],_=>⟨.nil,.nil⟩
 | t::T,h=>by
  obtain⟨c,b⟩:=h t Qo;obtain⟨e,d⟩:=Kq fun u a=>h u (Qf _ a)
  exact⟨.cons c e,.cons b d⟩
theorem zM:∀{T:List Tr}{v:YP}{k:List Int},(T.map fun t=>(t.2.2,t.1.1)).lookup v=some k->∃ t∈T,t.2.2=v/\t.1.1=k
 | [],_,_,h=>by cases h
 | t::T,v,k,h=>by
  rw [Qm,QN]at h
  cases e:v == t.2.2 with
  | true=>rw [e]at h;cases h;exact⟨t,Qo,(Yv e).symm,rfl⟩
  | false=>
   rw [e]at h;obtain⟨u,a,c,b⟩:=zM h
   exact⟨u,Qf _ a,c,b⟩
theorem Lq:∀{T:List Tr}{t:Tr},t∈T->∃ k,(T.map fun t=>(t.2.2,t.1.1)).lookup t.2.2=some k:=by
 intro T
 induction T with
 | nil=>intro t h;cases h
 | cons u T a=>
  intro t h;rw [Qm,QN]
  cases e:t.2.2 == u.2.2 with
  | true=>exact⟨_,rfl⟩
  | false=>
   rcases Qp.mp h with z | z
   ·rw [z,beq_self_eq_true]at e;cases e
   ·exact a z
theorem Ld{d0:List D}{its:List YP}{ds:List D}{vs:List V}{l:List KD}{Q:VK}(hu:X.A.units+66<Zc)(I:L2.Inv X pins σ H s)(rv:L2.Vals vs its)(r:Reps X.K F H ds vs)(hk:fT d0 ds=some l)(b6:ds.length<=1000)
  (k:∀ p vs',H p=none->Reps X.K F H ((fU l).map (·.2)) vs'->vs'.length<=1000->Q (.ref p) (aJ H p (.lst vs'))):J1 (J3 X.prog X.w) X.A.in1 (newList its >>= fun l=>UC [l] (call (.builtin "list.sort") [l] []) >>= fun _=>ret l) (fun fin s'=>∃ v,fin=.done (.ret v)/\EP X pins σ Q v s') X.xe s:=by
 obtain⟨em,a5⟩:=C8 hk;obtain⟨T,t1,t2,t3,t4⟩:=Ko (K:=X.K) (F:=F) (H:=H) (l:=l) (by rw [em];exact r) rv;have c:∀ t∈T,lZ d0 t.1.2=some t.1.1:=fun t f=>a5 t.1 (by rw [<- t1];exact List.mem_map_of_mem f)
 have b2:its.length<=1000:=by rw [<- rv.length,<- r.length];exact b6
 have all:KeysOf (sL (T.map fun t=>(t.2.2,t.1.1))) (UV its):=fun p hp=>by
  rw [pairsOf_toList]at hp
  have:p.1∈its:=(List.of_mem_zip hp).1
  rw [<- t3]at this;obtain⟨t,f,e⟩:=QO.mp this;rw [<- e];exact Lq f
 have rd:∀ t∈T,∀ g:Heap,(∀ b o,s.heap.get? b=some o->g.get? b=some o)->∃ as,Reads g t.2.2 t.1.2 as:=fun t f g B=>by
  obtain⟨y,ys,y1,_,y2⟩:=pD (c t f);obtain⟨as,z⟩:=(t4 t f).1.reads I (by rw [y1];exact Cn y2) (t4 t f).2
  exact⟨as,Reads.keeps B z⟩
 have Z:∀ t∈T,∀ u∈T,t.2.2=u.2.2->t.1.1=u.1.1:=fun t f u E e=>by
  obtain⟨as,Y⟩:=rd t f s.heap fun _ _ q=>q;obtain⟨bs,z2⟩:=rd u E s.heap fun _ _ q=>q;obtain⟨x,xs,O,_,f1⟩:=pD (c t f);rw [e]at Y;have U:t.1.2=u.1.2:=Reads.unique t.1.2 u.1.2 u.2.2 as bs (by rw [O];exact Cn f1) Y z2;have N:=c t f;have M:=c u E;rw [U,M]at N
  exact(QC N).symm
 refine Qa (wpAny_newList ?_ (hsz:=?_))
 rotate_left
 ·exact gD (by lia)
 show J1 _ _ _ _ _ { s with heap:=s.heap.push (Um "list" its.toArray 0) }
 have hL:(s.heap.push (Um "list" its.toArray 0)).get? s.heap.objs.size=some (Um "list" its.toArray 0):=Qz _ rfl
 have kp:∀ g:Heap,(∀ b o,b≠s.heap.objs.size->(s.heap.push (Um "list" its.toArray 0)).get? b=some o->g.get? b=some o)->∀ b o,s.heap.get? b=some o->g.get? b=some o:=fun g B b o e=>
  B b o (QB (Qs e)) (Qh _ e)
 refine Qa (Yg (Yc slot_list_sort ⟨_,hL,rfl⟩ entry_list_sort (VY (κ:=sL (T.map fun t=>(t.2.2,t.1.1))) (kd:=tuples' (isInt (d0.headD .none))) hL all b2 (fun g B M=>?_) (fun g B=>?_) fun G p1 p2=>⟨_,rfl,Qb ⟨_,rfl,?_⟩⟩) (args_list_sort _)))
 ·
  refine PQ (s:={ s with heap:=g }) (d:=d0.headD .none) rfl (fun v hv=>?_) (fun e=>by rw [e]at M;simp at M);rw [<- t3]at hv;obtain⟨t,f,e⟩:=QO.mp hv;obtain⟨x,xs,O,R,f1⟩:=pD (c t f);obtain⟨as,z⟩:=rd t f g (kp g B);rw [O]at z
  refine⟨x,xs,as,by rw [<- e];exact z,?_⟩
  cases d0 with
  | nil=>cases R
  | cons y ys=>exact(QM.mp R).1
 ·
  intro x y ka kb E' Q' N M S;obtain⟨t,f,O,g1⟩:=zM N;obtain⟨u,E,U,g2⟩:=zM M;obtain⟨x1,b9,e3,R,f1⟩:=pD (c t f);obtain⟨y1,b7,e4,l2,f2⟩:=pD (c u E);obtain⟨as,Y⟩:=rd t f g (kp g B);obtain⟨bs,z2⟩:=rd u E g (kp g B);rw [e3,O]at Y;rw [e4,U]at z2;rw [g1]at f1;rw [g2]at f2
  cases Y with
  | @tuple ax ox us n _ _ q1 q2 q3 q4=>cases z2 with
   | @tuple ay oy ws m _ _ w1 w2 w3 w4=>
    have ll:us.size=ws.size:=by
     have a1:=ReadsAll.length _ _ _ q4;have a2:=ReadsAll.length _ _ _ w4
     have a3:∀(p q:List D),iJ p q=true->p.length=q.length:=by
      intro p
      induction p with
      | nil=>intro q J;cases q with
       | nil=>rfl
       | cons _ _=>cases J
      | cons p0 p ih=>intro q J;cases q with
       | nil=>cases J
       | cons q0 q=>simp [ih q (QM.mp J).2]
     have a4:=a3 _ _ (yQ R l2);rw [Qg]at a1 a2;lia
    have ef:decide (us.size<ws.size)=false:=by rw [ll];simp
    refine PySem.W.kat_lt (s:={ s with heap:=g }) q1 q3 w1 w3 ?_;rw [ef];refine Iy (s:={ s with heap:=g }) (show X.A.in1.in1.units+64<Zc by show X.A.units+1+1+64<Zc;lia) 0 (yQ R l2) f1 f2 q4 w4 (fun hb _ z r' ez=>?_) (fun e=>?_) fun _=>S
    ·cases ez
     cases d0 with
     | nil=>cases R
     | cons y0 b8=>
      have l3:=(QM.mp R).1
      cases y0 with
      | int n=>cases x1 with
       | int m=>exact⟨m,rfl⟩
       | _=>cases l3
      | _=>cases hb
    ·have e5:HT.lexLt ka kb=false:=by rw [e];exact qI _
     have:(sL (T.map fun t=>(t.2.2,t.1.1))).blt ka kb=false:=e5
     rw [this]at S;exact S
 ·
  have pm:(((J7 G).map (·.2)).toList).Perm its:=by
   have N:=YO.mp p1;have M:=N.map (·.2);rw [pairsOf_toList]at M;rw [Array.toList_map]
   have h3:(its.zip its).map (·.2)=its:=by
    rw [List.map_snd_zip];exact Ql _
   rw [h3]at M;exact M
  obtain⟨T',q1,q2⟩:=TU pm.symm T t3;have h:∀ t∈T',t∈T:=fun t f=>q1.mem_iff.mp f;obtain⟨g1,g2⟩:=Kq (K:=X.K) (F:=F) (H:=H) (T:=T') fun t f=>t4 t (h t f)
  have lT:T'.length=its.length:=by rw [q1.length_eq,<- t3,Qi]
  have a9:(T'.map (·.1)).Pairwise Le:=by
   rw [Yl,Yy];intro i j hi hj b4
   have a8:(J7 G).size=T'.length:=by
    rw [p1.size_eq,Uo,lT]
   have a0:∀ m (hm:m<T'.length),KK (sL (T.map fun t=>(t.2.2,t.1.1))) (J7 G) m=T'[m].1.1:=fun m hm=>by
    have b3:m<(J7 G).size:=by rw [a8];exact hm
    have O:(J7 G)[m]?=some (J7 G)[m]:=getElem?_pos _ m b3;have U:(J7 G)[m]∈(UV its).toList:=(YO.mp p1).mem_iff.mp (by simp);rw [pairsOf_toList]at U
    have e3:(J7 G)[m].1=(J7 G)[m].2:=by
     obtain⟨n,hn,en⟩:=List.getElem_of_mem U;rw [List.getElem_zip]at en;rw [<- en]
    have e4:(J7 G)[m].2=T'[m].2.2:=by
     have:=congrArg (fun(l:List YP)=>l[m]?) q2
     simp only [QF,Array.toList_map,QE,O]at this;rw [Qk hm]at this
     exact(QC this).symm
    unfold KK;rw [O]
    show((sL (T.map fun t=>(t.2.2,t.1.1))).keyOf (J7 G)[m].1).getD []=_
    rw [e3,e4];obtain⟨kx,a6⟩:=Lq (h T'[m] (Jd hm));obtain⟨t,f,e5,e6⟩:=zM a6
    show((T.map fun t=>(t.2.2,t.1.1)).lookup T'[m].2.2).getD []=_
    rw [a6]
    show kx=_
    rw [<- e6];exact Z t f _ (h _ (Jd hm)) e5
   have:=p2 i j (Y2 b4) (by rw [Uo,<- lT];exact hj)
   rw [a0 i hi,a0 j hj]at this;exact this
  have a7:T'.map (·.1)=fU l:=by
   refine Di (((q1.map (·.1)).trans (.of_eq t1)).trans (pE l).symm) a9 (t6 l) fun p hp q J e=>?_;obtain⟨t,f,rfl⟩:=QO.mp hp;obtain⟨u,E,rfl⟩:=QO.mp J;have N:=c t (h t f);have M:=c u (h u E);rw [e]at N;exact Jk e (nW N M)
  have eD:(fU l).map (·.2)=T'.map (·.1.2):=by rw [<- a7,Yo];rfl
  have fresh:H s.heap.objs.size=none:=I.hok.fresh (Ql _);obtain⟨ep,b5⟩:=sortedHeap_at (out:=(J7 G).map (·.2)) hL
  have b0:∀ b o,s.heap.get? b=some o->(sortedHeap (s.heap.push (Um "list" its.toArray 0)) s.heap.objs.size its ((J7 G).map (·.2))).get? b=some o:=fun b o e=>by
   have lt:=Qs e;rw [sortedHeap_old (QB lt) (by rw [size_push'];exact Jl lt)];exact Qh _ e
  have lv:(T'.map (·.2.1)).length<=1000:=by rw [Qi,lT];lia
  refine⟨.ref s.heap.objs.size,_,I.laid (t':=s.toks) (o:=.lst (T'.map (·.2.1))) b0 (Ql _) ?_,rfl,k _ _ fresh (by rw [eD];exact g1) lv⟩
  refine⟨gD lv,T'.map (·.2.2),ep,g2,?_⟩
  rw [b5,q2]
theorem t7{d0:List D}{a:JY}{ds:List D}{vs:List V}{l:List KD}{Q:VK}(i:X.A.units+66<Zc)(I:L2.Inv X pins σ H s)(j:cD X.K H a vs)(r:Reps X.K F H ds vs)(n:fT d0 ds=some l)(d:ds.length<=1000)
  (k:∀ p vs',H p=none->Reps X.K F H ((fU l).map (·.2)) vs'->vs'.length<=1000->Q (.ref p) (aJ H p (.lst vs'))):J1 (J3 X.prog X.w) X.A (call (.builtin "sorted") [.ref a]) (EP X pins σ Q) X.xe s:=by
 obtain⟨c,f,g,h⟩:=I.list j;refine Calls.call_function_entry kind_sorted plain_sorted entry_sorted (args_sorted1 _) ?_;unfold Builtin.«sorted»;refine Qa (m:=checkCount "sorted" 1 1 _) (Qb (Qa (collect_list g.isList ?_ (hsz:=?_))))
 ·refine Ld i (I.kept (h':=(s.heap.push (Um "list" #[] 0)).update s.heap.objs.size (Ug (·++c.toArray))) (t':=s.toks) fun b o e=>?_) f r n d k;rw [Heap.get?_update_ne _ _ _ _ (QB (Qs e))];exact Qh _ e
 ·rw [<- f.length];exact h
end
end SD
namespace DL
open PySem PySem.Spec PyProof.Rows L2 SD
theorem wE{X:Cx}(n:X.A.units+66<Zc):fV X (.builtin "sorted") (lC X.K iF):=fun m s t H v w Q I j o=>by
 obtain⟨F,x,q,z,R,b,k⟩:=o;unfold iF at b
 split at b
 ·cases b
  cases R with
  | cons i R2=>
   cases R2
   cases i with
   | @lst a vs _ h1 r1=>
    obtain⟨u,rfl,f⟩:=kP j;cases f;exact t7 (d0:=[]) (l:=[]) n I h1.sq r1 rfl (by simp) fun p e d g _=>k _ _ _ (aN.frozen d) (aR.newLst d g)
 ·rename_i d0 h;by_cases c:h.length<1000
  ·rw [if_pos c]at b;obtain⟨l,r,b⟩:=aG b;cases b
   cases R with
   | cons i R2=>
    cases R2
    cases i with
    | @lst a vs _ h1 r1=>
     obtain⟨u,rfl,f⟩:=kP j;cases f;exact t7 (d0:=d0) n I h1.sq r1 r (by simp;lia) fun p e d g _=>k _ _ _ (aN.frozen d) (aR.newLst d g)
  ·rw [if_neg c]at b;cases b
 ·cases b
end DL
namespace ZL
open PySem PySem.Spec PyProof.Rows L2 DL
def zZ(K:PySem.W.Frag)(a b:JY):It:=
 ⟨fun i H=>∃ xs ys x y,cD K H a xs/\cD K H b ys/\xs[i]?=some x/\ys[i]?=some y,
  fun i H v c=>∃ p,H p=none/\v=.ref p/\∃ x y,c=aJ H p (.tup [x,y])/\(∀ xs,cD K H a xs->xs[i]?=some x)/\∀ ys,cD K H b ys->ys[i]?=some y,
  fun i H=>∃ xs ys,cD K H a xs/\cD K H b ys/\(xs.length<=i ∨ ys.length<=i)⟩
theorem yY{X:Cx}{a:List (JY × Obj)}{h:L2.St}{H d:Hp}{s:JZ}{ch:List JY}{h':Heap}{tk:Nat}(I:L2.Inv X a h H s)(i:∀ b∈ch,hZ X a H b)(k:∀ b o,b∉ch->s.heap.get? b=some o->h'.get? b=some o)
  (q:∀ b o,s.heap.get? b=some o->d b=H b) (g:∀ b o,H b=some o->d b=some o) (f:dE X.prog X.w d h'):L2.Inv X a h d { s with heap:=h',toks:=tk }:=by
 refine I.step (g':=s.gens) (d':=s.drawn) (ch:=ch) (fun b p=>?_) (fun b o _ _ c e _=>k b o c e) (fun b o _ _ c e _=>⟨o.slots,k b o c e⟩) (fun b o _ e n=>by rw [q b o e];exact n)
  (fun b o c e=>⟨o,k b o c e⟩) (fun b E e=>g _ _ e) (fun b o u e=>g _ _ e) (fun b F e=>⟨#[],by rw [g _ _ e];simp⟩) (fun m l=>?_) f I.bare
 ·obtain⟨_,y,_,x,v,t⟩:=i b p
  exact⟨x,y,v,t⟩
 ·obtain⟨o,A,B,j,r⟩:=l
  exact⟨o,A,B,k _ o (fun z=>(i _ z).2.1 rfl) j,r⟩
theorem WO{P:J2}{w:J5}{K:PySem.W.Frag}{Z:List Expr}{x1}{S:Pos}(a b z TI TO p n:JY)(D:ZipApart z TI TO p n a b):
  mY P w K (.Tuple Z x1 S) (zZ K a b) [z,TI,TO,p,n] z (fun i h=>IsZip h z TI TO .none/\IsPair h TI (.ref p) (.ref n)/\(∃ u v,IsPair h TO u v)/\h.IsListIter p a i/\h.IsListIter n b i) where
 mem:=by simp
 obj:=fun i h t c j=>by
  obtain⟨B,A,⟨u,v,F⟩,⟨o4,e4,_,d4⟩,⟨o5,e5,_,d5⟩⟩:=t;rcases Qp.mp j with rfl | j
  ·exact⟨_,B,fun v z=>by have R:Data.fields _=Data.cell v:=z;cases R⟩
  rcases Qp.mp j with rfl | j
  ·exact⟨_,A,fun v z=>by have R:Data.seq _ _=Data.cell v:=z;cases R⟩
  rcases Qp.mp j with rfl | j
  ·exact⟨_,F,fun v z=>by have R:Data.seq _ _=Data.cell v:=z;cases R⟩
  rcases Qp.mp j with rfl | j
  ·exact⟨o4,e4,fun v z=>by rw [d4]at z;cases z⟩
  rcases Qp.mp j with rfl | j
  ·exact⟨o5,e5,fun v z=>by rw [d5]at z;cases z⟩
  cases j
 keep:=fun i h h' t k=>by
  obtain⟨B,A,⟨u,v,F⟩,Q,h5⟩:=t
  exact⟨k z (by simp) _ B,k TI (by simp) _ A,⟨u,v,k TO (by simp) _ F⟩,Q.at fun o e=>k p (by simp) o e,h5.at fun o e=>k n (by simp) o e⟩
 item:=by
  intro X hP hw hK j i T s σ H E I O t hg;subst hP hw hK;obtain⟨xs,ys,x,y,ha,hb,hx,hy⟩:=hg;obtain⟨B,A,⟨u,v,F⟩,Q,h5⟩:=t;obtain⟨a7,rv,pl,_⟩:=I.list ha;obtain⟨a0,G,J,_⟩:=I.list hb;obtain⟨xu,ex,rx⟩:=rv.get hx;obtain⟨yu,ey,ry⟩:=G.get hy;refine wpAny_pyNext_zip_item D B A F Q h5 pl.isList J.isList (x:=xu) (y:=yu) (by simpa using ex) (by simpa using ey) fun h' a1 a2 a3 a4 a5 a6 hk=>⟨_,rfl,?_⟩;refine wpAny_letOwnedTupleGo_zip (s:={ s with heap:=h' }) a1 fun h'' z1 sb=>?_;have N:∀ c o,c≠z->h'.get? c=some o->h''.get? c=some o:=fun c o l e=>sb.extBut c o l e;have hn:H s.heap.objs.size=none:=I.hok.fresh (Ql _);have g:∀ c o,s.heap.get? c=some o->c≠s.heap.objs.size:=fun c o e=>QB (Qs e);have zT:s.heap.objs.size≠z:=(g z _ B).symm
  have U:∀ c o,c∉[z,TI,TO,p,n]->s.heap.get? c=some o->h''.get? c=some o:=fun c o l e=>
   N c o (fun q=>l (by simp [q])) (hk c o (fun q=>l (by simp [q])) (fun q=>l (by simp [q])) (fun q=>l (by simp [q])) (fun q=>l (by simp [q])) e)
  have m:∀ c o,H c=some o->c∉[z,TI,TO,p,n]:=fun c o e f=>by
   have:=(O c f).1
   rw [this]at e;cases e
  have t2:IsPair h'' TI (.ref p) (.ref n):=N _ _ D.TIz (hk _ _ D.TIz D.TITO D.TIi1 D.TIi2 A);have t3:IsPair h'' TO xu yu:=N _ _ D.TOz a2;have t4:h''.IsListIter p a (i+1):=a3.at fun o e=>N _ o D.i1z e;have t5:h''.IsListIter n b (i+1):=a4.at fun o e=>N _ o D.i2z e
  have a8:dE X.prog X.w (aJ H s.heap.objs.size (.tup [x,y])) h'':=fun c o e=>by
   by_cases Y:c=s.heap.objs.size
   ·subst Y;rw [cS]at e;cases e
    exact⟨gD (by simp),[xu,yu],.cons rx (.cons ry .nil),⟨_,N _ _ zT a5,rfl,0,rfl⟩⟩
   ·rw [aZ Y]at e
    refine(I.hok c o e).stay (fun d v M q=>U d v ?_ q) (fun d q=>by rw [aZ (gF q hn)];exact q) fun d xs q=>by rw [aZ (gF q hn)];exact q
    rcases M with rfl | M
    ·exact m _ _ e
    ·exact m _ _ M
  refine⟨.ref s.heap.objs.size,_,yY (s:=s) (h':=h'') (tk:=s.toks) I O U (fun c o e=>aZ (g c o e)) (fun c o e=>by rw [aZ (gF e hn)];exact e) a8,rfl,⟨_,hn,rfl,x,y,rfl,fun b0 h'=>by rw [I.list_inj h' ha];exact hx,fun a9 h'=>by rw [I.list_inj h' hb];exact hy⟩,⟨z1,t2,⟨_,_,t3⟩,t4,t5⟩,fun c f=>?_⟩
  ·have e:=(O c f).1
   have nT:c≠s.heap.objs.size:=by
    rcases Qp.mp f with rfl | f
    ·exact g _ _ B
    rcases Qp.mp f with rfl | f
    ·exact g _ _ A
    rcases Qp.mp f with rfl | f
    ·exact g _ _ F
    rcases Qp.mp f with rfl | f
    ·obtain⟨_,e',_⟩:=Q;exact g _ _ e'
    rcases Qp.mp f with rfl | f
    ·obtain⟨_,e',_⟩:=h5;exact g _ _ e'
    cases f
   rw [aZ nT];exact e
 done:=by
  intro X hP hw hK j i T s σ H E I O t hg;subst hP hw hK;obtain⟨xs,ys,ha,hb,r⟩:=hg;obtain⟨B,A,⟨u,v,F⟩,Q,h5⟩:=t;obtain⟨a7,rv,pl,_⟩:=I.list ha;obtain⟨a0,G,J,_⟩:=I.list hb;have l1:=rv.length;have l2:=G.length
  refine wpAny_pyNext_zip_end (I.ok.hd j) D B A F Q h5 pl.isList J.isList (by
   rcases r with r | r
   ·left;simp;lia
   ·right;simp;lia) fun h' hk=>⟨rfl,?_⟩
  have U:∀ c o,c∉[z,TI,TO,p,n]->s.heap.get? c=some o->h'.get? c=some o:=fun c o l e=>
   hk c o (fun q=>l (by simp [q])) (fun q=>l (by simp [q])) (fun q=>l (by simp [q])) (fun q=>l (by simp [q])) e
  have m:∀ c o,H c=some o->c∉[z,TI,TO,p,n]:=fun c o e f=>by
   have:=(O c f).1
   rw [this]at e;cases e
  refine yY (s:=s) (h':=h') (tk:=s.toks) I O U (fun _ _ _=>rfl) (fun _ _ e=>e) fun c o e=>?_
  refine(I.hok c o e).stay (fun d v M q=>U d v ?_ q) (fun d q=>q) fun d xs q=>q
  rcases M with rfl | M
  ·exact m _ _ e
  ·exact m _ _ M
 self:=fun _ _ _ _ _ t h=>wpAny_pyIter_zip t.1 h
theorem fZ{x y:Nat}(h:x≠y):@Ne JY x y:=h
theorem WF{n a b:Nat}(d:a<n)(c:b<n):ZipApart (n+4) (n+2) (n+3) n (n+1) a b:=
 ⟨fZ (by lia),fZ (by lia),fZ (by lia),fZ (by lia),fZ (by lia),fZ (by lia),fZ (by lia),fZ (by lia),fZ (by lia),fZ (by lia),fZ (by lia),fZ (by lia),fZ (by lia),fZ (by lia),fZ (by lia),fZ (by lia),fZ (by lia),fZ (by lia)⟩
def sI(K:PySem.W.Frag)(f:TA):TI:=fun d H R=>f d H fun e c=>∃ a b,e=[.ref a,.ref b]/\(∃ xs,cD K c a xs)/\(∃ ys,cD K c b ys)/\R (zZ K a b) c
theorem T4{X:Cx}{l:List Expr}{x1}{i:Pos}{a b:Expr}{o:TA}{p pos:Pos}(T:Gl X "zip")(Q:X.mg "zip"=none)(U:PA X [a,b] o)(hs:J0 [a,b] X.env=[(false,Zh a X.env),(false,Zh b X.env)]:=by rfl)(k:J0 [b] X.env=[(false,Zh b X.env)]:=by rfl):
  PI X (.Tuple l x1 i) (.Call (.Name "zip" p) [a,b] [] pos) (sI X.K o):=by
 intro g s n H R I h;refine Call_ (nQ I T Q boot_zip (YM (bC (U pos g s n H _ I h) fun us d ⟨vs,y,I1,A,E⟩=>?_) (by rw [hs,k]) (by rw [k];rfl)));obtain⟨x,w,e,⟨xs,O⟩,⟨ys,N⟩,q⟩:=E;subst e
 cases A with
 | cons r m=>
  cases m with
  | cons B m=>
   cases m;cases r;cases B;obtain⟨M,rv,t,_⟩:=I1.list O;obtain⟨J,z,j,_⟩:=I1.list N;refine call_zip_2 t.isList j.isList fun v a1 a2 Z Y W a6 S=>?_;have I2:L2.Inv X g n y { d with heap:=v }:=I1.kept (t':=d.toks) S;refine wpAny_pyIter_zip (s:={ d with heap:=v }) a1 ?_
   have G:x<d.heap.objs.size:=by obtain⟨_,e,_⟩:=t.isList;exact Qs e
   have F:w<d.heap.objs.size:=by obtain⟨_,e,_⟩:=j.isList;exact Qs e
   refine⟨_,[d.heap.objs.size+4,d.heap.objs.size+2,d.heap.objs.size+3,d.heap.objs.size,d.heap.objs.size+1],_,_,y,rfl,I2,WO x w (d.heap.objs.size+4) (d.heap.objs.size+2) (d.heap.objs.size+3) d.heap.objs.size (d.heap.objs.size+1) (WF G F),⟨a1,a2,⟨_,_,Z⟩,Y,W⟩,fun c f=>?_,q⟩
   have u:d.heap.objs.size<=c:=by
    rcases Qp.mp f with rfl | f
    ·exact Q7 _ _
    rcases Qp.mp f with rfl | f
    ·exact Q7 _ _
    rcases Qp.mp f with rfl | f
    ·exact Q7 _ _
    rcases Qp.mp f with rfl | f
    ·exact Ql _
    rcases Qp.mp f with rfl | f
    ·exact Q7 _ _
    cases f
   exact I1.fpOk u (I1.hok.fresh u)
end ZL
namespace DL
open PySem PySem.Spec PyProof.Rows L2 ZL
def Dm:List D->Option (List D)
 | [.list xs,.list ys]=>some (List.zipWith (fun x y=>.tuple [x,y]) xs ys)
 | _=>none
theorem Rf{K:PySem.W.Frag}{F:JY->Prop}{H:Hp}{a b:JY}{vs us:List V}{ds es:List D}(I:lP K F H a vs)(t:Reps K F H ds vs)(G:lP K F H b us)(s:Reps K F H es us):pG K F H (List.zipWith (fun x y=>.tuple [x,y]) ds es) (zZ K a b):=fun M R T z i=>by
 have g:=I.stay T;have f:=G.stay T;have k:=t.stay T;have j:=s.stay T
 refine⟨fun d c=>?_,fun E=>⟨vs,us,g.sq,f.sq,?_⟩⟩
 ·rw [List.getElem?_zipWith]at c
  cases e:ds[i]? with
  | none=>rw [e]at c;cases c
  | some x=>
   cases h:es[i]? with
   | none=>rw [e,h]at c;cases c
   | some y=>
    rw [e,h]at c;cases c;obtain⟨v,q,J⟩:=k.get e;obtain⟨u,o,R2⟩:=j.get h
    refine⟨⟨vs,us,v,u,g.sq,f.sq,q,o⟩,fun w Q r=>?_⟩
    obtain⟨p,n,rfl,O,N,rfl,B,A⟩:=r;have m:=B vs g.sq;have l:=A us f.sq;rw [q]at m;cases m;rw [o]at l;cases l
    exact⟨M,aN.fresh n,aR.newTup n (.cons J (.cons R2 .nil))⟩
 ·rw [List.length_zipWith]at E;rw [<- k.length,<- j.length];lia
theorem OM{X:Cx}{d:List Expr}{x1}{c:Pos}{a b:Expr}{gr:aA->Option (List D)}{p pos:Pos}(j:Gl X "zip")(i:X.mg "zip"=none)(l:DA X [a,b] gr)(hs:J0 [a,b] X.env=[(false,Zh a X.env),(false,Zh b X.env)]:=by rfl)(g:J0 [b] X.env=[(false,Zh b X.env)]:=by rfl):
  DI X (.Tuple d x1 c) (.Call (.Name "zip" p) [a,b] [] pos) (fun ρ=>(gr ρ).bind Dm):=
 CU (T4 j i l hs g) fun u H R h=>by
  obtain⟨F,e,ρ,x,S,q,k⟩:=h;obtain⟨v,m,q⟩:=aG q;unfold Dm at q
  split at q
  ·cases q
   refine⟨F,e,ρ,_,S,m,fun s o w t n=>?_⟩
   cases n with
   | cons r f=>
    cases r with
    | @lst a' vs' _ h1 r1=>
     cases f with
     | cons r f=>
      cases r with
      | @lst b' us' _ h2 r2=>
       cases f
       exact⟨a',b',rfl,⟨_,h1.sq⟩,⟨_,h2.sq⟩,k s o _ t (Rf h1 r1 h2 r2)⟩
  ·cases q
end DL
namespace DL
open PySem PySem.Spec PySem.SeqAt PyProof.Rows L2 CL SD ZL
def cutD(xs:List D)(a b:Option Int):List D:=(xs.drop (HT.sIx xs.length 0 a)).take (HT.sIx xs.length xs.length b-HT.sIx xs.length 0 a)
def N6(K:PySem.W.Frag)(g:aA->Option (Option Int)):TO:=fun a H Q=>n8 K a H g fun F o=>∀ F' H',aN F F' H H'->Q o H'
def DO(X:Cx)(e:Option Expr)(g:aA->Option (Option Int)):Prop:=PO X e (N6 X.K g)
def pV:aA->Option (Option Int):=fun _=>some none
def oE(g:aA->Option D):aA->Option (Option Int):=fun a=>(g a).bind fun d=>(D4 d).bind fun i=>some (some i)
section
variable {X:Cx}{a b e:Expr}{ga:aA->Option D}{pos p p2:Pos}{lo hi:Option Expr}{gl gh:aA->Option (Option Int)}
theorem H0{o:Option Expr}{t t':TO}(h:PO X o t)(m:∀ σ H Q,t' σ H Q->t σ H Q):PO X o t':=fun a s σ H Q I q=>h a s σ H Q I (m σ H Q q)
theorem Bb:DO X none pV:=H0 T9 fun c H Q b=>by
 obtain⟨F,a,d,o,S,q,k⟩:=b;cases q;exact k F H (aN.refl F H)
theorem Bc(h:DE X e ga):DO X (some e) (oE ga):=H0 (U1 h) fun p H Q c=>by
 obtain⟨F,a,b,o,S,q,k⟩:=c;obtain⟨d,g,q⟩:=aG q;obtain⟨i,f,q⟩:=aG q;cases q
 exact⟨F,a,b,d,S,g,fun m l v n j=>⟨i,Wl j f,k m l n⟩⟩
theorem Reps.cut{K:PySem.W.Frag}{F:JY->Prop}{H:Hp}{ds:List D}{vs:List V}(r:Reps K F H ds vs)(a b:Option Int):Reps K F H (cutD ds a b) (m7 vs a b):=by
 unfold cutD m7;rw [r.length]
 exact(r.drop _).take _
def AW:D->String
 | .none=>"NoneType"
 | .bool _=>"bool"
 | .int _=>"int"
 | .str _=>"str"
 | .list _=>"list"
 | .tuple _=>"tuple"
 | .dict _=>"dict"
def vL(T:String)(d:D):Bool:=AW d == T || (T == "int" && AW d == "bool")
def BV:D->Bool
 | .dict _=>true
 | _=>false
def vI(T:String)(ga:aA->Option D):aA->Option D:=fun a=>(ga a).bind fun d=>if BV d=true then none else some (.bool (vL T d))
theorem PR(K:PySem.W.Frag)(T:String)(a:T="list" ∨ T="tuple" ∨ T="int" ∨ T="bool" ∨ T="str" ∨ T="dict")(d:D):PySem.W.kitOne K (.type (AW d)) (.type T)=some (vL T d):=by
 rcases a with rfl | rfl | rfl | rfl | rfl | rfl <;> cases d <;> (first | rfl | (unfold PySem.W.kitOne;with_unfolding_all rfl) | decide +kernel)
theorem Ps{T:String}(A:T="list" ∨ T="tuple" ∨ T="int" ∨ T="bool" ∨ T="str" ∨ T="dict"):fV X (.builtin "isinstance") (fun xs H Q=>∃(F:JY->Prop) (d:D) (x:V),aR X.K F H d x/\BV d=false/\xs=[x,.ty T]/\Q (.bl (vL T d)) H):=by
 intro f s p H xs B Q I v h;obtain⟨F,d,x,R,m,rfl,q⟩:=h;obtain⟨u,r,rfl,c,w⟩:=Ow v
 cases(show r=ZH T from w)
 have ok:=PR X.K T A d;have fin:∀ g,EP X f p Q (.bool (vL T d)) { s with toks:=g }:=fun g=>⟨.bl _,H,I.tok g,rfl,q⟩
 cases R with
 | non=>cases(show u=Zp from c);exact PySem.W.kia_one PySem.W.kitx_none I.kIn Uf ok (fun z=>nomatch z) fin
 | dct _ _ _ _ _=>cases m
 | exn _ _ _=>cases m
 | bl b=>cases(show u=ZQ b from c);exact PySem.W.kia_one PySem.W.kitx_bool I.kIn Uf ok (fun z=>nomatch z) fin
 | int i=>obtain⟨t,e⟩:=(show ∃ t,u=UO i t from c);cases e;exact PySem.W.kia_one PySem.W.kitx_int I.kIn Uf ok (fun z=>nomatch z) fin
 | str y=>obtain⟨t,e⟩:=(show ∃ t,u=Value.str y t from c);cases e;exact PySem.W.kia_one PySem.W.kitx_str I.kIn Uf ok (fun z=>nomatch z) fin
 | @tup a vs ds h1 r1=>
  cases(show u=J4 a from c)
  obtain⟨j,_,⟨o,l,k,_⟩,_⟩:=I.tuple h1;exact PySem.W.kia_one PySem.W.kitx_tuple I.kIn ⟨o,l,k⟩ ok (fun z=>nomatch z) fin
 | @lst a vs ds h1 r1=>
  cases(show u=J4 a from c)
  obtain⟨j,_,⟨o,n,l,k,_⟩,_⟩:=I.list h1.sq;exact PySem.W.kia_one PySem.W.kitx_list I.kIn ⟨o,l,k⟩ ok (fun z=>nomatch z) fin
theorem Pn:Zs "isinstance"=some (.builtin "isinstance"):=by decide +kernel
theorem A5{T:String}{a:Str}{b:Pos}(w:T="list" ∨ T="tuple" ∨ T="int" ∨ T="bool" ∨ T="str" ∨ T="dict")(t:Gl X "isinstance")(s:X.mg "isinstance"=none)(j:Gl X a)(i:X.mg a=none)(g:Zs a=some (.type T))(r:a≠"__name__")(u:DE X e ga)
  (hs:J0 [e,.Name a b] X.env=(false,Zh e X.env)::J0 [.Name a b] X.env:=by rfl) (h:J0 [.Name a b] X.env=(false,Zh (.Name a b) X.env)::J0 [] X.env:=by rfl) (l:(a == ("__debug__":Str))=false:=by decide)
  (hpl:(Zn pos (J0 [.Name a b] X.env)).any (·.1)=false:=by rfl):DE X (.Call (.Name "isinstance" p) [e,.Name a b] [] pos) (vI T ga):=
 cY (xV (Ps w) t s Pn (cL u (cL (Vy (v:=.ty T) j i g rfl r l) dC h) hs) (he:=hs) (hpl:=hpl)) fun E H Q o=>by
  obtain⟨F,f,n,d,S,q,k⟩:=o;obtain⟨x,y,q⟩:=aG q;by_cases c:BV x=true
  ·rw [if_pos c]at q;cases q
  ·rw [if_neg c]at q;cases q
   exact⟨F,f,n,x,S,y,fun m A v B z=>⟨m,x,v,z,by simpa using c,rfl,k m A _ B (.bl _)⟩⟩
end
def Gj(a:ZX)(oN N':List Str)(scope:ZX)(inner:List (Option Nat)):Bool:=
 scope.kind == .function && scope.names.all (fun x=>x.2 != .cell) && scope.names.all (fun x=>x.2 != .local || scope.names.lookup x.1 == some .local) &&
 scope.names.all (fun x=>x.2 != .free || (scope.names.lookup x.1 == some .free && (a.names.lookup x.1 == some .cell || a.names.lookup x.1 == some .free))) && inner.length == N'.length &&
 (List.range inner.length).all fun i=>match inner[i]? with
  | some (some j)=>match N'[i]? with
   | some x=>oN[j]? == some x && scope.names.lookup x == some .free
   | none=>false
  | _=>true
theorem jJ{X:Cx}{N':List Str}{scope:ZX}{inner:List (Option Nat)}(a:ZX)(oN:List Str)(k:X.env.scope=a)(g:X.N=oN)(h:Gj a oN N' scope inner=true):o6 X N' scope inner:=by
 unfold Gj at h;simp only [QH]at h;obtain⟨⟨⟨⟨⟨a1,q⟩,p⟩,o⟩,n⟩,m⟩:=h
 refine⟨Yv a1,fun x b e=>?_,fun x b e=>?_,fun x b e=>?_,Yv n,fun i j e=>?_⟩
 ·have:=Q8.mp q x b
  rw [e]at this;cases this
 ·have:=Q8.mp p x b
  rw [e]at this;rcases Bool.or_eq_true_iff.mp this with z | z
  ·cases z
  ·exact Yv z
 ·have:=Q8.mp o x b
  rw [e]at this;rcases Bool.or_eq_true_iff.mp this with z | z
  ·cases z
  ·obtain⟨d,c⟩:=QM.mp z
   refine⟨Yv d,?_⟩
   rw [k];rcases Bool.or_eq_true_iff.mp c with z | z
   ·exact .inl (Yv z)
   ·exact .inr (Yv z)
 ·have f:i<inner.length:=(Qc.mp e).1
  have:=Q8.mp m i (Q3.mpr f)
  rw [e]at this;dsimp only at this
  split at this
  ·rename_i x l;obtain⟨d,c⟩:=QM.mp this
   exact⟨x,l,by rw [g];exact Yv d,Yv c⟩
  ·cases this
theorem dG{k:Nat}{A:Around}(r:cM k A):A.units+64<Zc:=by have:=r.un;lia
theorem jI{k:Nat}{A:Around}(r:cM k A):A.units+65<Zc:=by have:=r.un;lia
theorem l0{k:Nat}{A:Around}(r:cM k A):A.units+66<Zc:=by have:=r.un;lia
def zJ(K:PySem.W.Frag)(G:List D->Option D):Sp:=fun b H Q E=>∃(a:JY) (ns:List Int),b=[.ref a]/\cD K H a (ns.map V.int)/\ns.length<=63/\∀ H',Q (.bl true) H'
theorem qG{K:PySem.W.Frag}{F:JY->Prop}{H:Hp}:∀ ns:List Int,Reps K F H (ns.map J9) (ns.map V.int)
 | []=>.nil
 | n::ns=>.cons (.int n) (qG ns)
theorem Mp{P:J2}{w:J5}{K:PySem.W.Frag}{d:Str->Option YP}{base:Heap}{CX:iT}{k:Nat}{f:JY}{g:J6}{ps:List Str}{G:List D->Option D}(F:aM P w K d base CX k f g ps (aU K 1 G))
  (h:∀ ns:List Int,ns.length<=63->G [.list (ns.map J9)]=some (.bool true)):aM P w K d base CX k f g ps (zJ K G):=
 F.imp fun n H Q E i=>by
  obtain⟨a,ns,e,c,j,q⟩:=i;subst e
  refine⟨fun b=>H b≠none,[.list (ns.map J9)],.bool true,rfl,fun _ z=>z,.cons ?_ .nil,h ns j,fun p m v r l=>?_⟩
  ·rcases c with c | c
   ·refine .lst (.inl ⟨?_,c⟩) (qG ns)
    rcases c with c | ⟨o,c⟩ <;> (rw [c];simp)
   ·exact .lst (.inr (.inr c)) (qG ns)
  ·cases l;exact q m
theorem dV{P:J2}{w:J5}{K:PySem.W.Frag}{c:Str->Option YP}{base:Heap}{x a:Str}{b:Zm}{f:JY}{d:J6}{N ps:List Str}{k n m:Nat}{g:aA->Option aW}{G:List D->Option D}(j:G=cX m g)(e:ps.length=n)(h:N.length=m)(F:dR K x a b f d)(S:bR N ps (aS b))
  (i:∀(cdv:YP) (A:Around) (outer:List Env) (s:JZ) (H:Hp) (E:XK),cM k (A.deeper (UL a (aS b) s.heap.objs.size f cdv))->
   kT (kY aO P w K c base N a (aS b) f cdv A outer s H E).nox (dN b) g):aM P w K c base aO (k+1) f d ps (aU K n G):=by
 subst e h j;exact L4 F S i
end DL
namespace ST
open PySem PySem.SetTable
def fI(M i:Nat):Nat:=(i * 5+1) % (M+1)
def j2(M:Nat):Nat->Nat->Nat
 | 0,i=>i
 | n+1,i=>j2 M n (fI M i)
theorem uY(M:Nat):∀ a b i,j2 M (a+b) i=j2 M b (j2 M a i)
 | 0,b,i=>by rw [QZ];rfl
 | a+1,b,i=>by rw [Nat.succ_add];exact uY M a b (fI M i)
def Ed:Nat->List Nat
 | 7=>[0,1,6,7,4,5,2,3]
 | 15=>[0,1,6,15,12,13,2,11,8,9,14,7,4,5,10,3]
 | 31=>[0,1,6,15,28,13,2,27,24,25,30,7,20,5,26,19,16,17,22,31,12,29,18,11,8,9,14,23,4,21,10,3]
 | 63=>[0,1,6,47,28,45,2,59,56,25,62,7,20,5,58,19,48,49,54,31,12,29,50,43,40,9,46,55,4,53,42,3,32,33,38,15,60,13,34,27,24,57,30,39,52,37,26,51,16,17,22,63,44,61,18,11,8,41,14,23,36,21,10,35]
 | 255=>[0,1,70,239,156,109,2,123,120,25,254,71,148,5,58,83,240,49,182,159,140,157,114,43,104,73,110,247,132,53,170,3,224,97,38,79,124,205,226,219,88,121,222,167,116,101,26,179,208,145,150,255,108,253,82,139,72,169,78,87,100,149,138,99,192,193,6,175,92,45,194,59,56,217,190,7,84,197,250,19,176,241,118,95,76,93,50,235,40,9,46,183,68,245,106,195,160,33,230,15,60,141,162,155,24,57,158,103,52,37,218,115,144,81,86,191,44,189,18,75,8,105,14,23,36,85,74,35,128,129,198,111,28,237,130,251,248,153,126,199,20,133,186,211,112,177,54,31,12,29,242,171,232,201,238,119,4,181,42,131,96,225,166,207,252,77,98,91,216,249,94,39,244,229,154,51,80,17,22,127,236,125,210,11,200,41,206,215,228,21,10,227,64,65,134,47,220,173,66,187,184,89,62,135,212,69,122,147,48,113,246,223,204,221,178,107,168,137,174,55,196,117,234,67,32,161,102,143,188,13,34,27,152,185,30,231,180,165,90,243,16,209,214,63,172,61,146,203,136,233,142,151,164,213,202,163]
 | _=>[0,1,70,111,28,109,2,123,120,25,126,71,20,5,58,83,112,49,54,31,12,29,114,43,104,73,110,119,4,53,42,3,96,97,38,79,124,77,98,91,88,121,94,39,116,101,26,51,80,17,22,127,108,125,82,11,72,41,78,87,100,21,10,99,64,65,6,47,92,45,66,59,56,89,62,7,84,69,122,19,48,113,118,95,76,93,50,107,40,9,46,55,68,117,106,67,32,33,102,15,60,13,34,27,24,57,30,103,52,37,90,115,16,81,86,63,44,61,18,75,8,105,14,23,36,85,74,35]
def nM(M:Nat):Bool:=(j2 M (M+1) 0 == 0) && (List.range (M+1)).all fun j=>decide ((Ed M).getD j 0<=M) && j2 M ((Ed M).getD j 0) 0 == j
theorem LS:nM 7=true:=by decide +kernel
theorem LQ:nM 31=true:=by decide +kernel
theorem O7:nM 127=true:=by decide +kernel
theorem LP:nM 15=true:=by decide +kernel
theorem LR:nM 63=true:=by decide +kernel
theorem O8:nM 255=true:=by decide +kernel
def fE(M:Nat):Prop:=M=7 ∨ M=31 ∨ M=127 ∨ M=15 ∨ M=63 ∨ M=255
theorem fE.cyc{M:Nat}(g:fE M):nM M=true:=by
 rcases g with rfl | rfl | rfl | rfl | rfl | rfl
 ·exact LS
 ·exact LQ
 ·exact O7
 ·exact LP
 ·exact LR
 ·exact O8
theorem LO{M:Nat}(g:fE M):j2 M (M+1) 0=0/\∀ j,j<=M->∃ k,k<=M/\j2 M k 0=j:=by
 have h:=g.cyc;unfold nM at h;rw [QH,beq_iff_eq,Q8]at h
 refine⟨h.1,fun j a=>?_⟩
 have:=h.2 j (Q3.mpr (by lia))
 rw [QH,beq_iff_eq,decide_eq_true_eq]at this
 exact⟨_,this.1,this.2⟩
theorem cyc{M i j:Nat}(g:fE M)(b:i<=M)(a:j<=M):∃ k,k<=M/\j2 M k i=j:=by
 obtain⟨z,c⟩:=LO g;obtain⟨m,e,rfl⟩:=c i b;obtain⟨n,d,rfl⟩:=c j a;by_cases q:m<=n
 ·refine⟨n-m,by lia,?_⟩
  rw [<- uY];congr 1;lia
 ·refine⟨n+(M+1)-m,by lia,?_⟩
  rw [<- uY,show m+(n+(M+1)-m)=(M+1)+n by lia,uY,z]
def iV(M:Nat)(p:Probe):Probe:=
 if p.more > 0 then{ p with j:=p.j+1,more:=p.more-1 } else
 { p with j:=(leap M p.i p.perturb).1,more:=ZN M (leap M p.i p.perturb).1-(leap M p.i p.perturb).1,i:=(leap M p.i p.perturb).1,perturb:=(leap M p.i p.perturb).2 }
def run(M:Nat)(l:Nat × Nat):Probe:={ j:=l.1,more:=ZN M l.1-l.1,i:=l.1,perturb:=l.2,dummy:=none }
def L(M:Nat)(h:Int):Nat->Nat × Nat
 | 0=>(bits h % (M+1),bits h)
 | k+1=>leap M (L M h k).1 (L M h k).2
def P(M:Nat)(h:Int):Nat->Probe
 | 0=>run M (L M h 0)
 | n+1=>iV M (P M h n)
theorem vA(M:Nat)(h:Int):∀ k,(L M h k).1<=M
 | 0=>JL (Nat.mod_lt _ (Nat.succ_pos _))
 | k+1=>JL (Nat.mod_lt _ (Nat.succ_pos _))
theorem y9{M i:Nat}(h:i<=M):i<=ZN M i/\ZN M i<=M/\ZN M i-i<=9:=by
 unfold ZN
 split <;> lia
theorem Ak(M:Nat)(h:Int):∀ n,(P M h n).j+(P M h n).more<=M/\(P M h n).dummy=none
 | 0=>by
  have:=y9 (vA M h 0)
  show(L M h 0).1+(ZN M (L M h 0).1-(L M h 0).1)<=M/\none=none
  exact⟨by lia,rfl⟩
 | n+1=>by
  obtain⟨b,a⟩:=Ak M h n
  show(iV M (P M h n)).j+(iV M (P M h n)).more<=M/\(iV M (P M h n)).dummy=none
  unfold iV;split
  ·exact⟨by show(P M h n).j+1+((P M h n).more-1)<=M;lia,a⟩
  ·refine⟨?_,a⟩
   have:(leap M (P M h n).i (P M h n).perturb).1<=M:=JL (Nat.mod_lt _ (Nat.succ_pos _))
   have:=y9 this
   show(leap M (P M h n).i (P M h n).perturb).1+(ZN M (leap M (P M h n).i (P M h n).perturb).1-(leap M (P M h n).i (P M h n).perturb).1)<=M
   lia
theorem Aj(M:Nat)(h:Int)(n:Nat):(P M h n).j<=M:=by have:=(Ak M h n).1;lia
theorem Bf{M:Nat}{h:Int}{n k:Nat}(e:P M h n=run M (L M h k)):∀ d,d<=ZN M (L M h k).1-(L M h k).1->
  P M h (n+d)={ j:=(L M h k).1+d,more:=ZN M (L M h k).1-(L M h k).1-d,i:=(L M h k).1,perturb:=(L M h k).2,dummy:=none }
 | 0,_=>e
 | d+1,hd=>by
  show iV M (P M h (n+d))=_
  rw [Bf e d (by lia)];unfold iV;rw [if_pos (show ZN M (L M h k).1-(L M h k).1-d > 0 by lia)];rfl
theorem Fe{M:Nat}{h:Int}{n k:Nat}(e:P M h n=run M (L M h k)):P M h (n+(ZN M (L M h k).1-(L M h k).1)+1)=run M (L M h (k+1)):=by
 show iV M (P M h (n+(ZN M (L M h k).1-(L M h k).1)))=_
 rw [Bf e _ (Ql _)];unfold iV;rw [if_neg (show ¬ ZN M (L M h k).1-(L M h k).1-(ZN M (L M h k).1-(L M h k).1) > 0 by lia)];rfl
theorem DV(M:Nat)(h:Int):∀ k,∃ n,n<=10 * k/\P M h n=run M (L M h k)
 | 0=>⟨0,Ql _,rfl⟩
 | k+1=>by
  obtain⟨n,a,e⟩:=DV M h k
  have:=y9 (vA M h k)
  exact⟨_,by lia,Fe e⟩
theorem ET(M:Nat)(h:Int):∀ k,(L M h k).2=bits h / 32 ^ k
 | 0=>by show bits h=_;rw [Nat.pow_zero,Nat.div_one]
 | k+1=>by
  show(L M h k).2 / 32=_
  rw [ET M h k,Nat.div_div_eq_div_mul,<- Nat.pow_succ]
theorem Pl(h:Int):bits h<36893488147419103232:=by
 unfold bits
 have:h % (2 ^ 64:Int)<2 ^ 64:=JC _ (by decide)
 have a:(2 ^ 64:Int)=18446744073709551616:=by decide
 rw [a]at this ⊢;lia
theorem Dr(M:Nat)(h:Int):∀ k,(L M h (13+k)).2=0/\(L M h (13+k)).1=j2 M k (L M h 13).1
 | 0=>by
  refine⟨?_,rfl⟩
  rw [ET];exact Nat.div_eq_of_lt (Pl h)
 | k+1=>by
  obtain⟨b,a⟩:=Dr M h k
  show(L M h (13+k)).2 / 32=0/\((L M h (13+k)).1 * 5+1+(L M h (13+k)).2 / 32) % (M+1)=j2 M (k+1) (L M h 13).1
  rw [b,a,uY]
  exact⟨rfl,rfl⟩
theorem Gn{M:Nat}(g:fE M)(h:Int){j:Nat}(a:j<=M):∃ k,k<UZ M/\(L M h k).1=j:=by
 obtain⟨k,b,e⟩:=cyc g (vA M h 13) a
 exact⟨13+k,by unfold UZ;lia,by rw [(Dr M h k).2,e]⟩
theorem LL{M:Nat}(g:fE M)(h:Int){j:Nat}(a:j<=M):∃ n,n<10 * UZ M/\(P M h n).j=j:=by
 obtain⟨k,c,e⟩:=Gn g h a;obtain⟨n,b,q⟩:=DV M h k
 exact⟨n,by lia,by rw [q,<- e];rfl⟩
abbrev Up(l:List Nat):Prop:=l.Pairwise (· < ·)
theorem Up.at{l:List Nat}(s:Up l){i k x y:Nat}(b:l[i]?=some x)(a:l[k]?=some y)(h:i<k):x<y:=by
 obtain⟨d,rfl⟩:=Qc.mp b;obtain⟨c,rfl⟩:=Qc.mp a;exact Yy.mp s i k d c h
theorem Up.le{l:List Nat}(s:Up l){i k x y:Nat}(b:l[i]?=some x)(a:l[k]?=some y)(h:i<=k):x<=y:=by
 by_cases e:i=k
 ·subst e;rw [b]at a;cases a;exact Ql _
 ·exact Y2 (s.at b a (by lia))
theorem Up.nodup{l:List Nat}(s:Up l):l.Nodup:=s.imp fun h=>QB h
theorem CH(xs:Array Nat)(s:Up xs.toList)(j:Nat):∀ fuel lo hi,lo<=hi->hi<=xs.size->hi-lo<=fuel->
  (∀ i x,xs.toList[i]?=some x->i<lo->x<j)->(∀ i x,xs.toList[i]?=some x->hi<=i->j<=x)->
  below.go xs j fuel lo hi<=xs.size/\(∀ i x,xs.toList[i]?=some x->i<below.go xs j fuel lo hi->x<j)/\(∀ i x,xs.toList[i]?=some x->below.go xs j fuel lo hi<=i->j<=x)
 | 0,lo,hi,h1,h2,h3,a,b=>by
  have e:lo=hi:=by lia
  subst e
  exact⟨h2,a,b⟩
 | fuel+1,lo,hi,h1,h2,h3,a,b=>by
  unfold below.go;by_cases c:lo<hi
  ·rw [if_pos c];dsimp only
   have k:(lo+hi) / 2<xs.size:=by lia
   have h:xs.toList[(lo+hi) / 2]?=some (xs.getD ((lo+hi) / 2) j):=by
    rw [QE,Qw k]
    simp [Array.getD,k]
   by_cases d:xs.getD ((lo+hi) / 2) j<j
   ·rw [if_pos d];exact CH xs s j fuel _ _ (by lia) h2 (by lia) (fun i x g f=>YX (s.le g h (by lia)) d) b
   ·rw [if_neg d];exact CH xs s j fuel _ _ (by lia) (by lia) (by lia) a (fun i x g f=>QL (by lia) (s.le h g f))
  ·rw [if_neg c]
   have e:lo=hi:=by lia
   subst e
   exact⟨h2,a,b⟩
theorem rQ(xs:Array Nat)(s:Up xs.toList)(j:Nat):Zo xs j<=xs.size/\(∀ i x,xs.toList[i]?=some x->i<Zo xs j->x<j)/\(∀ i x,xs.toList[i]?=some x->Zo xs j<=i->j<=x):=
 CH xs s j _ _ _ (Q9 _) (Ql _) (by lia) (fun i x _ h=>absurd h (YE _)) fun i x a h=>by
  obtain⟨q,_⟩:=Qc.mp a;rw [Qg]at q;lia
structure gR(t:SetTable)(hs:List Int):Prop where
 good:fE t.mask
 dum:t.dummies=#[]
 len:t.place.toList.length=hs.length
 up:Up t.place.toList
 le:∀ x∈t.place.toList,x<=t.mask
 room:t.place.toList.length * 5<t.mask * 3
 reach:∀ q∈t.place.toList.zip hs,∃ n,(P t.mask q.2 n).j=q.1/\∀ m,m<n->(P t.mask q.2 m).j∈t.place.toList
theorem zF{t:SetTable}(h:t.dummies=#[])(s:Up t.place.toList)(j:Nat):(∃ i,t.slot j=.live i/\t.place.toList[i]?=some j) ∨ (t.slot j=.empty/\j∉t.place.toList):=by
 obtain⟨n,m,l⟩:=rQ t.place s j;unfold slot;dsimp only;by_cases c:(t.place[Zo t.place j]? == some j)=true
 ·rw [if_pos c];exact .inl ⟨_,rfl,by rw [QE];exact Yv c⟩
 ·rw [if_neg c,h];refine .inr ⟨rfl,fun g=>c ?_⟩;obtain⟨i,d⟩:=Q0 g
  have e:i=Zo t.place j:=by
   by_cases a:i<Zo t.place j
   ·have:=m i j d a;lia
   ·by_cases b:i=Zo t.place j
    ·exact b
    ·have k:Zo t.place j<t.place.toList.length:=by
      obtain⟨q,_⟩:=Qc.mp d;lia
     have f:=Qk k
     have:=s.at f d (by lia)
     have:=l _ _ f (Ql _)
     lia
  rw [<- e,<- QE,d];simp
theorem Lb{t:SetTable}(b:t.dummies=#[])(s:Up t.place.toList){j i:Nat}(h:t.slot j=.live i):t.place.toList[i]?=some j:=by
 rcases zF b s j with⟨d,a,c⟩ | ⟨a,_⟩
 ·rw [h]at a;cases a;exact c
 ·rw [h]at a;cases a
theorem Mq{p:Nat->Prop}[DecidablePred p]:∀ n,p n->∃ m,m<=n/\p m/\∀ k,k<m->¬ p k:=by
 intro n
 induction n using Nat.strongRecOn with
 | ind n d=>
  intro h;by_cases c:∃ k,k<n/\p k
  ·obtain⟨k,b,a⟩:=c;obtain⟨m,g,f,e⟩:=d k b a
   exact⟨m,by lia,f,e⟩
  ·exact⟨n,Ql _,h,fun k b a=>c ⟨k,b,a⟩⟩
theorem NY{M:Nat}{l:List Nat}(h:l.length<=M):∃ j,j<=M/\j∉l:=by
 refine Yz fun c=>?_
 have:List.range (M+1) ⊆ l:=fun j b=>Yz fun a=>c ⟨j,by have:=Q3.mp b;lia,a⟩
 have:=Yx List.nodup_range this
 rw [Ym]at this;lia
theorem FV{M:Nat}{l:List Nat}(g:fE M)(h:l.length<=M)(x:Int):∃ n,n<10 * UZ M/\(P M x n).j∉l/\∀ m,m<n->(P M x m).j∈l:=by
 obtain⟨j,e,c⟩:=NY h;obtain⟨n,o,f⟩:=LL g x e;obtain⟨m,i,b,a⟩:=Mq (p:=fun n=>(P M x n).j∉l) n (by rw [f];exact c)
 exact⟨m,by lia,b,fun k d=>Yz (a k d)⟩
section
variable {t:SetTable}{hs:List Int}{hashAt:Nat->Int}{h:Int}{n:Nat}
theorem Fx(T:gR t hs)(u:(P t.mask h n).j∉t.place.toList)(s:∀ m,m<n->(P t.mask h m).j∈t.place.toList):∀ fuel c,c<=n->n-c<fuel->
  (UH t hashAt h fuel (P t.mask h c)=some (.empty (P t.mask h n).j none)/\∀ m,c<=m->m<n->∀ i,t.slot (P t.mask h m).j=.live i->hashAt i≠h)
  ∨ ∃ m i,c<=m/\m<n/\t.slot (P t.mask h m).j=.live i/\hashAt i=h/\(∀ m',c<=m'->m'<m->∀ i,t.slot (P t.mask h m').j=.live i->hashAt i≠h)/\UH t hashAt h fuel (P t.mask h c)=some (.candidate (P t.mask h m).j i (P t.mask h (m+1)))
 | 0,c,_,hf=>absurd hf (YE _)
 | fuel+1,c,hc,hf=>by
  unfold UH;by_cases e:c=n
  ·subst e;rcases zF T.dum T.up (P t.mask h c).j with⟨i,f,l⟩ | ⟨f,_⟩
   ·exact absurd (QP l) u
   ·rw [f];refine .inl ⟨?_,fun m a b=>by lia⟩
    show some (Met.empty (P t.mask h c).j (P t.mask h c).dummy)=_
    rw [(Ak t.mask h c).2]
  ·rcases zF T.dum T.up (P t.mask h c).j with⟨i,f,l⟩ | ⟨_,l⟩
   ·rw [f];dsimp only;by_cases k:(hashAt i == h)=true
    ·rw [if_pos k];exact .inr ⟨c,i,Ql _,by lia,f,Yv k,fun m' a b=>by lia,rfl⟩
    ·rw [if_neg k];have r:hashAt i≠h:=fun e=>k (by rw [e];simp);rcases Fx T u s fuel (c+1) (by lia) (by lia)with⟨a,b⟩ | ⟨m,i',a1,a2,a3,a4,a5,a6⟩
     ·refine .inl ⟨a,fun m p g o d=>?_⟩;by_cases q:m=c
      ·subst q;rw [f]at d;cases d;exact r
      ·exact b m (by lia) g o d
     ·refine .inr ⟨m,i',by lia,a2,a3,a4,fun m' p g o d=>?_,a6⟩;by_cases q:m'=c
      ·subst q;rw [f]at d;cases d;exact r
      ·exact a5 m' (by lia) g o d
   ·exact absurd (s c (by lia)) l
theorem met(T:gR t hs)(k:(P t.mask h n).j∉t.place.toList){i j:Nat}(b:t.place.toList[i]?=some j)(g:hs[i]?=some h):∃ m,m<n/\(P t.mask h m).j=j:=by
 have f:(j,h)∈t.place.toList.zip hs:=QP (i:=i) (by rw [YA];exact⟨b,g⟩);obtain⟨m,e,a⟩:=T.reach _ f
 refine⟨m,Yz fun c=>k ?_,e⟩
 by_cases d:n=m
 ·subst d;rw [e];exact QP b
 ·exact a n (by lia)
end
theorem mP{a:Type}(xs:Array a)(p:Nat)(x:a):(Zu xs p x).toList=xs.toList.take p++x::xs.toList.drop p:=by
 rw [SetTable.toList_insertAt]
theorem Tq{t:SetTable}{hs:List Int}{h:Int}{n:Nat}(T:gR t hs)(B:(P t.mask h n).j∉t.place.toList)(A:∀ m,m<n->(P t.mask h m).j∈t.place.toList)
  (G:(t.place.toList.length+1) * 5<t.mask * 3) (pl:Bool):
  gR { (t.put (P t.mask h n).j).1 with plain:=pl } (hs.take (t.put (P t.mask h n).j).2++h::hs.drop (t.put (P t.mask h n).j).2):=by
 obtain⟨b1,F,E⟩:=rQ t.place T.up (P t.mask h n).j
 have c:∀ x,x∈(Zu t.place (Zo t.place (P t.mask h n).j) (P t.mask h n).j).toList ↔ x=(P t.mask h n).j ∨ x∈t.place.toList:=by
  intro x;rw [mP,QD,Qp]
  conv=>rhs;rw [<- QU (Zo t.place (P t.mask h n).j) t.place.toList,QD]
  constructor
  ·rintro(a | a | a)
   ·exact .inr (.inl a)
   ·exact .inl a
   ·exact .inr (.inr a)
  ·rintro(a | a | a)
   ·exact .inr (.inl a)
   ·exact .inl a
   ·exact .inr (.inr a)
 refine⟨T.good,?_,?_,?_,?_,?_,?_⟩
 ·show(if has t.dummies _=true then _ else t.dummies)=#[]
  rw [T.dum];rfl
 ·show(Zu t.place (Zo t.place (P t.mask h n).j) (P t.mask h n).j).toList.length=(hs.take (Zo t.place (P t.mask h n).j)++h::hs.drop (Zo t.place (P t.mask h n).j)).length
  rw [mP];simp only [Qd,QS,Qt,Yb];rw [T.len]
 ·show Up (Zu t.place (Zo t.place (P t.mask h n).j) (P t.mask h n).j).toList
  rw [mP];unfold Up;rw [Ya]
  have o:∀ x∈t.place.toList.take (Zo t.place (P t.mask h n).j),x<(P t.mask h n).j:=fun x f=>by
   obtain⟨i,d⟩:=Q0 f;rw [JD]at d
   split at d
   ·rename_i q;exact F i x d q
   ·cases d
  have p:∀ x∈t.place.toList.drop (Zo t.place (P t.mask h n).j),(P t.mask h n).j<x:=fun x f=>by
   obtain⟨i,d⟩:=Q0 f;rw [List.getElem?_drop]at d
   have:=E _ x d (by lia)
   have w:x≠(P t.mask h n).j:=fun e=>B (e ▸ QP d);lia
  refine⟨T.up.sublist (List.take_sublist _ _),Q6.mpr ⟨p,T.up.sublist (List.drop_sublist _ _)⟩,fun a s b r=>?_⟩
  rcases Qp.mp r with rfl | r
  ·exact o a s
  ·exact UN (o a s) (p b r)
 ·intro x f
  rcases(c x).mp f with rfl | f
  ·exact Aj _ _ _
  ·exact T.le x f
 ·show(Zu t.place (Zo t.place (P t.mask h n).j) (P t.mask h n).j).toList.length * 5<t.mask * 3
  rw [mP];simp only [Qd,QS,Qt,Yb];lia
 ·intro q v
  have u:(Zu t.place (Zo t.place (P t.mask h n).j) (P t.mask h n).j).toList.zip (hs.take (Zo t.place (P t.mask h n).j)++h::hs.drop (Zo t.place (P t.mask h n).j))=(t.place.toList.take (Zo t.place (P t.mask h n).j)).zip (hs.take (Zo t.place (P t.mask h n).j))++((P t.mask h n).j,h)::(t.place.toList.drop (Zo t.place (P t.mask h n).j)).zip (hs.drop (Zo t.place (P t.mask h n).j)):=by
   rw [mP,List.zip_append (by rw [QS,QS,T.len]),JB]
  have g:q=((P t.mask h n).j,h) ∨ q∈t.place.toList.zip hs:=by
   have l:q∈(Zu t.place (Zo t.place (P t.mask h n).j) (P t.mask h n).j).toList.zip (hs.take (Zo t.place (P t.mask h n).j)++h::hs.drop (Zo t.place (P t.mask h n).j)):=v;rw [u,QD,Qp]at l
   conv=>rhs;rw [<- QU (Zo t.place (P t.mask h n).j) t.place.toList,<- QU (Zo t.place (P t.mask h n).j) hs,List.zip_append (by rw [QS,QS,T.len]),QD]
   rcases l with a | a | a
   ·exact .inr (.inl a)
   ·exact .inl a
   ·exact .inr (.inr a)
  rcases g with rfl | g
  ·exact⟨n,rfl,fun m y=>(c _).mpr (.inr (A m y))⟩
  ·obtain⟨m,e,a⟩:=T.reach q g
   exact⟨m,e,fun k z=>(c _).mpr (.inr (a k z))⟩
structure eO(M:Nat)(hs:List Int)(ow:Array (Option Nat)):Prop where
 size:ow.size=M+1
 lt:∀ j i:Nat,ow[j]?=some (some i)->i<hs.length
 all:∀ i,i<hs.length->∃ j:Nat,ow[j]?=some (some i)
 inj:∀ j j' i:Nat,ow[j]?=some (some i)->ow[j']?=some (some i)->j=j'
 reach:∀(j i:Nat) (h:Int),ow[j]?=some (some i)->hs[i]?=some h->∃ n,(P M h n).j=j/\∀ m,m<n->∃ i',ow[(P M h m).j]?=some (some i')
theorem eO.free{M:Nat}{hs:List Int}{d:Array (Option Nat)}(W:eO M hs d)(h:hs.length<=M):∃ j:Nat,j<=M/\d[j]?=some none:=by
 refine Yz fun c=>?_
 have n:∀ j,j<=M->∃ i,d[j]?=some (some i):=fun j g=>by
  have f:j<d.size:=by rw [W.size];lia
  cases e:d[j]with
  | none=>exact absurd ⟨j,g,by rw [Qw f,e]⟩ c
  | some i=>exact⟨i,by rw [Qw f,e]⟩
 have e:∀ j,j<=M->d[j]?=some (some ((d.getD j none).getD 0)):=fun j g=>by
  obtain⟨i,k⟩:=n j g
  have f:j<d.size:=by rw [W.size];lia
  rw [k];rw [Qw f]at k
  have:d.getD j none=some i:=by simp [Array.getD,f];exact QC k
  rw [this];rfl
 have l:(List.range (M+1)).map (fun j=>(d.getD j none).getD 0) ⊆ List.range hs.length:=fun i k=>by
  obtain⟨j,g,rfl⟩:=QO.mp k;exact Q3.mpr (W.lt j _ (e j (by have:=Q3.mp g;lia)))
 have o:((List.range (M+1)).map (fun j=>(d.getD j none).getD 0)).Nodup:=by
  unfold List.Nodup;rw [Yl];refine List.Pairwise.imp_of_mem ?_ List.nodup_range;intro a b r q m p;refine m (W.inj a b _ (e a (by have:=Q3.mp r;lia)) ?_);rw [p];exact e b (by have:=Q3.mp q;lia)
 have:=Yx o l
 rw [Qi,Ym,Ym]at this;lia
theorem FW{M:Nat}{b:Array (Option Nat)}{h:Int}(hsz:b.size=M+1):∀ fuel k n,P M h n=run M (L M h k)->(∀ m,m<n->∃ i,b[(P M h m).j]?=some (some i))->
  (∃ kk,k<=kk/\kk<k+fuel/\b[(L M h kk).1]?=some none)->
  ∃ n',layClean.free M b fuel (L M h k).1 (L M h k).2=some (P M h n').j/\b[(P M h n').j]?=some none/\∀ m,m<n'->∃ i,b[(P M h m).j]?=some (some i)
 | 0,k,n,e,a,⟨kk,h1,h2,_⟩=>by lia
 | fuel+1,k,n,e,a,⟨kk,h1,h2,h3⟩=>by
  have z:=y9 (vA M h k)
  have f:∀ d,d<=ZN M (L M h k).1-(L M h k).1->b[(L M h k).1+d]?=some (b.getD ((L M h k).1+d) (some 0)):=fun d o=>by
   have s:(L M h k).1+d<b.size:=by lia
   rw [Qw s]
   simp [Array.getD,s]
  have p:∀ d,d<=ZN M (L M h k).1-(L M h k).1->(P M h (n+d)).j=(L M h k).1+d:=fun d o=>by rw [Bf e d o]
  unfold layClean.free
  cases q:(List.range (ZN M (L M h k).1+1-(L M h k).1)).find? fun d=>(b.getD ((L M h k).1+d) (some 0)).isNone with
  | some d=>
   rw [List.find?_range_eq_some]at q;obtain⟨w,v,u⟩:=q
   have o:d<=ZN M (L M h k).1-(L M h k).1:=by have:=Q3.mp v;lia
   refine⟨n+d,?_,?_,fun m x=>?_⟩
   ·rw [p d o]
   ·rw [p d o,f d o,Option.isNone_iff_eq_none.mp w]
   ·by_cases c:m<n
    ·exact a m c
    ·have:=u (m-n) (by lia)
     have g:m-n<=ZN M (L M h k).1-(L M h k).1:=by lia
     have h5:=p (m-n) g;rw [show n+(m-n)=m by lia]at h5;rw [h5,f (m-n) g]
     cases r:b.getD ((L M h k).1+(m-n)) (some 0)with
     | none=>rw [r]at this;simp at this
     | some i=>exact⟨i,rfl⟩
  | none=>
   rw [List.find?_eq_none]at q
   have l:∀ d,d<=ZN M (L M h k).1-(L M h k).1->∃ i,b[(L M h k).1+d]?=some (some i):=fun d o=>by
    have:=q d (Q3.mpr (by lia))
    rw [f d o]
    cases r:b.getD ((L M h k).1+d) (some 0)with
    | none=>rw [r]at this;simp at this
    | some i=>exact⟨i,rfl⟩
   have A:kk≠k:=fun y=>by
    subst y;obtain⟨i,t⟩:=l 0 (Q9 _);rw [Ul,h3]at t;cases t
   refine FW hsz fuel (k+1) _ (Fe e) (fun m x=>?_) ⟨kk,by lia,by lia,h3⟩;by_cases c:m<n
   ·exact a m c
   ·have g:m-n<=ZN M (L M h k).1-(L M h k).1:=by lia
    have h5:=p (m-n) g;rw [show n+(m-n)=m by lia]at h5;rw [h5];exact l (m-n) g
theorem eO.put{M:Nat}{hs:List Int}{f:Array (Option Nat)}{h:Int}{n:Nat}(W:eO M hs f)(r:f[(P M h n).j]?=some none)(w:∀ m,m<n->∃ i,f[(P M h m).j]?=some (some i)):
  eO M (hs++[h]) (f.setIfInBounds (P M h n).j (some hs.length)):=by
 have u:(P M h n).j<f.size:=by rw [W.size];have:=Aj M h n;lia
 have g:∀ j,(f.setIfInBounds (P M h n).j (some hs.length))[j]?=if(P M h n).j=j then some (some hs.length)else f[j]?:=fun j=>by
  rw [Array.getElem?_setIfInBounds];split
  ·first | rfl | rw [if_pos u]
  ·rfl
 have l:∀ j:Nat,(∃ i,f[j]?=some (some i))->∃ i,(f.setIfInBounds (P M h n).j (some hs.length))[j]?=some (some i):=fun j s=>by
  obtain⟨i,p⟩:=s;rw [g];split
  ·exact⟨_,rfl⟩
  ·exact⟨i,p⟩
 refine⟨by simpa using W.size,fun j i b=>?_,fun i p=>?_,fun j q i b d=>?_,fun j i x b o=>?_⟩
 ·rw [Qd,Qx];rw [g]at b
  split at b
  ·cases b;lia
  ·have:=W.lt j i b;lia
 ·rw [Qd,Qx]at p;by_cases c:i<hs.length
  ·obtain⟨j,b⟩:=W.all i c
   refine⟨j,?_⟩
   rw [g,if_neg (fun e=>by rw [e,b]at r;cases r)];exact b
  ·refine⟨(P M h n).j,?_⟩
   rw [g,if_pos rfl,show i=hs.length by lia]
 ·rw [g]at b d
  split at b
  ·rename_i e;cases b
   split at d
   ·rename_i y;rw [<- e,<- y]
   ·have:=W.lt q _ d;lia
  ·split at d
   ·cases d
    have:=W.lt j _ b;lia
   ·exact W.inj j q i b d
 ·rw [g]at b
  split at b
  ·rename_i e;cases b;rw [QI (Ql _),Nat.sub_self]at o;cases o
   exact⟨n,e,fun m t=>l _ (w m t)⟩
  ·rw [QQ (W.lt j i b)]at o;obtain⟨m,e,a⟩:=W.reach j i x b o
   exact⟨m,e,fun k v=>l _ (a k v)⟩
def Ay(M:Nat)(acc:Option (Array (Option Nat) × Nat))(h:Int):Option (Array (Option Nat) × Nat):=do
 let(owner,k) <- acc
 let j <- layClean.free M owner (UZ M) (bits h % (M+1)) (bits h)
 pure (owner.setIfInBounds j (some k),k+1)
theorem FR{M:Nat}(g:fE M):∀(rest done:List Int) (ow:Array (Option Nat)),eO M done ow->(done++rest).length<=M->∃ ow',rest.foldl (Ay M) (some (ow,done.length))=some (ow',(done++rest).length)/\eO M (done++rest) ow'
 | [],done,ow,W,_=>⟨ow,by rw [QR];rfl,by rw [QR];exact W⟩
 | h::rest,done,ow,W,hl=>by
  rw [Qd,Qt]at hl;obtain⟨j,l,o⟩:=W.free (by lia);obtain⟨i,q,e⟩:=Gn g h l;obtain⟨n,f,d,c⟩:=FW (h:=h) W.size (UZ M) 0 0 rfl (fun m k=>absurd k (YE _)) ⟨i,Q9 _,by lia,by rw [e];exact o⟩;have p:=W.put d c;obtain⟨ow',b,a⟩:=FR g rest (done++[h]) _ p (by simp;lia)
  refine⟨ow',?_,by rw [<- List.append_cons]at a;exact a⟩
  rw [YF]
  have:Ay M (some (ow,done.length)) h=some (ow.setIfInBounds (P M h n).j (some done.length),(done++[h]).length):=by
   show(layClean.free M ow (UZ M) (L M h 0).1 (L M h 0).2).bind _=_
   rw [f,Qd];rfl
  rw [this,b,<- List.append_cons]
theorem Ni(M:Nat):eO M [] (Array.replicate (M+1) none):=by
 have:∀(j:Nat) (i:Nat),(Array.replicate (M+1) (none:Option Nat))[j]?=some (some i)->False:=fun j i h=>by
  rw [Array.getElem?_replicate]at h
  split at h <;> simp at h
 exact⟨by simp,fun j i h=>(this j i h).elim,fun i a=>absurd a (YE _),fun j b i h=>(this j i h).elim,fun j i _ h=>(this j i h).elim⟩
theorem SM{M:Nat}(g:fE M)(hs:Array Int)(a:hs.size<=M):∃ ow,layClean M hs=some ow/\eO M hs.toList ow:=by
 obtain⟨ow,c,b⟩:=FR g hs.toList [] _ (Ni M) (by simpa using a)
 refine⟨ow,?_,b⟩
 unfold layClean;rw [<- Array.foldl_toList]
 show(hs.toList.foldl (Ay M) (some (Array.replicate (M+1) none,0))).map (·.1)=_
 rw [show(0:Nat)=([]:List Int).length from rfl,c];rfl
def gX(M:Nat)(a:Array (Option Nat)):List (Nat × Nat):=(List.range (M+1)).filterMap fun j=>(a.getD j none).map (j,·)
theorem o9{M:Nat}{hs:List Int}{a:Array (Option Nat)}(W:eO M hs a)(q:Nat × Nat):q∈gX M a ↔ q.1<=M/\a[q.1]?=some (some q.2):=by
 unfold gX;rw [List.mem_filterMap];constructor
 ·rintro⟨j,d,e⟩
  have b:j<a.size:=by rw [W.size];exact Q3.mp d
  cases c:a.getD j none with
  | none=>rw [c]at e;cases e
  | some i=>
   rw [c]at e;cases e
   refine⟨by have:=Q3.mp d;show j<=M;lia,?_⟩
   show a[j]?=some (some i)
   rw [Qw b]
   simp [Array.getD,b]at c
   rw [c]
 ·rintro⟨g,f⟩
  have b:q.1<a.size:=by rw [W.size];lia
  refine⟨q.1,Q3.mpr (by lia),?_⟩
  rw [Qw b]at f
  have:a.getD q.1 none=some q.2:=by simp [Array.getD,b];exact QC f
  rw [this];rfl
theorem G3(M:Nat)(e:Array (Option Nat)):(gX M e).Pairwise fun p q=>p.1<q.1:=by
 unfold gX;rw [List.pairwise_filterMap];refine List.Pairwise.imp ?_ List.pairwise_lt_range;intro a b f x d y c
 cases h:e.getD a none with
 | none=>rw [h]at d;cases d
 | some i=>
  cases g:e.getD b none with
  | none=>rw [g]at c;cases c
  | some k=>
   rw [h]at d;rw [g]at c
   cases d;cases c
   exact f
theorem HI{hs:Array Int}{M:Nat}(z w:Nat)(le pl:Bool)(g:fE M)(B:hs.size * 5<M * 3):
  ∃ t' order,laid M z w le pl hs=some (t',order)/\List.Perm order.toList (List.range hs.size)/\gR t' (order.toList.map fun i=>hs.toList.getD i 0)/\t'.led=le/\t'.plain=pl:=by
 obtain⟨d,F,W⟩:=SM g hs (by lia)
 have f:List.Perm ((gX M d).map (·.2)) (List.range hs.size):=by
  rw [List.perm_ext_iff_of_nodup ?_ List.nodup_range]
  ·intro i;rw [QO,Q3];constructor
   ·rintro⟨q,h,rfl⟩
    have:=W.lt _ _ ((o9 W q).mp h).2
    simpa using this
   ·intro v;obtain⟨j,y⟩:=W.all i (by simpa using v);have u:j<d.size:=(Array.getElem?_eq_some_iff.mp y).1
    exact⟨(j,i),(o9 W (j,i)).mpr ⟨by rw [W.size]at u;show j<=M;lia,y⟩,rfl⟩
  ·unfold List.Nodup;rw [Yl];refine List.Pairwise.imp_of_mem ?_ (G3 M d);intro p q t h l E;have a:=((o9 W p).mp t).2;have b:=((o9 W q).mp h).2;rw [E]at a
   have:=W.inj _ _ _ a b
   lia
 have o:(gX M d).length=hs.size:=by
  have:=f.length_eq
  rwa [Qi,Ym]at this
 refine⟨{ mask:=M,place:=((gX M d).map (·.1)).toArray,dummies:=#[],finger:=z,led:=le,moves:=w,plain:=pl },((gX M d).map (·.2)).toArray,?_,f,?_,rfl,rfl⟩
 ·unfold laid;rw [F];rfl
 ·refine⟨g,rfl,?_,?_,?_,?_,?_⟩
  ·show((gX M d).map (·.1)).length=(((gX M d).map (·.2)).map fun i=>hs.toList.getD i 0).length
   simp
  ·show Up ((gX M d).map (·.1))
   unfold Up;rw [Yl];exact G3 M d
  ·intro x s;have r:x∈(gX M d).map (·.1):=s;obtain⟨q,h,rfl⟩:=QO.mp r
   exact((o9 W q).mp h).1
  ·show((gX M d).map (·.1)).length * 5<M * 3
   rw [Qi,o];exact B
  ·intro q h;have k:q∈((gX M d).map (·.1)).zip (((gX M d).map (·.2)).map fun i=>hs.toList.getD i 0):=h;rw [Yo,List.zip_map']at k;obtain⟨p,t,rfl⟩:=QO.mp k;obtain⟨a,b⟩:=(o9 W p).mp t;have l:=W.lt _ _ b
   have s:hs.toList[p.2]?=some (hs.toList.getD p.2 0):=by
    rw [Jg,Qk l];rfl
   obtain⟨n,e,c⟩:=W.reach _ _ _ b s
   refine⟨n,e,fun m A=>?_⟩
   obtain⟨i,v⟩:=c m A
   show(P M (hs.toList.getD p.2 0) m).j∈(gX M d).map (·.1)
   exact QO.mpr ⟨((P M (hs.toList.getD p.2 0) m).j,i),(o9 W _).mpr ⟨Aj _ _ _,v⟩,rfl⟩
theorem Wj{t:SetTable}{hs:Array Int}{a M:Nat}(c:Zj a-1=M)(g:fE M)(b:hs.size * 5<M * 3):
  ∃ t' order,t.relaid hs a=some (t',order)/\List.Perm order.toList (List.range hs.size)/\gR t' (order.toList.map fun i=>hs.toList.getD i 0)/\t'.led=t.led/\t'.plain=t.plain:=by
 unfold relaid;rw [c];exact HI _ _ _ _ g b
section
variable {prog:J2}{w:J5}{A:Around}{E:YP->JZ->Prop}{s:JZ}
abbrev TK(prog:J2)(w:J5)(h:Heap)(k:List Int)(a:JY):Prop:=IsTupleKey (UT prog w) h k a
abbrev TH(prog:J2)(w:J5)(k:List Int):Int:=tupleKeyHash (UT prog w) k
theorem items_int{b:List Int}{vs:List YP}(h:ItemsAre (UT prog w) b vs):∀ v∈vs,∃ i t,v=.int i t:=by
 induction h with
 | nil=>intro v a;simp at a
 | @cons k v' b vs h1 _ ih=>
  intro v a;rcases Qp.mp a with rfl | a
  ·obtain⟨t,e⟩:=Uk h1
   exact⟨k,t,e⟩
  ·exact ih v a
theorem GJ{k:List Int}{a:JY}{Q:Bool->JZ->Prop}(l:TK prog w s.heap k a)(h:Q false s):J1 (J3 prog w) A (ofAClassStatement 8 (.ref a)) Q E s:=by
 have y:=l.typeIs;obtain⟨o,f,n,p,_,x,q⟩:=l;have m:=items_int q;unfold ofAClassStatement;refine Qa (Ja y ?_)
 show J1 _ _ (do let b <- (if("tuple" == "tuple")=true then pure true else isSubtype (.type "tuple") (.type "tuple"));_) Q E s
 refine Qa ?_;rw [if_pos (by decide)];refine Qb ?_;simp only [Yf,Qj,if_false];refine Qa (Js p x ?_);dsimp only;refine Qa ?_;rw [<- YZ];refine Yw _ (fun c r e=>r.1=none/\e=s/\∀ v∈c,∃ i t,v=UO i t) _ ?_ ?_ _ _ ⟨rfl,rfl,m⟩
 ·rintro v c r e ⟨j,rfl,d⟩;obtain⟨i,t,rfl⟩:=d v Qo;refine Qa ?_;unfold ofAClassStatement;refine Qb ?_;simp only [Qj,if_false];exact Qb ⟨rfl,rfl,fun u g=>d u (Qf _ g)⟩
 ·rintro⟨B,z⟩ e ⟨j,rfl,_⟩
  simp only at j
  subst j;exact Qb h
theorem Pp{k:List Int}{a:JY}{Q:Bool->JZ->Prop}(j:TK prog w s.heap k a)(h:Q true s):J1 (J3 prog w) A (hashByValue 8 (.ref a)) Q E s:=by
 have x:=j.typeIs;obtain⟨o,d,n,m,_,q,p⟩:=j;have l:=items_int p;unfold hashByValue;refine Qa (JG x F.slot_tuple_hash.lookup ?_);dsimp only;refine Qa (Js m q ?_);refine Qa ?_
 show J1 _ _ (forIn d _ _) _ _ s
 rw [<- YZ];refine Yw _ (fun b r e=>r.1=none/\e=s/\∀ v∈b,∃ i t,v=UO i t) _ ?_ ?_ _ _ ⟨rfl,rfl,l⟩
 ·rintro v b r e ⟨g,rfl,c⟩;obtain⟨i,t,rfl⟩:=c v Qo;refine Qa ?_;unfold hashByValue;refine Qb ?_;simp only [Yf,Qj,if_false];exact Qb ⟨rfl,rfl,fun u f=>c u (Qf _ f)⟩
 ·rintro⟨z,y⟩ e ⟨g,rfl,_⟩
  simp only at g
  subst g;exact Qb h
theorem GP{k:List Int}{a:JY}{d:List YP}{Q:Bool->JZ->Prop}(m:TK prog w s.heap k a)(hs:∀ y∈d,∃ k' b,y=.ref b/\TK prog w s.heap k' b)(h:Q false s):
  J1 (J3 prog w) A (searchCouldBeSeen (.ref a) d) Q E s:=by
 unfold searchCouldBeSeen;refine Qa ?_;refine Yw _ (fun e r i=>r.1=none/\i=s/\∀ y∈e,∃ k' b,y=.ref b/\TK prog w s.heap k' b) _ ?_ ?_ _ _ ⟨rfl,rfl,hs⟩
 ·rintro v e r i ⟨l,rfl,g⟩;have f:∀ y∈e,∃ k' b,y=.ref b/\TK prog w i.heap k' b:=fun u j=>g u (Qf _ j);obtain⟨k',b,rfl,n⟩:=g v Qo;dsimp only;by_cases c:(a == b)=true
  ·rw [c];simp only [Bool.true_or,if_true];exact Qb ⟨rfl,rfl,f⟩
  ·rw [if_neg (by simp [carriedByValue,c])];refine Qa (wpAny_eqIsQuiet_tuple m ?_);simp only [Yf,Qj,if_false];refine Qa (wpAny_eqIsQuiet_tuple n ?_);simp only [Yf,Qj,if_false];refine Qa (GJ m ?_);simp only [Qj,if_false];refine Qa (GJ n ?_);simp only [Qj,if_false];exact Qb ⟨rfl,rfl,f⟩
 ·rintro⟨p,o⟩ i ⟨l,rfl,_⟩
  simp only at l
  subst l;exact Qb h
end
section
variable {prog:J2}{w:J5}{A:Around}{E:YP->JZ->Prop}{s:JZ}
inductive bS(prog:J2)(w:J5)(h:Heap):List (Int × YP)->List (List Int)->Prop
 | nil:bS prog w h [] []
 | cons {k:List Int}{b:JY}{es:List (Int × YP)}{ks:List (List Int)}:TK prog w h k b->bS prog w h es ks->bS prog w h ((TH prog w k,.ref b)::es) (k::ks)
theorem bS.at{h:Heap}{es:List (Int × YP)}{a:List (List Int)}(X:bS prog w h es a):∀{i:Nat}{e:Int × YP},es[i]?=some e->∃ k b,a[i]?=some k/\e=(TH prog w k,.ref b)/\TK prog w h k b:=by
 induction X with
 | nil=>intro i e h;simp at h
 | @cons k b es a h1 _ ih=>
  intro i e h
  cases i with
  | zero=>cases h;exact⟨k,b,rfl,rfl,h1⟩
  | succ i=>exact ih (i:=i) (by simpa using h)
theorem bS.length{h:Heap}{es:List (Int × YP)}{a:List (List Int)}(X:bS prog w h es a):es.length=a.length:=by
 induction X with
 | nil=>rfl
 | cons _ _ b=>simp [b]
theorem bS.append{h:Heap}{es b:List (Int × YP)}{c a:List (List Int)}(X:bS prog w h es c)(Y:bS prog w h b a):bS prog w h (es++b) (c++a):=by
 induction X with
 | nil=>exact Y
 | cons e _ d=>exact .cons e d
theorem bS.take{h:Heap}{es:List (Int × YP)}{a:List (List Int)}(X:bS prog w h es a):∀ n,bS prog w h (es.take n) (a.take n):=by
 induction X with
 | nil=>intro n;simpa using bS.nil
 | cons c _ b=>
  intro n
  cases n with
  | zero=>exact .nil
  | succ n=>exact .cons c (b n)
theorem bS.drop{h:Heap}{es:List (Int × YP)}{a:List (List Int)}(X:bS prog w h es a):∀ n,bS prog w h (es.drop n) (a.drop n):=by
 induction X with
 | nil=>intro n;simpa using bS.nil
 | @cons k b es a h1 hr ih=>
  intro n
  cases n with
  | zero=>exact .cons h1 hr
  | succ n=>exact ih n
theorem bS.mono{h h':Heap}{es:List (Int × YP)}{ks:List (List Int)}(X:bS prog w h es ks)(m:∀ k b,TK prog w h k b->TK prog w h' k b):bS prog w h' es ks:=by
 induction X with
 | nil=>exact .nil
 | cons c _ a=>exact .cons (m _ _ c) a
theorem bS.pick{h:Heap}{es:List (Int × YP)}{a:List (List Int)}(X:bS prog w h es a):∀(l:List Nat),(∀ i∈l,i<es.length)->bS prog w h (l.filterMap (es[·]?)) (l.filterMap (a[·]?)):=by
 intro l
 induction l with
 | nil=>intro _;exact .nil
 | cons i l e=>
  intro c;have d:=c i Qo;obtain⟨k,b,n,m,g⟩:=X.at (Qk d);rw [List.filterMap_cons_some (b:=(TH prog w k,J4 b)) (by rw [Qk d,m]),List.filterMap_cons_some (b:=k) n];exact .cons g (e fun j f=>c j (Qf _ f))
theorem gR.fits{t:SetTable}{hs:List Int}(T:gR t hs){n:Nat}(e:hs.length=n):t.fits n=true:=by
 have a:=T.len;have b:=T.room;rw [Qg]at a b;unfold Z9 Ua;rw [T.dum,a,e];rw [a]at b;simp only [QH,beq_iff_eq,decide_eq_true_eq]
 refine⟨?_,?_⟩
 ·trivial
 ·show n+0<=t.mask
  lia
theorem gR.odd{t:SetTable}{hs:List Int}(T:gR t hs):t.gaveWay=false:=by
 unfold SetTable.gaveWay
 rcases T.good with h | h | h | h | h | h <;> rw [h] <;> rfl
theorem KS{a x:JY}{o:Obj}{es:Array (Int × YP)}{ep:Nat}{t:SetTable}{H:List (List Int)}{k:List Int}{n:Nat}{Q:SetFound->JZ->Prop}
  (hu:A.units<Zc) (W:s.heap.get? a=some o) (hd:o.data=.set es ep t) (T:gR t (es.toList.map (·.1))) (X:bS prog w s.heap es.toList H) (hk:TK prog w s.heap k x)
  (h1:(P t.mask (TH prog w k) n).j∉t.place.toList) (h2:∀ m,m<n->(P t.mask (TH prog w k) m).j∈t.place.toList)
  (q1:k∈H->Q (.there none) s) (q2:k∉H->Q (.free (P t.mask (TH prog w k) n).j false) s):
  ∀ fuel c,c<=n->n<10 * UZ t.mask->n-c<fuel->(∀ m,m<c->∀ i,t.slot (P t.mask (TH prog w k) m).j=.live i->H[i]?≠some k)->∀ stand:Option Probe,stand.getD (t.probeStart (TH prog w k))=P t.mask (TH prog w k) c->
  J1 (J3 prog w) A (setSearchFrom a (.ref x) (TH prog w k) true fuel stand) Q E s
 | 0,c,_,_,hf,_,_,_=>absurd hf (YE _)
 | fuel+1,c,hc,hN,hf,inv,stand,hst=>by
  have r:t.fits es.size=true:=T.fits (by simp);unfold setSearchFrom;refine Qa (QT W hd r ?_);dsimp only;rw [hst,if_neg (by rw [T.odd];exact Qq)];refine Qa (Qb ?_);generalize O:t.probe _ (TH prog w k) (P t.mask (TH prog w k) c)=met;obtain⟨f,a4,O⟩:∃ f:Nat->Int,(∀ i,f i=(es[i]?.map (·.1)).getD 0)/\t.probe f (TH prog w k) (P t.mask (TH prog w k) c)=met:=⟨_,fun _=>rfl,O⟩
  have I:∀ m i,t.slot (P t.mask (TH prog w k) m).j=.live i->f i≠TH prog w k->H[i]?≠some k:=fun m i F Y Z=>by
   have U:=Lb T.dum T.up F
   have q:i<es.toList.length:=by
    have:=(Qc.mp U).1
    rw [T.len]at this
    simpa using this
   obtain⟨B,b,u,N,e3⟩:=X.at (Qk q);rw [Z]at u;cases u;apply Y;rw [a4,<- QE,Qk q,N];rfl
  have a3:=Fx (hashAt:=f) T h1 h2 (10 * UZ t.mask) c hc (by lia);rcases a3 with⟨g1,g2⟩ | ⟨m,i,g1,g2,g3,g4,g5,g6⟩
  ·have:met=some (.empty (P t.mask (TH prog w k) n).j none):=O.symm.trans g1
   subst this;dsimp only;refine Qb (q2 fun K=>?_);obtain⟨i,F⟩:=Q0 K
   have q:i<es.toList.length:=by rw [X.length];exact(Qc.mp F).1
   obtain⟨B,b,u,N,e3⟩:=X.at (Qk q);rw [F]at u;cases u
   have J:i<t.place.toList.length:=by rw [T.len];simpa using q
   obtain⟨m,hm,hj⟩:=met T h1 (Qk J) (h:=TH prog w k) (by rw [QF,Qk q,N];rfl);obtain⟨p,z,d⟩ | ⟨_,d⟩:=zF T.dum T.up (P t.mask (TH prog w k) m).j
   ·have a0:p=i:=by
     rw [hj]at d;have a1:=Qk J;by_cases S:p<i
     ·have:=T.up.at d a1 S;lia
     ·by_cases R:i<p
      ·have:=T.up.at a1 d R;lia
      ·lia
    subst a0;by_cases cm:m<c
    ·exact inv m cm p z F
    ·exact I m p z (g2 m (by lia) hm p z) F
   ·rw [hj]at d;exact d (Jd _)
  ·have:met=some (.candidate (P t.mask (TH prog w k) m).j i (P t.mask (TH prog w k) (m+1))):=O.symm.trans g6
   subst this;have U:=Lb T.dum T.up g3
   have q:i<es.toList.length:=by
    have:=(Qc.mp U).1
    rw [T.len]at this
    simpa using this
   obtain⟨B,b,u,N,e3⟩:=X.at (Qk q)
   have M:es[i]?=some (TH prog w B,.ref b):=by rw [<- QE,Qk q,N]
   dsimp only
   have v:∀ y∈(es.filter (fun x=>x.1 == TH prog w k)).toList.map (fun x=>x.2),∃ B b,y=.ref b/\TK prog w s.heap B b:=fun y hy=>by
    obtain⟨e,he,rfl⟩:=QO.mp hy
    have a5:e∈es.toList:=by
     rw [Array.toList_filter]at he
     exact(QW.mp he).1
    obtain⟨i2,a2⟩:=Q0 a5;obtain⟨k2,b2,_,z2,z3⟩:=X.at a2
    exact⟨k2,b2,by rw [z2],z3⟩
   split
   all_goals try (refine Qa (GP hk v ?_);rw [if_neg Qq])
   all_goals
    rw [M];dsimp only;refine Qa (Yg (wpAny_eqBool_tuple hu e3 hk ?_));refine Qa (QT W hd r ?_);dsimp only;by_cases g:B=k
    ·rw [if_pos (by simp [g])];exact Qb (q1 (g ▸ QP u))
    ·rw [if_neg (by simp [g]),show t.sameMemory t.moves t.mask=some true by unfold sameMemory;simp];dsimp only;rw [if_pos rfl,g3];dsimp only;rw [M];dsimp only;refine Qa (wpAny_isSame_ref_self ?_);simp only [if_true];refine Qa (Qb ?_);dsimp only;rw [if_neg (by simp [g])];refine KS hu W hd T X hk h1 h2 q1 q2 fuel (m+1) (by lia) hN (by lia) (fun G a6 p l=>?_) _ rfl;by_cases S:G<c
     ·exact inv G S p l
     ·by_cases R:G=m
      ·subst R;rw [g3]at l;cases l;rw [u];exact fun e=>g (QC e)
      ·exact I G p l (g5 G (by lia) (by lia) p l)
end
section
variable {prog:J2}{w:J5}{A:Around}{E:YP->JZ->Prop}{s:JZ}
theorem TK.keep{h h':Heap}{a b:JY}{o:Obj}{es:Array (Int × YP)}{ep:Nat}{t:SetTable}{k:List Int}(i:h.get? a=some o)(l:o.data=.set es ep t)(hs:Zk a h h')(x:TK prog w h k b):TK prog w h' k b:=by
 obtain⟨g,c,n,e,m,d,j⟩:=x
 have f:b≠a:=by
  rintro rfl
  obtain rfl:g=o:=QC (e.symm.trans i)
  rw [l]at d;exact nomatch d
 exact⟨g,c,n,(hs.2 b f).trans e,m,d,j⟩
def cZ(w:J5):Bool := !w.params.followText "set-order"
def cT(prog:J2)(w:J5)(V:YP->Prop)(h:Heap)(a:JY)(b:List (List Int)):Prop:=
 ∃ o es ep t,h.get? a=some o/\o.ExactSet/\o.data=.set es ep t/\gR t (es.toList.map (·.1))/\(t.plain=true/\t.led=cZ w)/\bS prog w h es.toList b/\b.Nodup/\∀ e∈es.toList,V e.2
theorem BR(es:List (Int × YP)):∀ l:List Nat,(∀ i∈l,i<es.length)->(l.filterMap (es[·]?)).map (·.1)=l.map fun i=>(es.map (·.1)).getD i 0
 | [],_=>rfl
 | i::l,h=>by
  have a:=h i Qo;rw [List.filterMap_cons_some (b:=es[i]) (Qk a),Qm,Qm,BR es l fun j c=>h j (Qf _ c)];congr 1;rw [Jg,QF,Qk a];rfl
theorem P1{t:SetTable}{hs:List Int}(T:gR t hs)(b:(t.place.toList.length+1) * 5 >= t.mask * 3)(c:t.place.toList.length+1<=76):
  ∃ M,Zj (grown (t.place.toList.length+1))-1=M/\fE M/\(t.place.toList.length+1) * 5<M * 3/\¬ Zj (grown (t.place.toList.length+1)) > sizeLine:=by
 have a:=T.room;rcases T.good with g | g | g | g | g | g
 ·rw [g]at a b
  have e:t.place.toList.length+1=5:=by lia
  rw [e]
  exact⟨31,by decide,.inr (.inl rfl),by decide,by rw [Yj];decide⟩
 ·rw [g]at a b
  have e:t.place.toList.length+1=19:=by lia
  rw [e]
  exact⟨127,by decide,.inr (.inr (.inl rfl)),by decide,by rw [Yj];decide⟩
 ·rw [g]at a b;lia
 ·rw [g]at a b
  have e:t.place.toList.length+1=9:=by lia
  rw [e]
  exact⟨63,by decide,.inr (.inr (.inr (.inr (.inl rfl)))),by decide,by rw [Yj];decide⟩
 ·rw [g]at a b
  have e:t.place.toList.length+1=38:=by lia
  rw [e]
  exact⟨255,by decide,.inr (.inr (.inr (.inr (.inr rfl)))),by decide,by rw [Yj];decide⟩
 ·rw [g]at a b;lia
theorem Iv{V:YP->Prop}{a:JY}{o:Obj}{es:Array (Int × YP)}{ep:Nat}{t:SetTable}{ks:List (List Int)}{d M:Nat}{Q:Unit->JZ->Prop}
  (v:s.heap.get? a=some o) (y:o.ExactSet) (r:o.data=.set es ep t) (p:t.fits es.size=true) (z:t.plain=true/\t.led=cZ w) (X:bS prog w s.heap es.toList ks) (x:ks.Nodup) (O:∀ e∈es.toList,V e.2)
  (R:Zj d-1=M) (g:fE M) (I:es.size * 5<M * 3) (hz:¬ Zj d > sizeLine) (hsz:es.size<=sizeLine)
  (h:∀ h' ks',Zk a s.heap h'->cT prog w V h' a ks'->List.Perm ks' ks->Q () { s with heap:=h' }):
  J1 (J3 prog w) A (setRelay a d) Q E s:=by
 obtain⟨l,c,H,u,G,F,B⟩:=Wj (t:=t) (hs:=es.map (·.1)) R g (by simpa using I)
 have n:∀ i∈c.toList,i<es.toList.length:=fun i J=>by
  have:=Q3.mp (u.mem_iff.mp J)
  simpa using this
 have q:(c.filterMap (es[·]?)).toList=c.toList.filterMap (es.toList[·]?):=by
  rw [JE];congr 1
  funext i
  rw [QE]
 have j:List.Perm (c.filterMap (es[·]?)).toList es.toList:=by
  rw [JE]
  refine(u.filterMap _).trans ?_
  rw [Jf,filterMap_getElem?_range]
 have f:(c.filterMap (es[·]?)).size=es.size:=by rw [<- Qg,j.length_eq,Qg]
 unfold setRelay;refine Qa (QT v r p ?_);dsimp only;rw [if_neg hz];rw [H];refine Qa ?_
 show J1 _ _ (if((c.filterMap (es[·]?)).size != es.size)=true then _ else pure (c.filterMap (es[·]?),l)) _ _ s
 rw [if_neg (by simp [f])];refine Qb ?_;dsimp only;refine Jm v r ?_ (by rw [f];exact hsz)
 have K:(s.heap.update a (Zy (c.filterMap (es[·]?)) l)).get? a=some { o with data:=.set (c.filterMap (es[·]?)) (ep+1) l }:=by
  have:=Yh (Zy (c.filterMap (es[·]?)) l) v (by rw [Jt _ l r];rfl)
  rw [Jt _ l r]at this;exact this
 have m:=Q2 s.heap a (Zy (c.filterMap (es[·]?)) l);refine h _ (c.toList.filterMap (ks[·]?)) m ⟨_,_,_,l,K,y,rfl,?_,⟨by rw [B];exact z.1,by rw [F];exact z.2⟩,?_,?_,fun e N=>O e (j.mem_iff.mp N)⟩ ?_
 ·rw [q,BR _ _ n]
  simpa using G
 ·rw [q]
  exact(X.pick _ n).mono fun k b=>TK.keep v r m
 ·have:List.Perm (c.toList.filterMap (ks[·]?)) ks:=by
   refine(u.filterMap _).trans ?_
   rw [Jf,<- Qg,X.length,Y8]
  exact this.nodup_iff.mpr x
 ·refine(u.filterMap _).trans ?_
  rw [Jf,<- Qg,X.length,Y8]
theorem Fk{V:YP->Prop}{a x:JY}{i:List (List Int)}{k:List Int}{Q:Bool->JZ->Prop}(hu:A.units<Zc)(S:cT prog w V s.heap a i)(W:TK prog w s.heap k x)(hx:V (.ref x))(a0:i.length+1<=76)
  (q1:k∈i->Q false s) (Y:k∉i->∀ h' ks',Zk a s.heap h'->cT prog w V h' a ks'->List.Perm ks' (k::i)->Q true { s with heap:=h' }):
  J1 (J3 prog w) A (setAddHashed a (.ref x) (TH prog w k)) Q E s:=by
 obtain⟨o,r,ep,t,I,K,H,T,R,X,U,hV⟩:=S;have y:t.fits r.size=true:=T.fits (by simp)
 have p:t.place.toList.length=i.length:=by rw [T.len,Qi,X.length]
 have u:r.size=i.length:=by rw [<- X.length,Qg]
 have O:=T.room;obtain⟨n,n1,n2,Z⟩:=FV (l:=t.place.toList) T.good (by lia) (TH prog w k)
 have hM:t.mask<=255:=by rcases T.good with g | g | g | g | g | g <;> lia
 unfold setAddHashed setAddHashedIn;refine Yg (Qa (QT I H y ?_));dsimp only;rw [if_neg (by simp [byScan,Value.scannable])];refine Qa ?_;unfold setSearch;refine KS hu I H T X W n2 Z ?_ ?_ 100000 0 (Q9 _) n1 (by unfold UZ at n1;lia) (fun m hm=>absurd hm (YE _)) none rfl
 ·intro d;exact Qb (q1 d)
 ·intro d;dsimp only;refine Qa (QT I H y ?_);dsimp only;rw [if_pos (show(t.put (P t.mask (TH prog w k) n).j).1.plain=true from R.1)];refine Qa (Pp W ?_);rw [if_pos rfl]
  have q:(Zu r (t.put (P t.mask (TH prog w k) n).j).2 (TH prog w k,J4 x)).size=r.size+1:=by
   rw [<- Qg,(Jc _ _ _).length_eq];simp
  refine Qa (Jm I H ?_ (by rw [q,Yj];lia))
  have hg:(s.heap.update a (Zy (Zu r (t.put (P t.mask (TH prog w k) n).j).2 (TH prog w k,J4 x)) (t.put (P t.mask (TH prog w k) n).j).1)).get? a=some { o with data:=.set (Zu r (t.put (P t.mask (TH prog w k) n).j).2 (TH prog w k,J4 x)) (ep+1) (t.put (P t.mask (TH prog w k) n).j).1 }:=by
   have:=Yh (Zy (Zu r (t.put (P t.mask (TH prog w k) n).j).2 (TH prog w k,J4 x)) (t.put (P t.mask (TH prog w k) n).j).1) I (by rw [Jt _ _ H];rfl)
   rw [Jt _ _ H]at this;exact this
  have z:=Q2 s.heap a (Zy (Zu r (t.put (P t.mask (TH prog w k) n).j).2 (TH prog w k,J4 x)) (t.put (P t.mask (TH prog w k) n).j).1)
  have X2:bS prog w (s.heap.update a (Zy (Zu r (t.put (P t.mask (TH prog w k) n).j).2 (TH prog w k,J4 x)) (t.put (P t.mask (TH prog w k) n).j).1)) (Zu r (t.put (P t.mask (TH prog w k) n).j).2 (TH prog w k,J4 x)).toList (i.take (t.put (P t.mask (TH prog w k) n).j).2++k::i.drop (t.put (P t.mask (TH prog w k) n).j).2):=by
   rw [mP]
   exact((X.take _).append (.cons W (X.drop _))).mono fun k b=>TK.keep I H z
  have B:List.Perm (i.take (t.put (P t.mask (TH prog w k) n).j).2++k::i.drop (t.put (P t.mask (TH prog w k) n).j).2) (k::i):=by
   refine List.perm_middle.trans ?_;rw [QU]
  have v:(i.take (t.put (P t.mask (TH prog w k) n).j).2++k::i.drop (t.put (P t.mask (TH prog w k) n).j).2).Nodup:=B.nodup_iff.mpr (Ye.mpr ⟨d,U⟩)
  have N:∀ e∈(Zu r (t.put (P t.mask (TH prog w k) n).j).2 (TH prog w k,J4 x)).toList,V e.2:=fun e he=>by
   have:=(Jc r (t.put (P t.mask (TH prog w k) n).j).2 (TH prog w k,J4 x)).mem_iff.mp he
   rw [JM,QD,QJ]at this;rcases this with h | rfl
   ·exact hV e h
   ·exact hx
  have f:(t.put (P t.mask (TH prog w k) n).j).1.fill=t.place.toList.length+1:=by
   show(Zu t.place (Zo t.place (P t.mask (TH prog w k) n).j) (P t.mask (TH prog w k) n).j).size+(if has t.dummies _=true then _ else t.dummies).size=_
   rw [T.dum,<- Qg,(Jc _ _ _).length_eq]
   simp [has]
  have F:(t.put (P t.mask (TH prog w k) n).j).1.fits (Zu r (t.put (P t.mask (TH prog w k) n).j).2 (TH prog w k,J4 x)).size=true:=by
   unfold Z9;rw [f,q]
   have:(t.put (P t.mask (TH prog w k) n).j).1.place.size=r.size+1:=by
    show(Zu t.place (Zo t.place (P t.mask (TH prog w k) n).j) (P t.mask (TH prog w k) n).j).size=_
    rw [<- Qg,(Jc _ _ _).length_eq];simp;rw [<- Qg,p,u]
   rw [this];simp only [beq_self_eq_true,JJ,decide_eq_true_eq]
   show t.place.toList.length+1<=t.mask
   lia
  by_cases c:(t.put (P t.mask (TH prog w k) n).j).1.tooFull=true
  ·rw [c];simp only [Jr,Bool.and_self,if_true]
   have G:(t.place.toList.length+1) * 5 >= t.mask * 3:=by
    unfold SetTable.tooFull at c;rw [f]at c;exact of_decide_eq_true c
   obtain⟨M,m1,m2,m3,m4⟩:=P1 T G (by lia);refine Qa (Iv (V:=V) hg K rfl F R X2 v N (M:=M) ?_ m2 ?_ ?_ ?_ ?_)
   ·rw [u,<- p];exact m1
   ·rw [q,u,<- p];exact m3
   ·rw [u,<- p];exact m4
   ·rw [q,Yj];lia
   ·intro h' ks' J S' pk;exact Qb (Y d h' ks' (z.trans J) S' (pk.trans B))
  ·rw [Uz]at c;rw [c];simp only [JP,Qj,if_false]
   have G:(t.place.toList.length+1) * 5<t.mask * 3:=by
    unfold SetTable.tooFull at c;rw [f]at c
    have:=of_decide_eq_false c
    have e:(t.put (P t.mask (TH prog w k) n).j).1.mask=t.mask:=rfl;rw [e]at this;lia
   have T2:=Tq T n2 Z G t.plain;refine Qa (Qb (Qb (Y d _ _ z ⟨_,_,_,_,hg,K,rfl,?_,R,X2,v,N⟩ B)));rw [mP,Yi,Qm,List.map_take,List.map_drop];exact T2
end
open PyProof.Rows
section
variable {prog:J2}{w:J5}{A:Around}{R:Result->JZ->Prop}{I:JY}{fp wr:List JY}{G:Array GenState->Array GenState->Prop}{n:Nat}{Pv:Nat->YP->Prop}{St:Nat->JZ->Prop}{V:YP->Prop}
theorem TK.at{h h':Heap}{k:List Int}{b:JY}(x:TK prog w h k b)(e:∀ o,h.get? b=some o->h'.get? b=some o):TK prog w h' k b:=by
 obtain⟨o,a,n,c,r⟩:=x
 exact⟨o,a,n,e o c,r⟩
theorem cT.moved{h h':Heap}{a:JY}{ks:List (List Int)}(S:cT prog w V h a ks)(e:∀ b o,h.get? b=some o->(b=a ∨ ∃ k,TK prog w h k b)->h'.get? b=some o):cT prog w V h' a ks:=by
 obtain⟨o,n,p,t,j,f,l,T,i,X,d,m⟩:=S
 exact⟨o,n,p,t,e a o j (.inl rfl),f,l,T,i,X.mono fun k b x=>x.at fun g c=>e b g c (.inr ⟨k,x⟩),d,m⟩
def mT(b:List (List Int))(a:Nat->List Int)(i:Nat):Prop:=∀ k,k∈b ↔ ∃ j,j<i/\a j=k
theorem PN{a:List (List Int)}{val:Nat->List Int}{i:Nat}(h:mT a val i)(b:a.Nodup):a.length<=i:=by
 have:a ⊆ (List.range i).map val:=fun k c=>by
  obtain⟨j,d,e⟩:=(h k).mp c;exact QO.mpr ⟨j,Q3.mpr d,e⟩
 have:=Yx b this
 simpa using this
theorem cT.nodup{h:Heap}{a:JY}{c:List (List Int)}(S:cT prog w V h a c):c.Nodup:=by
 obtain⟨o,j,k,t,f,d,g,T,e,X,b,i⟩:=S;exact b
theorem Ky(W:WalksS prog w A.in1 I fp wr G n Pv St)(S:JY)(a7:S∉fp)(hu:A.in1.units<Zc)(f:Nat->List Int)(g:Heap)
  (a:∀ b o,g.get? b=some o->b≠S/\b∉wr) (a0:∀ i v,i<n->Pv i v->V v/\∃ b,v=.ref b/\TK prog w g (f i) b) (Q:n<=75):
  ∀(k i:Nat) (s:JZ) (ks:List (List Int)),n-i=k->i<=n->St i s->(∀ b o,g.get? b=some o->s.heap.get? b=some o)->
   cT prog w (fun v=>V v/\∃ k b,v=.ref b/\TK prog w g k b) s.heap S ks->mT ks f i->
   (∀ s' ks',Moved (S::wr) G s s'->(∀ b o,g.get? b=some o->s'.heap.get? b=some o)->cT prog w (fun v=>V v/\∃ k b,v=.ref b/\TK prog w g k b) s'.heap S ks'->mT ks' f n->R (.ok (.ret .none)) s')->
   Uc (J3 prog w) A (.builtin "set.update.loop" ⟨[.ref S,.ref I],[]⟩) R s:=by
 have b5:S∉wr:=fun h=>a7 (W.sub _ h);have E:∀ b∈wr,b∈S::wr:=fun b Q=>Qf _ Q
 have a3:∀(s s':JZ) ks,Moved wr G s s'->(∀ b o,g.get? b=some o->s.heap.get? b=some o)->cT prog w (fun v=>V v/\∃ k b,v=.ref b/\TK prog w g k b) s.heap S ks->cT prog w (fun v=>V v/\∃ k b,v=.ref b/\TK prog w g k b) s'.heap S ks:=fun s s' ks z K Y=>by
  obtain⟨o,es,ep,t,ho,a4,hd,T,hp,X,a2,hV⟩:=Y
  refine⟨o,es,ep,t,z.heap S _ b5 ho,a4,hd,T,hp,?_,a2,hV⟩
  clear hd a4 ho T hp
  have:∀ e∈es.toList,∃ k b,e.2=.ref b/\TK prog w g k b:=fun e he=>(hV e he).2
  revert this
  clear hV a2;generalize es.toList=l at X;intro this
  induction X with
  | nil=>exact .nil
  | @cons k b es ks h1 hr ih=>
   refine .cons ?_ (ih fun e he=>this e (Qf _ he));obtain⟨k',b',e1,e2⟩:=this _ Qo
   have b8:b=b':=by injection e1
   subst b8;obtain⟨o',a9,n',O,r⟩:=e2;refine h1.at fun o2 b2=>?_
   have:=K b o' O
   rw [b2]at this;cases this;exact z.heap b _ (a b _ O).2 (K b _ O)
 intro k
 induction k with
 | zero=>
  intro i s ks hk hi N K Y Z hR
  have b3:i=n:=by lia
  subst b3;refine Jj F.entry_set_update_loop ?_;rw [Jn Ju _]
  show J1 _ A.in1 (Ux (.ref I) >>= _) _ _ s
  refine Qa (W.done s _ _ N fun s' z=>?_)
  show J1 _ A.in1 (ret Zp) _ _ s'
  exact Qb (hR s' ks (z.mono E) (fun b o e=>z.heap b o (a b o e).2 (K b o e)) (a3 s s' ks z K Y) Z)
 | succ k ih=>
  intro i s ks hk hi N K Y Z hR
  have B:i<n:=by lia
  refine Jj F.entry_set_update_loop ?_;rw [Jn Ju _]
  show J1 _ A.in1 (Ux (.ref I) >>= _) _ _ s
  refine Qa (W.item i s _ _ B N fun v s' hP H z=>?_);obtain⟨b4,b,rfl,a6⟩:=a0 i v B hP;have U:∀ b o,g.get? b=some o->s'.heap.get? b=some o:=fun b o e=>z.heap b o (a b o e).2 (K b o e);have a5:TK prog w s'.heap (f i) b:=a6.at fun o e=>U b o e;have a8:=a3 s s' ks z K Y
  show J1 _ A.in1 (UC [J4 b] (setAdd S (.ref b)) >>= _) _ _ s'
  refine Qa (Yg ?_);unfold setAdd;refine Yg ?_;refine Qa (wpAny_pyHash_tuple hu a5 ?_);have b9:=PN Z Y.nodup
  have d:∀(h':Heap) (tk:Nat),s'.toks<=tk->Zk S s'.heap h'->Moved (S::wr) G s { s' with heap:=h',toks:=tk }:=fun h' tk b0 p=>
   (z.mono E).then_heap b0 fun b o Q e=>by rw [p.2 b (fun h:b=S=>Q (by rw [h];exact Qo))];exact e
  refine Fk (V:=fun v=>V v/\∃ k b,v=.ref b/\TK prog w g k b) (s:={ s' with toks:=s'.toks+((f i).length+1) }) hu a8 a5 ⟨b4,f i,b,rfl,a6⟩ (by lia) ?_ ?_
  ·intro J;refine Qb ⟨UF Ju _,ih (i+1) _ ks (by lia) B (W.frame _ s' s'.heap _ H (Q7 _ _) fun b Q o e=>e) U a8 ?_ fun M m q y u x=>?_⟩
   ·intro k';rw [Z k'];constructor
    ·rintro⟨j,hj,e⟩;exact⟨j,by lia,e⟩
    ·rintro⟨j,hj,e⟩
     by_cases c:j=i
     ·subst c;subst e;exact(Z _).mp J
     ·exact⟨j,by lia,e⟩
   ·exact hR M m (Moved.trans W.gtrans (d s'.heap _ (Q7 _ _) (Uq S _)) q) y u x
  ·intro J h' ks' p b6 hp
   have b7:∀ b o,g.get? b=some o->h'.get? b=some o:=fun b o e=>by
    rw [p.2 b (a b o e).1];exact U b o e
   refine Qb ⟨UF Ju _,ih (i+1) _ ks' (by lia) B (W.frame _ s' _ _ H (Q7 _ _) fun b Q o e=>?_) b7 b6 ?_ fun M m q y u x=>?_⟩
   ·rw [p.2 b (fun h:b=S=>a7 (by rw [<- h];exact Q))];exact e
   ·intro k';rw [hp.mem_iff,Qp,Z k'];constructor
    ·rintro(rfl | ⟨j,hj,e⟩)
     ·exact⟨i,by lia,rfl⟩
     ·exact⟨j,by lia,e⟩
    ·rintro⟨j,hj,e⟩
     by_cases c:j=i
     ·subst c;exact .inl e.symm
     ·exact .inr ⟨j,by lia,e⟩
   ·exact hR M m (Moved.trans W.gtrans (d h' _ (Q7 _ _) p) q) y u x
end
section
variable {prog:J2}{w:J5}{A:Around}{E:YP->JZ->Prop}{s:JZ}
theorem Hi(a:YP){Q₁:YP->JZ->Prop}
  (h:Q₁ (.ref s.heap.objs.size) { s with heap:=s.heap.push { cls:=.type "set",dict:=none,data:=.set #[] 0 (.fresh 0 0 (cZ w)) } }):
  Uc (J3 prog w) A (.call (.builtin "set.__new__") ⟨[.type "set",a],[]⟩) (wants Q₁ E) s:=by
 refine codeAny_of_tree ?_
 show J1 _ A.in1 (checkBuiltinCall "set.__new__" ⟨[.type "set",a],[]⟩ >>= fun _=>again (.builtin "set.__new__" ⟨[.type "set",a],[]⟩)) _ _ s
 refine Qa (UI (F.newCall_set_1 a) (Qb ⟨UF F.plain_set_new _,Jj F.entry_set_new ?_⟩));rw [Jn F.plain_set_new _];unfold Builtin.«set.__new__» Builtin.Frozenset.newClass;have b:=sub_set_self;obtain⟨f,g,d,c,e⟩:=s;dsimp only
 wp_walk
 refine UA (Qb ?_);dsimp only;simp only [newObj];refine Qa (wpAny_alloc (Qb ?_));exact Qb h
theorem VB:isSubtype (.type "tuple") (.type "set")=pure false:=by rw [Us];kernel_rfl
theorem VA:isSubtype (.type "tuple") (.type "frozenset")=pure false:=by rw [Us];kernel_rfl
end
section
variable {prog:J2}{w:J5}{A:Around}{E:YP->JZ->Prop}{s:JZ}{V:YP->Prop}
theorem Px{l:JY}{items:Array YP}{kl:List (List Int)}{Q:YP->JZ->Prop}
  (hh:A.handled=none) (hu:A.units+8<Zc) (hl:s.heap.IsList l items) (hi:∀ i v,items[i]?=some v->V v/\∃ b,v=.ref b/\TK prog w s.heap (kl.getD i []) b) (hb:items.size<=75)
  (h:∀(h':Heap) (tk:Nat) ks,cT prog w V h' s.heap.objs.size ks->mT ks (fun i=>kl.getD i []) items.size->
   (∀ b o,s.heap.get? b=some o->h'.get? b=some o)->Q (.ref s.heap.objs.size) { s with heap:=h',toks:=tk }):
  J1 (J3 prog w) A (call (.type "set") [.ref l]) Q E s:=by
 obtain⟨c,tl,a9⟩:=F.called_set.mro;have W:=F.called_set.made;have a6:=F.called_set.sub;refine wpAny_call (codeAny_of_tree ?_)
 show J1 _ _ (callAny (.type "set") _) _ _ _
 refine Qb ⟨Code.quiet_builtin _ (by decide +kernel),Jj F.entry_type_call ?_⟩;rw [Around.under_plain (weight_type_call_type "set" [.ref l] []) rfl];have h1:=F.called_set.notType;have h2:=F.called_set.canCreate;have b3:=F.typeCall_set_1 (.ref l)
 repeat (any_goals (first | assumption | wp_step))
 refine JA (Hi (.ref l) (E:=E) (Q₁:=fun z j=>z=.ref s.heap.objs.size/\j={ s with heap:=s.heap.push { cls:=.type "set",dict:=none,data:=.set #[] 0 (.fresh 0 0 (cZ w)) } }) ⟨rfl,rfl⟩) fun r j U=>?_
 cases r with
 | error e=>exact U
 | ok fl=>
  cases fl with
  | ret z=>
   obtain⟨rfl,rfl⟩:=U;have hS:(s.heap.push { cls:=.type "set",dict:=none,data:=.set #[] 0 (.fresh 0 0 (cZ w)) }).get? s.heap.objs.size=some { cls:=.type "set",dict:=none,data:=.set #[] 0 (.fresh 0 0 (cZ w)) }:=Qz _ rfl;have hT:Shared.TypeIs { s with heap:=s.heap.push { cls:=.type "set",dict:=none,data:=.set #[] 0 (.fresh 0 0 (cZ w)) } } (.ref s.heap.objs.size) "set":=⟨_,hS,rfl⟩;have b2:=F.called_set.init.lookup;have b4:=F.called_set.init.bind (.ref s.heap.objs.size)
   repeat (any_goals (first | assumption | wp_step))
   refine JA (codeAny_call_builtin (R:=wants (fun r g=>r=.none/\∃ h' tk ks,g={ s with heap:=h',toks:=tk } /\
     cT prog w V h' s.heap.objs.size ks/\mT ks (fun i=>kl.getD i []) items.size /\
     (∀ b o,s.heap.get? b=some o->h'.get? b=some o)) E) F.called_set.init.plain F.entry_set_init (check_set_init_1 hT ?_)) fun y g a=>?_
   ·obtain⟨ol,G,N,nl,M⟩:=hl;obtain⟨a5,m,T,d⟩:=ol
    simp only at N M
    subst N;subst M;have B:(s.heap.push { cls:=.type "set",dict:=none,data:=.set #[] 0 (.fresh 0 0 (cZ w)) }).get? l=some { cls:=.type "list",dict:=m,data:=.seq items nl,slots:=d }:=Qh _ G;have a7:=F.sub_list_set;have a8:=F.sub_list_frozenset
    have b0:(ZH "list" == ZH "dict")=false:=by decide
    have J:(s.heap.push { cls:=.type "set",dict:=none,data:=.set #[] 0 (.fresh 0 0 (cZ w)) }).IsList l items:=⟨_,B,rfl,nl,rfl⟩;unfold Builtin.«set.__init__» noKeywords Builtin.Frozenset.updateFrom;generalize hPI:pyIter=PI
    wp_walk
    subst hPI;refine wpAny_pyIter_list J ?_;refine Qa (wpAny_runValue ?_);have I:l<s.heap.objs.size:=Qs G
    have Y:A.in1.in1.in1.handled=none:=by simp [hh]
    have H:l≠(s.heap.push { cls:=.type "set",dict:=none,data:=.set #[] 0 (.fresh 0 0 (cZ w)) }).objs.size:=by
     rw [YD];exact QB (Jl I)
    have a0:s.heap.objs.size∉[(s.heap.push { cls:=.type "set",dict:=none,data:=.set #[] 0 (.fresh 0 0 (cZ w)) }).objs.size,l]:=by
     rw [YD];simp only [Qp,QJ,Jv,or_false,not_or]
     exact⟨QB (JQ _),Y9 I⟩
    have f:A.in1.in1.in1.units<Zc:=by
     show A.units+1+1+1<Zc
     lia
    refine Ky (V:=V) ((Walks.list Y _ l H items).toS) s.heap.objs.size
     a0 f (fun i=>kl.getD i []) s.heap (fun b o e=>?_) (fun i v _ hv=>hi i v hv) hb (items.size-0) 0 _ [] (by lia) (Q9 _)
     ⟨⟨_,Qz _ rfl,rfl,rfl⟩,(J.push _)⟩ (fun b o e=>?_) ?hS0 ?hK0 ?hR
    ·have n:b<s.heap.objs.size:=Qs e
     refine⟨QB n,fun u=>?_⟩
     rw [YD]at u
     have:b=s.heap.objs.size+1:=QJ.mp u
     rw [this]at n;exact absurd n (Nat.not_lt.mpr (Nat.le_succ _))
    ·exact Qh _ (Qh _ e)
    case hS0=>
     have K:((s.heap.push { cls:=.type "set",dict:=none,data:=.set #[] 0 (.fresh 0 0 (cZ w)) }).push { cls:=.type "list_iterator",data:=.fields #[.ref l,.int 0 0] }).get? s.heap.objs.size
       = some { cls:=.type "set",dict:=none,data:=.set #[] 0 (.fresh 0 0 (cZ w)) }:=Qh _ hS
     exact⟨_,#[],0,_,K,⟨rfl,rfl,rfl⟩,rfl,⟨.inl rfl,rfl,rfl,List.Pairwise.nil,fun x hx=>by simp [SetTable.fresh]at hx,(by show 0 * 5<7 * 3;decide),fun q hq=>by simp at hq⟩,⟨rfl,rfl⟩,.nil,YS,fun e Z=>by simp at Z⟩
    case hK0=>
     intro k;simp
    case hR=>
     intro s' ks u h0 p hK;obtain⟨h',g',d',O,S⟩:=s';have eg:g'=s.gens:=u.gens;have ed:d'=s.drawn:=u.drawn;have eo:S=s.os:=u.os;subst eg;subst ed;subst eo
     show J1 _ _ _ _ _ _
     refine Qb ?_
     show J1 _ _ (ret Zp) _ _ _
     obtain⟨o',a3,a4,t',z1,z2,z3,z4,z5,z6,z7,z8⟩:=p;exact Qb ⟨rfl,h',O,ks,rfl,⟨o',a3,a4,t',z1,z2,z3,z4,z5,z6,z7,fun e Z=>(z8 e Z).1⟩,hK,fun b o e=>h0 b o e⟩
   ·cases y with
    | error e=>exact a
    | ok t=>
     cases t with
     | ret r=>
      obtain⟨rfl,h',tk,ks,rfl,p,a2,X⟩:=a
      repeat (any_goals (first | assumption | wp_step))
      exact h _ _ _ p a2 X
     | _=>exact a.elim
  | _=>exact U.elim
theorem Pw{l:JY}{items:Array YP}{kl:List (List Int)}{Q:YP->JZ->Prop}
  (hh:A.handled=none) (hu:A.units+8<Zc) (hl:s.heap.IsTuple l items) (hi:∀ i v,items[i]?=some v->V v/\∃ b,v=.ref b/\TK prog w s.heap (kl.getD i []) b) (hb:items.size<=75)
  (h:∀(h':Heap) (tk:Nat) ks,cT prog w V h' s.heap.objs.size ks->mT ks (fun i=>kl.getD i []) items.size->
   (∀ b o,s.heap.get? b=some o->h'.get? b=some o)->Q (.ref s.heap.objs.size) { s with heap:=h',toks:=tk }):
  J1 (J3 prog w) A (call (.type "set") [.ref l]) Q E s:=by
 obtain⟨c,tl,a9⟩:=F.called_set.mro;have W:=F.called_set.made;have a6:=F.called_set.sub;refine wpAny_call (codeAny_of_tree ?_)
 show J1 _ _ (callAny (.type "set") _) _ _ _
 refine Qb ⟨Code.quiet_builtin _ (by decide +kernel),Jj F.entry_type_call ?_⟩;rw [Around.under_plain (weight_type_call_type "set" [.ref l] []) rfl];have h1:=F.called_set.notType;have h2:=F.called_set.canCreate;have b3:=F.typeCall_set_1 (.ref l)
 repeat (any_goals (first | assumption | wp_step))
 refine JA (Hi (.ref l) (E:=E) (Q₁:=fun z j=>z=.ref s.heap.objs.size/\j={ s with heap:=s.heap.push { cls:=.type "set",dict:=none,data:=.set #[] 0 (.fresh 0 0 (cZ w)) } }) ⟨rfl,rfl⟩) fun r j U=>?_
 cases r with
 | error e=>exact U
 | ok fl=>
  cases fl with
  | ret z=>
   obtain⟨rfl,rfl⟩:=U;have hS:(s.heap.push { cls:=.type "set",dict:=none,data:=.set #[] 0 (.fresh 0 0 (cZ w)) }).get? s.heap.objs.size=some { cls:=.type "set",dict:=none,data:=.set #[] 0 (.fresh 0 0 (cZ w)) }:=Qz _ rfl;have hT:Shared.TypeIs { s with heap:=s.heap.push { cls:=.type "set",dict:=none,data:=.set #[] 0 (.fresh 0 0 (cZ w)) } } (.ref s.heap.objs.size) "set":=⟨_,hS,rfl⟩;have b2:=F.called_set.init.lookup;have b4:=F.called_set.init.bind (.ref s.heap.objs.size)
   repeat (any_goals (first | assumption | wp_step))
   refine JA (codeAny_call_builtin (R:=wants (fun r g=>r=.none/\∃ h' tk ks,g={ s with heap:=h',toks:=tk } /\
     cT prog w V h' s.heap.objs.size ks/\mT ks (fun i=>kl.getD i []) items.size /\
     (∀ b o,s.heap.get? b=some o->h'.get? b=some o)) E) F.called_set.init.plain F.entry_set_init (check_set_init_1 hT ?_)) fun y g a=>?_
   ·obtain⟨ol,G,N,nl,M⟩:=hl;obtain⟨a5,m,T,d⟩:=ol
    simp only at N M
    subst N;subst M;have B:(s.heap.push { cls:=.type "set",dict:=none,data:=.set #[] 0 (.fresh 0 0 (cZ w)) }).get? l=some { cls:=.type "tuple",dict:=m,data:=.seq items nl,slots:=d }:=Qh _ G;have a7:=VB;have a8:=VA
    have b0:(ZH "tuple" == ZH "dict")=false:=by decide
    have J:(s.heap.push { cls:=.type "set",dict:=none,data:=.set #[] 0 (.fresh 0 0 (cZ w)) }).IsTuple l items:=⟨_,B,rfl,nl,rfl⟩;unfold Builtin.«set.__init__» noKeywords Builtin.Frozenset.updateFrom;generalize hPI:pyIter=PI
    wp_walk
    subst hPI;refine Uh J ?_;refine Qa (wpAny_runValue ?_);have I:l<s.heap.objs.size:=Qs G
    have Y:A.in1.in1.in1.handled=none:=by simp [hh]
    have H:l≠(s.heap.push { cls:=.type "set",dict:=none,data:=.set #[] 0 (.fresh 0 0 (cZ w)) }).objs.size:=by
     rw [YD];exact QB (Jl I)
    have a0:s.heap.objs.size∉[(s.heap.push { cls:=.type "set",dict:=none,data:=.set #[] 0 (.fresh 0 0 (cZ w)) }).objs.size,l]:=by
     rw [YD];simp only [Qp,QJ,Jv,or_false,not_or]
     exact⟨QB (JQ _),Y9 I⟩
    have f:A.in1.in1.in1.units<Zc:=by
     show A.units+1+1+1<Zc
     lia
    refine Ky (V:=V) ((Walks.tuple Y _ l H items).toS) s.heap.objs.size
     a0 f (fun i=>kl.getD i []) s.heap (fun b o e=>?_) (fun i v _ hv=>hi i v hv) hb (items.size-0) 0 _ [] (by lia) (Q9 _)
     ⟨⟨_,Qz _ rfl,rfl,rfl⟩,(J.push _)⟩ (fun b o e=>?_) ?hS0 ?hK0 ?hR
    ·have n:b<s.heap.objs.size:=Qs e
     refine⟨QB n,fun u=>?_⟩
     rw [YD]at u
     have:b=s.heap.objs.size+1:=QJ.mp u
     rw [this]at n;exact absurd n (Nat.not_lt.mpr (Nat.le_succ _))
    ·exact Qh _ (Qh _ e)
    case hS0=>
     have K:((s.heap.push { cls:=.type "set",dict:=none,data:=.set #[] 0 (.fresh 0 0 (cZ w)) }).push { cls:=.type "tuple_iterator",data:=.fields #[.ref l,.int 0 0] }).get? s.heap.objs.size
       = some { cls:=.type "set",dict:=none,data:=.set #[] 0 (.fresh 0 0 (cZ w)) }:=Qh _ hS
     exact⟨_,#[],0,_,K,⟨rfl,rfl,rfl⟩,rfl,⟨.inl rfl,rfl,rfl,List.Pairwise.nil,fun x hx=>by simp [SetTable.fresh]at hx,(by show 0 * 5<7 * 3;decide),fun q hq=>by simp at hq⟩,⟨rfl,rfl⟩,.nil,YS,fun e Z=>by simp at Z⟩
    case hK0=>
     intro k;simp
    case hR=>
     intro s' ks u h0 p hK;obtain⟨h',g',d',O,S⟩:=s';have eg:g'=s.gens:=u.gens;have ed:d'=s.drawn:=u.drawn;have eo:S=s.os:=u.os;subst eg;subst ed;subst eo
     show J1 _ _ _ _ _ _
     refine Qb ?_
     show J1 _ _ (ret Zp) _ _ _
     obtain⟨o',a3,a4,t',z1,z2,z3,z4,z5,z6,z7,z8⟩:=p;exact Qb ⟨rfl,h',O,ks,rfl,⟨o',a3,a4,t',z1,z2,z3,z4,z5,z6,z7,fun e Z=>(z8 e Z).1⟩,hK,fun b o e=>h0 b o e⟩
   ·cases y with
    | error e=>exact a
    | ok t=>
     cases t with
     | ret r=>
      obtain⟨rfl,h',tk,ks,rfl,p,a2,X⟩:=a
      repeat (any_goals (first | assumption | wp_step))
      exact h _ _ _ p a2 X
     | _=>exact a.elim
  | _=>exact U.elim
end
end ST
namespace SL
open PySem PySem.Spec PyProof.Rows L2 CL DL SD ST
section
variable {X:Cx}{pins:List (JY × Obj)}{σ:L2.St}{H:Hp}{s:JZ}
theorem mD(I:Inv X pins σ H s){b:JY}{k:List Int}(h:bP X.K H b (k.map V.int)):TK X.prog X.w s.heap k b:=by
 obtain⟨a,c,j,l⟩:=I.tuple h;obtain⟨o,f,e,n,d⟩:=j
 refine⟨o,a.toArray,n,f,e,d,?_⟩
 show ItemsAre (UT X.prog X.w) k a
 clear h d f e l;generalize hxs:k.map V.int=g at c
 induction c generalizing k with
 | nil=>
  cases k with
  | nil=>exact .nil
  | cons _ _=>simp at hxs
 | @cons x u g us r t ih=>
  cases k with
  | nil=>simp at hxs
  | cons i k=>
   rw [Qm,List.cons.injEq]at hxs;obtain⟨p,m⟩:=hxs;subst p;obtain⟨q,rfl⟩:=r;exact .cons (intKind_is _ _ _ _) (ih m)
abbrev r0:=List (List Int)->Hp->Prop
abbrev pJ:=L2.St->Hp->r0->Prop
def D0(X:Cx)(c:List (JY × Obj))(e:L2.St)(Q:r0)(u:YP)(d:JZ):Prop:=
 ∃ a o ks H',u=.ref a/\Inv X ((a,o)::c) e H' d/\cT X.prog X.w (fun v=>∃ b,∃ xs:List Int,v=.ref b/\bP X.K H' b (xs.map V.int)) d.heap a ks/\(∀ p∈c,p.1≠a)/\Q ks H'
def sA(X:Cx)(e:Expr)(t:pJ):Prop:=
 ∀(pins:List (JY × Obj)) (s:JZ) (σ:L2.St) (H:Hp) (Q:r0),Inv X pins σ H s->t σ H Q->J1 (J3 X.prog X.w) X.A (Zh e X.env) (D0 X pins σ Q) X.xe s
def On(K:PySem.W.Frag)(t:TA):pJ:=fun d H Q=>t d H fun e c=>∃(a:JY) (xs:List V) (kl:List (List Int)),e=[.ref a]/\(cD K c a xs ∨ bP K c a xs)/\xs.length<=75/\xs.length=kl.length/\(∀(i:Nat) (x:V),xs[i]?=some x->∃ b,x=.ref b/\bP K c b ((kl.getD i []).map V.int))/\∀ ks:List (List Int),ks.Nodup->(∀ k,k∈ks ↔ k∈kl)->Q ks c
theorem l7{x:Str}{e:Expr}{p pos:Pos}{t:TA}(hc:X.calm=true)(hu:X.A.units+64<Zc)(hg:Gl X x)(hm:X.mg x=none)(m:Zs x=some (.type "set"))(ha:PA X [e] t)(hn:x≠"__name__":=by decide)(S:(x == ("__debug__":Str))=false:=by decide)
  (he:J0 [e] X.env=(false,Zh e X.env)::J0 [] X.env:=by rfl) (hpl:(Zn pos (J0 [] X.env)).any (·.1)=false:=by rfl):
  sA X (.Call (.Name x p) [e] [] pos) (On X.K t):=by
 intro d s M H Q I h;refine Je (nQ I hg hm m ?_ hn S);refine YM (bC (ha pos d s M H _ I h) fun us s1 ⟨vs,J,I1,r1,q1⟩=>?_) he hpl;obtain⟨a,l,kl,rfl,B,a0,F,R,q⟩:=q1;obtain⟨u,rfl,ru⟩:=kP r1;cases ru
 have go:∀ c:List YP,Vals l c->(∀(f:List (List Int)) (O:YP->JZ->Prop),(∀ i v,c.toArray[i]?=some v->(∃ b,∃ l:List Int,v=.ref b/\bP X.K J b (l.map V.int))/\∃ b,v=.ref b/\TK X.prog X.w s1.heap (f.getD i []) b)->
   c.toArray.size<=75->(∀(n:Heap) (N:Nat) r,cT X.prog X.w (fun v=>∃ b,∃ l:List Int,v=.ref b/\bP X.K J b (l.map V.int)) n s1.heap.objs.size r->mT r (fun i=>f.getD i []) c.toArray.size->
   (∀ b o,s1.heap.get? b=some o->n.get? b=some o)->O (.ref s1.heap.objs.size) { s1 with heap:=n,toks:=N })->J1 (J3 X.prog X.w) X.A (call (.type "set") [.ref a]) O X.xe s1)->
   J1 (J3 X.prog X.w) X.A (call (.type "set") [.ref a]) (D0 X d M Q) X.xe s1:=by
  intro c g cs
  have z:c.toArray.size=kl.length:=by rw [QK,<- g.length,F]
  refine cs kl _ (fun i v m=>?_) (by rw [z];lia) fun n N r S' K' keep=>?_
  ·have y:c[i]?=some v:=by simpa using m
   have hi:i<l.length:=by
    have:=(Qc.mp y).1
    rw [g.length];exact this
   obtain⟨u,e1,e2⟩:=Vals.get g (Qk hi);rw [y]at e1;cases e1;obtain⟨b,e3,e4⟩:=R i _ (Qk hi);rw [e3]at e2;cases e2
   exact⟨⟨b,_,rfl,e4⟩,b,rfl,mD I1 e4⟩
  ·obtain⟨o,es,ep,t,z1,z2,Z,z4,z5,z6,Y,z8⟩:=S';have I2:Inv X d M J { s1 with heap:=n,toks:=N }:=I1.kept keep
   have I3:Inv X ((s1.heap.objs.size,o)::d) M J { s1 with heap:=n,toks:=N }:=by
    refine I2.pins_of fun p E=>?_;rcases Qp.mp E with rfl | E
    ·refine⟨z1,I1.hok.fresh (Ql _),Y9 I1.lt,I1.nofs (Ql _),fun v m=>?_⟩
     rw [Z]at m;exact nomatch m
    ·exact I2.pin p (Qv _ E)
   refine⟨_,o,r,J,rfl,I3,⟨o,es,ep,t,z1,z2,Z,z4,z5,z6,Y,z8⟩,fun p E=>QB (Qs (I1.pin p (Qv _ E)).1),q r Y fun k=>(K' k).trans ?_⟩
   rw [z];constructor
   ·rintro⟨j,G,rfl⟩
    show kl.getD j []∈kl
    rw [Jg,Qk G];exact Jd G
   ·intro hk;obtain⟨j,G⟩:=Q0 hk
    refine⟨j,(Qc.mp G).1,?_⟩
    show kl.getD j []=k
    rw [Jg,G];rfl
 rcases B with B | B
 ·obtain⟨c,g,pl,_⟩:=I1.list B;exact go c g fun f O W U T=>Px (kl:=f) (I1.ok.hd hc) (by lia) pl.isList W U T
 ·obtain⟨c,g,it,hz⟩:=I1.tuple B;exact go c g fun f O W U T=>Pw (kl:=f) (I1.ok.hd hc) (by lia) it W U T
end
def qW:List D->Option (List (List Int))
 | []=>some []
 | .tuple ds::r=>(eF ds).bind fun b=>(qW r).bind fun a=>some (b::a)
 | _=>none
theorem Iz{K:PySem.W.Frag}{F:JY->Prop}{H:Hp}:∀{ds:List D}{vs:List V}{kl:List (List Int)},Reps K F H ds vs->qW ds=some kl->ds.length=kl.length/\∀(i:Nat) (x:V),vs[i]?=some x->∃ b,x=.ref b/\bP K H b ((kl.getD i []).map V.int):=by
 intro ds
 induction ds with
 | nil=>intro vs kl r h;cases r;cases h;exact⟨rfl,fun i x e=>by simp at e⟩
 | cons d ds k=>
  intro vs kl r h
  cases r with
  | cons f r=>
   cases d with
   | tuple n=>
    cases f with
    | tup a c=>
     obtain⟨p,m,h⟩:=aG h;obtain⟨o,l,h⟩:=aG h;cases h;obtain⟨j,g⟩:=k r l
     refine⟨by simp [j],fun i x e=>?_⟩
     cases i with
     | zero=>
      cases e
      refine⟨_,rfl,?_⟩
      rw [yH c m]at a;exact a
     | succ i=>exact g i x (by simpa using e)
   | _=>cases h
def Ez(K:PySem.W.Frag)(g:aA->Option (List (List Int))):pJ:=fun a H Q=>n8 K a H g fun F b=>∀ F' H' (ks:List (List Int)),aN F F' H H'->ks.Nodup->(∀ k,k∈ks ↔ k∈b)->Q ks H'
def u6(X:Cx)(e:Expr)(g:aA->Option (List (List Int))):Prop:=sA X e (Ez X.K g)
def sX:List D->Option (List (List Int))
 | [.list xs]=>if xs.length<=75 then qW xs else none
 | [.tuple xs]=>if xs.length<=75 then qW xs else none
 | _=>none
def m9(gr:aA->Option (List D)):aA->Option (List (List Int)):=fun a=>(gr a).bind sX
def dd:List (List Int)->List (List Int)
 | []=>[]
 | k::r=>if k∈r then dd r else k::dd r
theorem xE:∀{l:List (List Int)}{k:List Int},k∈dd l ↔ k∈l
 | [],k=>by simp [dd]
 | x::r,k=>by
  unfold dd;split
  ·rename_i h;rw [xE,Qp];constructor
   ·exact .inr
   ·rintro(rfl | a)
    ·exact h
    ·exact a
  ·rw [Qp,Qp,xE]
theorem Cb:∀ l:List (List Int),(dd l).Nodup
 | []=>YS
 | x::r=>by
  unfold dd;split
  ·exact Cb r
  ·rename_i h;exact Ye.mpr ⟨fun q=>h (xE.mp q),Cb r⟩
section
variable {X:Cx}{e:Expr}{p pos:Pos}{gr:aA->Option (List D)}{g:aA->Option (List (List Int))}
theorem ps_mono{e:Expr}{t t':pJ}(h:sA X e t)(m:∀ σ H Q,t' σ H Q->t σ H Q):sA X e t':=fun a s σ H Q I q=>h a s σ H Q I (m σ H Q q)
theorem Cf{x:Str}(E:X.calm=true)(y:X.A.units+64<Zc)(B:Gl X x)(z:X.mg x=none)(w:Zs x=some (.type "set"))(G:DA X [e] gr)(b:x≠"__name__":=by decide)(l:(x == ("__debug__":Str))=false:=by decide)
  (he:J0 [e] X.env=(false,Zh e X.env)::J0 [] X.env:=by rfl) (hpl:(Zn pos (J0 [] X.env)).any (·.1)=false:=by rfl):
  u6 X (.Call (.Name x p) [e] [] pos) (m9 gr):=
 ps_mono (l7 E y B z w G b l he hpl) fun K H Q v=>by
  obtain⟨F,d,u,n,S,q,k⟩:=v;obtain⟨J,I,q⟩:=aG q
  refine⟨F,d,u,J,S,I,fun s r M t o=>?_⟩
  unfold sX at q
  split at q
  ·rename_i h;by_cases c:h.length<=75
   ·rw [if_pos c]at q
    cases o with
    | cons R2 m=>
     cases m
     cases R2 with
     | @lst a us _ h1 r1=>
      obtain⟨g,f⟩:=Iz r1 q
      exact⟨a,us,n,rfl,.inl h1.sq,by rw [<- r1.length];exact c,by rw [<- r1.length,g],f,fun i b j=>k s r i t b j⟩
   ·rw [if_neg c]at q;cases q
  ·rename_i h;by_cases c:h.length<=75
   ·rw [if_pos c]at q
    cases o with
    | cons R2 m=>
     cases m
     cases R2 with
     | @tup a us _ h1 r1=>
      obtain⟨g,f⟩:=Iz r1 q
      exact⟨a,us,n,rfl,.inr h1,by rw [<- r1.length];exact c,by rw [<- r1.length,g],f,fun i b j=>k s r i t b j⟩
   ·rw [if_neg c]at q;cases q
  ·cases q
end
end SL
namespace PySem.F
theorem set_iter_entry:entryFor table "set.__iter__"=some Builtin.«frozenset.__iter__»:=
 entryFor_alias (id':="frozenset.__iter__") (by kernel_rfl) rfl (by decide +kernel) (by kernel_rfl)
theorem set_sub_entry:entryFor table "set.__sub__"=some Builtin.«frozenset.__sub__»:=
 entryFor_alias (id':="frozenset.__sub__") (by kernel_rfl) rfl (by decide +kernel) (by kernel_rfl)
theorem K7:Manifest.owners.lookup (String.ofList ['r','o','t','a','r','e','t','i','_','t','e','s'].reverse)=some Manifest.sig_set_iterator:=by kernel_rfl
theorem si_next:Slot "set_iterator" "__next__" "set_iterator.__next__":=
 .of (owner:="set_iterator") (n:="__next__") (by rw [typeLookup_type,Uu];kernel_rfl) (by decide +kernel) (by decide +kernel) (by decide +kernel)
  (.inl (by decide +kernel)) (by rw [Us];kernel_rfl)
theorem si_iter:Slot "set_iterator" "__iter__" "set_iterator.__iter__":=
 .of (owner:="set_iterator") (n:="__iter__") (by rw [typeLookup_type,Uu];kernel_rfl) (by decide +kernel) (by decide +kernel) (by decide +kernel)
  (.inl (by decide +kernel)) (by rw [Us];kernel_rfl)
theorem si_iter_entry:entryFor table "set_iterator.__iter__"=some Builtin.«dict_keyiterator.__iter__»:=
 entryFor_alias (id':="dict_keyiterator.__iter__") (by kernel_rfl) rfl (by decide +kernel) (by kernel_rfl)
theorem si_iter_args(a:YP):argsOk "set_iterator.__iter__" ⟨[a],[]⟩:=by
 unfold argsOk;rw [signature?_of (id:="set_iterator.__iter__") (n:=['_','_','r','e','t','i','_','_']) (o:=['r','o','t','a','r','e','t','i','_','t','e','s']) (by kernel_rfl) K7];kernel_rfl
theorem si_next_entry:entryFor table "set_iterator.__next__"=some Builtin.«set_iterator.__next__»:=entryFor_of_tree (by kernel_rfl)
theorem si_next_args(a:YP):argsOk "set_iterator.__next__" ⟨[a],[]⟩:=by
 unfold argsOk;rw [signature?_of (id:="set_iterator.__next__") (n:=['_','_','t','x','e','n','_','_']) (o:=['r','o','t','a','r','e','t','i','_','t','e','s']) (by kernel_rfl) K7];kernel_rfl
end PySem.F
namespace ST
open PySem PySem.SetTable PyProof.Rows
theorem IX{b:Type}(next:Nat->Nat):∀(fuel k:Nat) (left:List b) (out:Array b),left.length=fuel->List.Perm (pickOrder.go next fuel k left out).toList (out.toList++left)
 | 0,k,left,out,h=>by
  have:left=[]:=List.length_eq_zero_iff.mp h
  subst this;rw [QR];exact .refl _
 | fuel+1,k,left,out,h=>by
  have a:next k % left.length<left.length:=Nat.mod_lt _ (by lia);unfold pickOrder.go;rw [Qk a];dsimp only
  refine(IX next fuel (k+1) _ _ (by rw [List.length_eraseIdx_of_lt a];lia)).trans ?_
  rw [JM,QG];refine List.Perm.append_left _ ?_;rw [List.eraseIdx_eq_take_drop_succ]
  have e:left=left.take (next k % left.length)++left[next k % left.length]::left.drop (next k % left.length+1):=by
   rw [<- Yn a,QU]
  refine List.Perm.trans ?_ (.of_eq e.symm)
  show List.Perm (left[next k % left.length]::(left.take (next k % left.length)++left.drop (next k % left.length+1))) _
  exact List.perm_middle.symm
def hE(w:J5)(a ep:Nat)(es:Array (Int × YP)):Array (Int × YP):=if w.params.followText "set-order"=true then pickOrder (w.params.setOrder a ep) es else es
theorem qR(w:J5)(a ep:Nat)(es:Array (Int × YP)):List.Perm (hE w a ep es).toList es.toList:=by
 unfold hE;split
 ·exact(IX _ es.size 0 es.toList #[] (by simp)).trans (by simp)
 ·exact .refl _
theorem xQ(w:J5)(a ep:Nat)(es:Array (Int × YP)):(hE w a ep es).size=es.size:=by
 have:=(qR w a ep es).length_eq
 simpa using this
theorem Pj(xs:Array Nat)(s:Up xs.toList):Zo xs 0=0:=by
 obtain⟨e,b,d⟩:=rQ xs s 0;by_cases c:Zo xs 0=0
 ·exact c
 ·have a:0<xs.toList.length:=by rw [Qg];lia
  have:=b 0 _ (Qk a) (by lia)
  lia
theorem Pi(xs:Array Nat)(s:Up xs.toList){i j:Nat}(h:xs.toList[i]?=some j):Zo xs (j+1)=i+1:=by
 obtain⟨k,g,f⟩:=rQ xs s (j+1);have d:=(Qc.mp h).1;rw [Qg]at d;by_cases a:Zo xs (j+1)<=i
 ·have:=f i j h a
  lia
 ·by_cases b:Zo xs (j+1)=i+1
  ·exact b
  ·have c:i+1<xs.toList.length:=by rw [Qg];lia
   have e:=Qk c
   have:=g _ _ e (by lia)
   have:=s.at h e (by lia)
   lia
structure jA(w:J5)(h:Heap)(a:JY)(o:Obj)(es:Array (Int × YP))(ep:Nat)(t:SetTable):Prop where
 get:h.get? a=some o
 ex:o.ExactSet
 data:o.data=.set es ep t
 fits:t.fits es.size=true
 up:Up t.place.toList
 plain:t.plain=true
 led:t.led=cZ w
theorem jA.at{w:J5}{h h':Heap}{a:JY}{o:Obj}{es:Array (Int × YP)}{ep:Nat}{t:SetTable}(S:jA w h a o es ep t)(e:h'.get? a=some o):jA w h' a o es ep t:=⟨e,S.ex,S.data,S.fits,S.up,S.plain,S.led⟩
def rM(h:Heap)(I a:JY)(slot i n ep:Nat):Prop:=∃ o,h.get? I=some o/\o.cls=.type "set_iterator"/\o.data=.fields #[.int slot 0,.int i 0,.ref a,.int n 0,.int ep 0]
section
variable {prog:J2}{w:J5}{A:Around}{E:YP->JZ->Prop}{s:JZ}{I a:JY}{o:Obj}{es:Array (Int × YP)}{ep slot i:Nat}{t:SetTable}
theorem rM.typeIs{n:Nat}(h:rM s.heap I a slot i n ep):s.TypeIs (.ref I) "set_iterator":=by
 obtain⟨o,c,b,_⟩:=h
 exact⟨o,c,b⟩
theorem wC{Q:Bool->JZ->Prop}(h:Q (w.params.followText "set-order") s):J1 (J3 prog w) A setsByText Q E s:=by
 unfold setsByText;exact Qa (UA (Qb h))
theorem KG{Q:Array (Int × YP)->JZ->Prop}(S:jA w s.heap a o es ep t)(h:Q (hE w a ep es) s):J1 (J3 prog w) A (setWalk a) Q E s:=by
 unfold setWalk;refine Qa (QT S.get S.data S.fits ?_);dsimp only;refine Qa (wC ?_);unfold hE at h
 cases c:w.params.followText "set-order" with
 | true=>
  rw [c,if_pos rfl]at h;rw [if_pos rfl];exact Qa (UA (Qb h))
 | false=>
  rw [c,if_neg Qq]at h;rw [if_neg Qq]
  have d:(!t.plain && decide (es.size > 1))=false:=by rw [S.plain];rfl
  have b:(!t.led && decide (es.size > 1))=false:=by rw [S.led,cZ,c];rfl
  show J1 _ _ (if(!t.plain && decide (es.size > 1))=true then _ else _) _ _ s
  rw [d,if_neg Qq];refine Qa ?_
  show J1 _ _ (if(!t.led && decide (es.size > 1))=true then _ else _) _ _ s
  rw [b,if_neg Qq];exact Qb (Qb h)
theorem Hl{Q:Option (YP × Nat)->JZ->Prop}(S:jA w s.heap a o es ep t)(m:w.params.followText "set-order"=false->Zo t.place slot=i)
  (d:∀ x next,(hE w a ep es)[i]?=some x->(w.params.followText "set-order"=false->Zo t.place next=i+1)->Q (some (x.2,next)) s) (f:es.size<=i->Q none s):
  J1 (J3 prog w) A (setNext a slot i ep) Q E s:=by
 unfold setNext;refine Qa (QT S.get S.data S.fits ?_);dsimp only;refine Qa (wC ?_)
 cases c:w.params.followText "set-order" with
 | true=>
  rw [if_pos rfl,if_neg (by simp)];refine Qa (KG S (Qb ?_));by_cases l:i<es.size
  ·have b:i<(hE w a ep es).size:=by rw [xQ];exact l
   rw [Qw b]
   exact d _ _ (Qw b) fun e=>by rw [c]at e;cases e
  ·rw [Yt (by rw [xQ];lia)];exact f (by lia)
 | false=>
  rw [if_neg Qq]
  have k:(!t.plain && decide (es.size > 1))=false:=by rw [S.plain];rfl
  have j:(!t.led && !es.isEmpty)=false:=by rw [S.led,cZ,c];rfl
  show J1 _ _ (if(!t.plain && decide (es.size > 1))=true then _ else _) _ _ s
  rw [k,if_neg Qq];refine Qa ?_
  show J1 _ _ (if(!t.led && !es.isEmpty)=true then _ else _) _ _ s
  rw [j,if_neg Qq];refine Qb (Qb ?_)
  have g:t.place.size=es.size:=by
   have:=S.fits
   unfold Z9 at this;rw [QH,beq_iff_eq]at this;exact this.1
  rw [m c]
  have h:hE w a ep es=es:=by unfold hE;rw [c,if_neg Qq]
  rw [h]at d;by_cases l:i<es.size
  ·have b:i<t.place.size:=by lia
   rw [Qw l,Qw b];refine d _ _ (Qw l) fun _=>Pi _ S.up ?_;rw [QE,Qw b]
  ·rw [Yt (by lia)];exact f (by lia)
theorem Rh{Q:YP->JZ->Prop}(S:jA w s.heap a o es ep t)
  (h:Q (.ref s.heap.objs.size) { s with heap:=s.heap.push { cls:=.type "set_iterator",data:=.fields #[.int 0 0,.int 0 0,.ref a,.int (es.size:Nat) 0,.int (ep:Nat) 0] } }):J1 (J3 prog w) A (pyIter (.ref a)) Q E s:=by
 have b:s.TypeIs (.ref a) "set":=⟨o,S.get,S.ex.1⟩;refine wpAny_pyIter_slot b F.slot_set_iter (Yc F.slot_set_iter b F.set_iter_entry ?_ (F.args_set_iter_1 _));unfold Builtin.«frozenset.__iter__» Builtin.Frozenset.slot0 slotArgs;simp only [List.isEmpty_nil,Yf,Qj,↓reduceIte,bind_assoc,List.length_nil,bne_self_eq_false];unfold ZO Ub;refine Qa (Qb ?_);refine Qa (Qb ?_);refine Qa (Qa (JS S.get S.data S.fits (Qb ?_)));unfold setDrawn;refine Qa (Qa (QT S.get S.data S.fits ?_));dsimp only;refine Qa (wC ?_);refine Qb ?_
 have c:(!(w.params.followText "set-order") && (!t.plain && decide (es.size > 1)))=false:=by rw [S.plain];simp
 show J1 _ _ (if(!(w.params.followText "set-order") && (!t.plain && decide (es.size > 1)))=true then _ else _) _ _ s
 rw [c,if_neg Qq];refine Qa (Qb ?_);unfold setEpoch;refine Qa (Qa (QT S.get S.data S.fits (Qb ?_)));exact Qa (Yk (Qb ⟨_,rfl,"set_iterator",_,⟨_,Qz _ rfl,rfl⟩,F.si_next.lookup,h⟩))
theorem Sx{Q:Option YP->JZ->Prop}(c:rM s.heap I a slot i es.size ep)(S:jA w s.heap a o es ep t)(k:w.params.followText "set-order"=false->Zo t.place slot=i)(g:i<es.size)
  (l:∀ x h' next,(hE w a ep es)[i]?=some x->(w.params.followText "set-order"=false->Zo t.place next=i+1)->rM h' I a next (i+1) es.size ep->Zk I s.heap h'->Q (some x.2) { s with heap:=h' }):
  J1 (J3 prog w) A (Ux (.ref I)) Q E s:=by
 obtain⟨p,b,j,f⟩:=id c;unfold Ux
 refine Qa (UE (Yq (name:=ZR "__next__") c.typeIs F.si_next
  (Yc F.si_next c.typeIs F.si_next_entry ?_ (F.si_next_args _))))
 show J1 _ _ (fieldsOf (.ref I) >>= _) _ _ s
 refine Qa (US b f ?_);dsimp only;refine Qa (JS S.get S.data S.fits ?_);rw [if_neg (by simp)];refine Qa (Hl (i:=i) (slot:=slot) S k (fun x next n m=>?_) fun h=>absurd g (by lia));dsimp only;refine Qa (Jw b f (by simp) ?_);have e:=Yh (Obj.mapFields (·.setIfInBounds 0 (Uy next))) b (JK (YI f _));have d:=YI f (fun x=>x.setIfInBounds 0 (Uy next));refine Qa (Jw e d (by simp) (Qb ⟨_,rfl,Qb (l x _ next n m ?_ ((Q2 ..).trans (Q2 ..)))⟩))
 refine⟨_,Yh _ e (JK (YI d _)),((Ut ..).trans (Ut ..)).trans j,?_⟩
 rw [YI d]
 simp [Uy]
theorem Sw{Q:Option YP->JZ->Prop}(e:A.handled=none)(c:rM s.heap I a slot es.size es.size ep)(S:jA w s.heap a o es ep t)(h:w.params.followText "set-order"=false->Zo t.place slot=es.size)
  (j:∀ h',Heap.ExtBut I s.heap h'->Q none { s with heap:=h' }):
  J1 (J3 prog w) A (Ux (.ref I)) Q E s:=by
 obtain⟨k,d,l,f⟩:=id c;unfold Ux
 refine Qa (UE (Yq (name:=ZR "__next__") c.typeIs F.si_next
  (Yc F.si_next c.typeIs F.si_next_entry ?_ (F.si_next_args _))))
 show J1 _ _ (fieldsOf (.ref I) >>= _) _ _ s
 refine Qa (US d f ?_);dsimp only;refine Qa (JS S.get S.data S.fits ?_);rw [if_neg (by simp)];refine Qa (Hl (i:=es.size) (slot:=slot) S h (fun x next g n=>?_) fun _=>?_)
 ·rw [Yt (by rw [xQ];exact Ql _)]at g;cases g
 dsimp only;refine Qa (Jw d f (by simp) ?_)
 show J1 _ _ (newExc (.type "StopIteration") [] >>= _) _ _ _
 refine Qa ?_;simp only [newExc,newTuple];refine Qa (Yk ?_ (by size_fits));refine Qa (m:=Z0 _ _) (UI (a:=Zp) (by first | rfl | (simp only [Z0];rfl)) ?_);refine Yk ?_ (by size_fits);simp only [raiseNew];refine Qa (wpAny_handled ?_)
 first | rw [show A.in1.handled=none from e] | rw [e]
 refine Qa (Qb (wpAny_throw ?_));refine Qa (Y0 (T:="StopIteration") (b:=true) ⟨_,Qz _ rfl,rfl⟩ isSubtype_stop ?_);exact Qb (j _ (((Q2 ..).extBut.push _).push _))
theorem Walks.set{prog:J2}{w:J5}{A:Around}(u:A.handled=none)(I a:JY)(j:a≠I)(o:Obj)(es:Array (Int × YP))(ep:Nat)(t:SetTable):
  Walks prog w A I [I,a] [I] es.size (fun i v=>∃ x,(hE w a ep es)[i]?=some x/\v=x.2) (fun i h=>∃ slot,(w.params.followText "set-order"=false->Zo t.place slot=i)/\rM h I a slot i es.size ep/\jA w h a o es ep t) where
 sub:=fun b d=>by simp at d;simp [d]
 frame:=fun _ _ _ ⟨slot,f,⟨q,B,z,y⟩,S⟩ m=>⟨slot,f,⟨q,m I (by simp) _ B,z,y⟩,S.at (m a (by simp) _ S.get)⟩
 item:=fun i s Q E r ⟨slot,f,c,S⟩ g=>
  Sx c S f r fun x l next J H G n=>g _ l s.toks ⟨x,J,rfl⟩ ⟨next,H,G,S.at ((n.2 a j).trans S.get)⟩ fun b o d e=>n.extBut b o (fun h=>d (by simp [h])) e
 done:=fun s Q E ⟨slot,f,c,S⟩ g=>Sw u c S f fun l k=>g l s.toks fun b o d e=>k b o (fun h=>d (by simp [h])) e
 self:=fun i s Q E p g=>by
  obtain⟨slot,f,c,S⟩:=p;refine wpAny_pyIter_slot c.typeIs F.si_iter (Yc F.si_iter c.typeIs F.si_iter_entry ?_ (F.si_iter_args _))
  show J1 _ _ (ret (.ref I)) _ _ s
  exact Qb ⟨_,rfl,"set_iterator",_,c.typeIs,F.si_next.lookup,g⟩
end
section
variable {prog:J2}{w:J5}{A:Around}{E:YP->JZ->Prop}{s:JZ}
theorem P5{r:JY}{Q:Bool->JZ->Prop}(c:s.TypeIs (.ref r) "set")(h:Q false s):J1 (J3 prog w) A (Builtin.List.listLengthHint (.ref r)) Q E s:=by
 unfold Builtin.List.listLengthHint;refine Qa (JG c PySem.F.slot_set_len.lookup ?_);generalize hid:("set.__len__":String)=a
 wp_delta
 rw [show splitId a=some ("set","__len__")from by subst hid;decide +kernel];subst hid;refine Qa (Y0 (T:="set") (b:=true) c (by rw [Us];kernel_rfl) ?_);refine wpAny_ite_split (fun z=>absurd z (by decide)) fun _=>wpAny_ite_split (fun _=>?_) fun z=>absurd (by decide +kernel) z;exact Qa (Ja c (Qb h))
theorem V7(a:JY)(o:Obj)(es:Array (Int × YP))(ep:Nat)(t:SetTable):PySem.W.KdlSrc prog w "set" a a es.size (fun i v=>∃ x,(hE w a ep es)[i]?=some x/\v=x.2) (fun h=>jA w h a o es ep t) where
 type:=fun s S=>⟨o,S.get,S.ex.1⟩
 there:=fun h S=>⟨Qs S.get,Qs S.get⟩
 keep:=fun h e S b=>S.at (b a (.inl rfl) o S.get)
 notList:=by decide
 notTuple:=by decide
 hint:=fun A E s Q S h=>P5 ⟨o,S.get,S.ex.1⟩ h
 iter:=fun A s c S=>⟨_,_,fun E Q d=>Rh S d,Walks.set c _ a (QB (Qs S.get)) o es ep t,⟨0,fun _=>Pj _ S.up,⟨_,Qz _ rfl,rfl,rfl⟩,S.at (Qh _ S.get)⟩⟩
theorem Rg{w:J5}{a:JY}{ep:Nat}{es:Array (Int × YP)}{acc:Array YP}(h:ItemsOf (fun i v=>∃ x,(hE w a ep es)[i]?=some x/\v=x.2) acc es.size):acc.toList=(hE w a ep es).toList.map (·.2):=by
 refine List.ext_getElem? fun i=>?_;rw [QF,QE,QE];by_cases l:i<es.size
 ·have b:i<acc.size:=by rw [h.1];exact l
  obtain⟨x,d,c⟩:=h.2 i _ (Qw b);rw [d,Qw b,c];rfl
 ·rw [Yt (by rw [h.1];lia),Yt (by rw [xQ];lia)];rfl
theorem bS.perm{h:Heap}{es a:List (Int × YP)}(p:List.Perm es a):∀{ks:List (List Int)},bS prog w h es ks->∃ ks',bS prog w h a ks'/\List.Perm ks' ks:=by
 induction p with
 | nil=>intro ks X;exact⟨ks,X,.refl _⟩
 | cons x _ i=>
  intro ks X
  cases X with
  | cons d r=>
   obtain⟨ks',n,q⟩:=i r
   exact⟨_,.cons d n,q.cons _⟩
 | swap x y l=>
  intro ks X
  cases X with
  | cons d r=>cases r with
   | cons j r=>exact⟨_,.cons j (.cons d r),.swap _ _ _⟩
 | trans _ _ c b=>
  intro ks X;obtain⟨o,m,f⟩:=c X;obtain⟨g,k,e⟩:=b m
  exact⟨g,k,e.trans f⟩
theorem ItemsAre.unique:∀{k k':List Int}{vs:List YP},ItemsAre (UT prog w) k vs->ItemsAre (UT prog w) k' vs->k=k'
 | _,_,_,.nil,h=>by cases h;rfl
 | _,_,_,.cons h1 r1,h=>by
  cases h with
  | cons c b=>
   obtain⟨f,d⟩:=Uk h1;obtain⟨e,a⟩:=Uk c;rw [d]at a;cases a;rw [ItemsAre.unique r1 b]
theorem TK.unique{h:Heap}{k k':List Int}{a:JY}(x:TK prog w h k a)(y:TK prog w h k' a):k=k':=by
 obtain⟨o,e,n,g,_,j,i⟩:=x;obtain⟨l,d,m,b,_,c,f⟩:=y;rw [g]at b;cases b;rw [j]at c;cases c;exact ItemsAre.unique i f
def LD(prog:J2)(w:J5)(V:YP->Prop)(h:Heap)(a:JY)(o:Obj)(b:List (List Int)):Prop:=
 ∃ es ep t,jA w h a o es ep t/\bS prog w h es.toList b/\b.Nodup/\∀ e∈es.toList,V e.2
end
end ST
namespace SL
open PySem PySem.Spec PyProof.Rows L2 CL DL SD ST
def fS(k:List Int):D:=.tuple (k.map J9)
section
variable {X:Cx}{pins:List (JY × Obj)}{σ:L2.St}{H:Hp}{s:JZ}
abbrev VT(K:PySem.W.Frag)(H:Hp)(v:YP):Prop:=∃ b,∃ xs:List Int,v=.ref b/\bP K H b (xs.map V.int)
def LE(X:Cx)(b:List (JY × Obj))(d:L2.St)(Q:r0)(u:YP)(c:JZ):Prop:=
 ∃ a o ks H',u=.ref a/\Inv X ((a,o)::b) d H' c/\LD X.prog X.w (VT X.K H') c.heap a o ks/\Q ks H'
def DU(X:Cx)(e:Expr)(t:pJ):Prop:=
 ∀(pins:List (JY × Obj)) (s:JZ) (σ:L2.St) (H:Hp) (Q:r0),Inv X pins σ H s->t σ H Q->J1 (J3 X.prog X.w) X.A (Zh e X.env) (LE X pins σ Q) X.xe s
def zX(X:Cx)(e:Expr)(g:aA->Option (List (List Int))):Prop:=DU X e (Ez X.K g)
theorem Tn{e:Expr}{t:pJ}(h:sA X e t):DU X e t:=fun b s g H Q I q=>bC (h b s g H Q I q) fun u p i=>by
 obtain⟨a,o,r,y,v,I1,S,_,q⟩:=i;obtain⟨z,w,x,t,f,n,m,d,c,l,k,j⟩:=S;have e:p.heap.get? a=some o:=(I1.pin (a,o) (Qv _ Qo)).1;rw [f]at e;cases e
 exact⟨a,o,r,y,v,I1,⟨w,x,t,⟨f,n,m,d.fits (by simp),d.up,c.1,c.2⟩,l,k,j⟩,q⟩
theorem Ry{e:Expr}{g:aA->Option (List (List Int))}(h:u6 X e g):zX X e g:=Tn h
theorem FD{F:JY->Prop}(I:Inv X pins σ H s):∀{es:List (Int × YP)}{ks:List (List Int)},bS X.prog X.w s.heap es ks->(∀ e∈es,VT X.K H e.2)->∃ vs:List V,Reps X.K F H (ks.map fS) vs/\Vals vs (es.map (·.2))
 | _,_,.nil,_=>⟨[],.nil,.nil⟩
 | _,_,.cons (k:=k) (b:=b) h1 r,hv=>by
  obtain⟨vs,d,c⟩:=FD (F:=F) I r fun e f=>hv e (Qf _ f);obtain⟨h,xs,g,a⟩:=hv _ Qo;cases g
  have:k=xs:=h1.unique (mD I a)
  subst this
  exact⟨.ref b::vs,.cons (.tup a (qG k)) d,.cons rfl c⟩
end
theorem Wp{d0:List D}{ds a:List D}(p:List.Perm ds a):∀{l:List KD},fT d0 ds=some l->∃ l',fT d0 a=some l'/\List.Perm l' l:=by
 induction p with
 | nil=>intro l h;exact⟨l,h,.refl _⟩
 | cons x _ q=>
  intro l h;obtain⟨k,g,h⟩:=aG h;obtain⟨r,f,h⟩:=aG h;cases h;obtain⟨l',c,b⟩:=q f
  exact⟨(k,x)::l',by unfold fT;rw [g,c];rfl,b.cons _⟩
 | swap x y v=>
  intro l h;obtain⟨k,g,h⟩:=aG h;obtain⟨r,f,h⟩:=aG h;cases h;obtain⟨o,t,h⟩:=aG f;obtain⟨i,s,h⟩:=aG h;cases h
  exact⟨(o,x)::(k,y)::i,by unfold fT;rw [t];unfold fT;rw [g,s];rfl,.swap _ _ _⟩
 | trans _ _ e d=>
  intro l h;obtain⟨u,c,b⟩:=e h;obtain⟨n,m,j⟩:=d c
  exact⟨n,m,j.trans b⟩
theorem V1{d0:List D}{ds c:List D}{l l':List KD}(h:fT d0 ds=some l)(h':fT d0 c=some l')(p:List.Perm l' l):fU l'=fU l:=by
 refine Di (((pE l').trans p).trans (pE l).symm) (t6 l') (t6 l) fun a g b f e=>?_;have r:=(C8 h').2;have d:=r a ((pE l').mem_iff.mp g);have i:=r b ((pE l').mem_iff.mp f);rw [e]at d;exact Jk e (nW d i)
def o0(g:aA->Option (List (List Int))):aA->Option D:=fun a=>(g a).bind fun b=>iF [.list ((dd b).map fS)]
section
variable {X:Cx}{e:Expr}{p pos:Pos}{g:aA->Option (List (List Int))}
theorem Gx{x:Str}(hc:X.calm=true)(hu:X.A.units+66<Zc)(hg:Gl X x)(hm:X.mg x=none)(hv:Zs x=some (.builtin "sorted"))(ha:zX X e g)(hn:x≠"__name__":=by decide)(R:(x == ("__debug__":Str))=false:=by decide)
  (he:J0 [e] X.env=(false,Zh e X.env)::J0 [] X.env:=by rfl) (hpl:(Zn pos (J0 [] X.env)).any (·.1)=false:=by rfl):
  DE X (.Call (.Name x p) [e] [] pos) (o0 g):=by
 intro i s U H Q I ⟨F,y,ρ,d,S,q,k⟩;obtain⟨h,e1,q⟩:=aG q;refine Je (nQ I hg hm hv ?_ hn R);refine PyProof.Rows.callWith_builtin1 (Q:=?_) ?_ he hpl;rw [he]
 show J1 _ _ (spliced ((false,Zh e X.env)::Zn pos (J0 [] X.env))) _ _ s
 refine Calls.spliced_cons (bC (ha i s U H (fun n J=>n.Nodup/\(∀ k,k∈n ↔ k∈h)/\∃ B,aN F B H J) I ⟨F,y,ρ,h,S,e1,fun B J n E1 M N=>⟨M,N,B,E1⟩⟩) fun u s1 zz=>?_);obtain⟨a,o,n,J,eu,I1,⟨G,T,t,S1,X1,M,v1⟩,_,N,B,E1⟩:=zz;refine Calls.spliced_nil ?_;subst eu;refine Calls.call_function_entry kind_sorted plain_sorted entry_sorted (args_sorted1 _) ?_;unfold Builtin.«sorted»;have K:List.Perm n (dd h):=(List.perm_ext_iff_of_nodup M (Cb h)).mpr fun k=>(N k).trans xE.symm
 have a0:G.size=(dd h).length:=by rw [<- Qg,X1.length,K.length_eq]
 have a3:(dd h).length<=1000:=by
  cases c:dd h with
  | nil=>decide
  | cons O j=>
   rw [c]at q;have f:(if(j.map fS).length<1000 then _ else none)=some d:=q;by_cases z:(j.map fS).length<1000
   ·rw [Qi]at z;simp;lia
   ·rw [if_neg z]at f;cases f
 refine Qa (m:=checkCount "sorted" 1 1 _) (Qb (Qa (PySem.W.kdu_collect (V7 a o G T t) (by simp [I1.ok.hd hc]) S1 (gD (by lia)) fun h' tk a5 hk r=>?_)));have I2:Inv X i U J { s1 with heap:=h',toks:=tk }:=(I1.pins_of fun p E=>I1.pin p (Qv _ (Qf _ E))).kept hk;obtain⟨a4,X2,p2⟩:=(X1.mono fun k b x=>x.at fun o e=>hk b o e).perm (qR X.w a T G).symm;obtain⟨vs,r1,Y⟩:=FD (F:=B) I2 X2 fun e he=>v1 e ((qR X.w a T G).mem_iff.mp he);rw [<- Rg r]at Y
 have v:∃ d0 l,fT d0 ((dd h).map fS)=some l/\d=.list ((fU l).map (·.2)):=by
  cases c:dd h with
  | nil=>rw [c]at q;cases q;exact⟨[],[],rfl,rfl⟩
  | cons O j=>
   rw [c]at q;have f:(if(j.map fS).length<1000 then(fT (O.map J9) ((O::j).map fS)).bind fun l=>some (Uj ((fU l).map (·.2)))else none)=some d:=q;by_cases z:(j.map fS).length<1000
   ·rw [if_pos z]at f;obtain⟨l,e2,f⟩:=aG f;cases f
    exact⟨_,l,e2,rfl⟩
   ·rw [if_neg z]at f;cases f
 obtain⟨d0,l,f1,rfl⟩:=v;obtain⟨l',f2,f3⟩:=Wp ((p2.trans K).map fS).symm f1;refine Ld hu I2 Y r1 f2 (by rw [Qi,(p2.trans K).length_eq];lia) fun p a2 E Z _=>?_;rw [V1 f1 f2 f3]at Z;exact k _ _ _ (E1.trans (aN.frozen E)) (aR.newLst E Z)
end
end SL
namespace SL
open PySem PySem.Spec PyProof.Rows L2 CL DL SD
section
variable {X:Cx}{e st:Expr}{p2 pos:Pos}
end
end SL
namespace TL
open PySem PySem.Spec PyProof.Rows L2 HT
theorem RS:fillsNumberSlot (.type "tuple") "mul"=pure false:=
 PySem.fillsNumberSlot_seq (id:="tuple.__mul__") (r:=some (.builtin "tuple.__rmul__")) PySem.F.slot_tuple_mul.lookup (by decide +kernel) PySem.F.slot_tuple_rmul.lookup (by decide +kernel)
theorem Wm:seqRepeat? (.type "tuple")=pure (some (.builtin "tuple.__mul__")):=by
 unfold seqRepeat?;rw [PySem.seqSlot_of (T:="tuple") (name:="__mul__") (id:="tuple.__mul__") PySem.F.slot_tuple_mul.lookup (by decide +kernel),PySem.seqSlot_of (T:="tuple") (name:="__rmul__") (id:="tuple.__rmul__") PySem.F.slot_tuple_rmul.lookup (by decide +kernel)];rfl
theorem Wn(a:Int)(t:Tok)(l:JY)(b:Array YP)(n:Nat)(dd:Option JY)(e:Array (Option YP)):
  Meets (Builtin.«int.__rmul__» ⟨[.int a t,.ref l],[]⟩) (fun _ R s=>s.heap.get? l=some { cls:=.type "tuple",dict:=dd,data:=.seq b n,slots:=e }/\R (.ok (.ret Value.notImplemented)) s):=
 .of_wp fun c w A R s h=>by
  obtain⟨j,g,d,f,i⟩:=s;obtain⟨k,h⟩:=h
  wp_walk
  exact⟨_,rfl,h⟩
theorem Sd(t:Tok)(l:JY)(items:Array YP)(n:Nat)(dd:Option JY)(c:Array (Option YP))(a:items.isEmpty=false)(hsz:items.size+items.size<=16777216):
  Meets (Builtin.«tuple.__mul__» ⟨[.ref l,.int 2 t],[]⟩) (fun _ R s=>s.heap.get? l=some { cls:=.type "tuple",dict:=dd,data:=.seq items n,slots:=c }/\R (.ok (.ret (J4 s.heap.objs.size))) { s with heap:=s.heap.push { cls:=ZH "tuple",data:=Data.seq (items++items) },toks:=s.toks }):=
 .of_wp fun b w A R s h=>by
  obtain⟨q,g,d,o,p⟩:=s;obtain⟨e,h⟩:=h;have r:=AutoSeq1.idx_int
  have v:(items.isEmpty || (2:Int) == 1)=false:=by rw [a];rfl
  have u:(decide ((2:Int)<=0) || items.isEmpty)=false:=by rw [a];rfl
  have k:¬ ((items.size:Int) * 2 > (2 ^ 63-1) / 8):=by
   have:((2:Int) ^ 63-1) / 8=1152921504606846975:=by decide
   lia
  have j:Builtin.Tuple.tupleTooMany ((items.size:Int) * 2)=false:=by
   unfold Builtin.Tuple.tupleTooMany;rw [Yj];exact decide_eq_false (by lia)
  have i:(List.replicate ((2:Int).toNat) items).foldl (fun x y=>x++y) #[]=items++items:=by
   show(#[]++items)++items=items++items
   simp
  have f:sizeOk (.seq (items++items)):=by
   show(items++items).size<=sizeLine
   rw [Array.size_append,Yj];exact hsz
  unfold Builtin.«tuple.__mul__»
  wp_walk using ZF e
  rw [if_neg k];dsimp only;rw [j,if_neg Qq,i];exact Qa (m:=ZB _) (Yk (Qb ⟨_,rfl,h⟩) f)
section
variable {prog:J2}{w:J5}{A:Around}{E:YP->JZ->Prop}{s:JZ}
theorem Se{t:JY}{vs:List YP}{u:Tok}{Q:YP->JZ->Prop}(j:IsTup s.heap t vs.toArray)(i:vs≠[])(hz:vs.length+vs.length<=16777216)
  (h:Q (.ref s.heap.objs.size) { s with heap:=s.heap.push { cls:=.type "tuple",data:=.seq (vs++vs).toArray } }):J1 (J3 prog w) A (Zv .Mult (.ref t) (.int 2 u)) Q E s:=by
 obtain⟨⟨cls,dd,data,c⟩,a,f,n,d⟩:=id j
 simp only at f d
 subst f d
 have b:vs.toArray.isEmpty=false:=by cases vs with
  | nil=>exact absurd rfl i
  | cons _ _=>rfl
 have e:vs.toArray++vs.toArray=(vs++vs).toArray:=by simp
 refine wpAny_binaryOp_repeat_ref (T:="tuple") (U:="int") (by decide) ⟨_,a,rfl⟩ (fun g=>typeIs_int g 2 u) RS PySem.F.fills_int_mul PySem.F.slot_int_rmul Wm PySem.F.slot_int_index.lookup
  (call_meets PySem.F.slot_int_rmul (typeIs_int s 2 u) PySem.F.entry_int_rmul (PySem.F.args_int_rmul_2 _ _) (Wn 2 u t vs.toArray n dd c)
   ⟨a,rfl,⟨_,a,rfl⟩,call_meets PySem.F.slot_tuple_mul ⟨_,a,rfl⟩ PySem.F.entry_tuple_mul (PySem.F.args_tuple_mul_2 _ _) (Sd u t vs.toArray n dd c b (by simpa using hz)) ⟨a,?_⟩⟩)
 rw [e];exact h
theorem Pz{t b:JY}{i:List YP}{Q:YP->JZ->Prop}(r:IsTup s.heap t #[])(u:IsTup s.heap b i.toArray)(h:Q (.ref b) s):J1 (J3 prog w) A (Zv .Add (.ref t) (.ref b)) Q E s:=by
 obtain⟨⟨v,dd,m,p⟩,j,l,n,k⟩:=id r;obtain⟨⟨o,f,g,e⟩,a,d,q,c⟩:=id u
 simp only at l k d c
 subst l k d c;exact concat_meets ⟨_,j,rfl⟩ ⟨_,a,rfl⟩ noFill_tuple_add seq_tuple_add PySem.F.slot_tuple_add PySem.F.entry_tuple_add (PySem.F.args_tuple_add_2 _ _) (tuple_addW0 t b #[] i.toArray n q dd f p e rfl) ⟨j,a,h⟩
theorem PB{t b:JY}{vs a:List YP}{Q:YP->JZ->Prop}(r:s.heap.IsList t vs.toArray)(u:s.heap.IsList b a.toArray)(hz:vs.length+a.length<=sizeLine)
  (h:Q (.ref s.heap.objs.size) { s with heap:=s.heap.push { cls:=.type "list",data:=.seq (vs++a).toArray } }):J1 (J3 prog w) A (Zv .Add (.ref t) (.ref b)) Q E s:=by
 obtain⟨⟨cls,dd,data,p⟩,k,m,n,l⟩:=id r;obtain⟨⟨o,i,j,g⟩,c,f,q,d⟩:=id u
 simp only at m l f d
 subst m l f d
 have e:vs.toArray++a.toArray=(vs++a).toArray:=by simp
 refine concat_meets ⟨_,k,rfl⟩ ⟨_,c,rfl⟩ noFill_list_add seq_list_add PySem.F.slot_list_add PySem.F.entry_list_add (PySem.F.args_list_add_2 _ _) (list_addW t b vs.toArray a.toArray n q dd i p g (by simpa using hz)) ⟨k,c,?_⟩;rw [e];exact h
theorem WZ{t c:JY}{a:Array YP}{i g:YP}{j l:Option Int}{Q:YP->JZ->Prop}(b:IsTup s.heap t a)(hs:s.heap.IsSliceOf c i g .none)(pl:UY i j)(m:UY g l)
  (k:sIx a.size 0 j=0/\sIx a.size a.size l=a.size) (h:Q (.ref t) s):J1 (J3 prog w) A (getItem (.ref t) (.ref c)) Q E s:=by
 obtain⟨n,d,e,o⟩:=id hs;have f:s.TypeIs (.ref c) "slice":=⟨n,d,e⟩;unfold getItem
 try with_reducible refine Yg ?_
 first | refine Qa (Qb ?_) | skip
 refine Qa (wpAny_sequenceKey b.typeIs (by decide) ?_)
 refine Qa (Yq (name:=ZR "__getitem__") b.typeIs YT
  (Yc YT b.typeIs entry_tuple_getitem ?_ (args_tuple_getitem _ _)))
 show J1 _ _ (ZZ (.ref t) >>= _) _ _ s
 refine Qa (tupleItemsOf_ b (Qa (Ja f ?_)));rw [if_pos (by decide)];refine Qa (K9 hs pl m ?_);rw [k.1,k.2]
 show J1 _ _ (if(((0:Nat):Int) == 0 && (1:Int) == 1 && (a.size-0) == a.size)=true then _ else _) _ _ s
 rw [if_pos (by simp)];unfold Builtin.Tuple.tupleIsExact;refine Qa (Qa (Ja b.typeIs (Qb ?_)));rw [if_pos (by decide)];exact Qa (Y7 (Qb ⟨_,rfl,Qb h⟩))
end
end TL
namespace SL
open PySem PySem.Spec PyProof.Rows L2 CL DL SD TL
section
variable {X:Cx}{e st:Expr}{p2 pos:Pos}
theorem Vw:bI X (Zv .Mult) (fun x y H Q=>∃ a xs,x=.ref a/\y=.int 2/\bP X.K H a xs/\xs≠[]/\xs.length<=1000/\∀ p,H p=none->Q (.ref p) (aJ H p (.tup (xs++xs)))):=by
 intro d s l H x y v u Q I f e h;obtain⟨a,xs,rfl,rfl,k,j,n,q⟩:=h;cases f;obtain⟨t,rfl⟩:=e;obtain⟨i,c,g,_⟩:=I.tuple k;refine Se g (fun z=>j (c.nil_iff.mp z)) (by rw [<- c.length];lia) ?_
 refine⟨.ref s.heap.objs.size,_,I.laid (t':=s.toks) (o:=.tup (xs++xs)) (fun b m q=>Qh _ q) (Ql _) ?_,rfl,q _ (I.hok.fresh (Ql _))⟩
 exact⟨by rw [Qd,Yj];lia,_,c.append c,IsTup.new _ _⟩
theorem Vu:bI X (Zv .Add) (fun x y H Q=>∃ a b ys,x=.ref a/\y=.ref b/\bP X.K H a []/\bP X.K H b ys/\Q (.ref b) H):=by
 intro c s n H x y v u Q I f e h;obtain⟨a,b,ys,rfl,rfl,m,l,q⟩:=h;cases f;cases e;obtain⟨k,g,j,_⟩:=I.tuple m;obtain⟨d,o,i,_⟩:=I.tuple l;cases g;exact Pz j i ⟨.ref b,H,I,rfl,q⟩
theorem Vv:bI X (Zv .Add) (fun x y H Q=>∃ a b xs ys,x=.ref a/\y=.ref b/\cD X.K H a xs/\cD X.K H b ys/\xs.length+ys.length<=1000/\∀ p,H p=none->Q (.ref p) (aJ H p (.lst (xs++ys)))):=by
 intro e s t H x y v u Q I j i h;obtain⟨a,b,xs,ys,rfl,rfl,r,n,g,q⟩:=h;cases j;cases i;obtain⟨m,d,l,_⟩:=I.list r;obtain⟨f,c,k,_⟩:=I.list n;refine PB l.isList k.isList (by rw [<- d.length,<- c.length];exact gD g) ?_
 refine⟨.ref s.heap.objs.size,_,I.laid (t':=s.toks) (o:=.lst (xs++ys)) (fun b w q=>Qh _ q) (Ql _) ?_,rfl,q _ (I.hok.fresh (Ql _))⟩
 exact⟨by rw [Qd];exact gD g,_,0,d.append c,Qz _ rfl⟩
theorem VX:mW X (fun x lo hi H Q=>∃ a xs,x=.ref a/\bP X.K H a xs/\(HT.sIx xs.length 0 lo=0/\HT.sIx xs.length xs.length hi=xs.length)/\Q (.ref a) H):=by
 intro d s m H x v o n lo hi p Q I f l i g h;obtain⟨a,xs,rfl,j,k,q⟩:=h;cases f;obtain⟨c,r,e,t⟩:=I.tuple j
 have b:c.toArray.size=xs.length:=by rw [QK];exact r.length.symm
 exact⟨"tuple",_,YT.lookup,e.typeIs,WZ e l i g (by rw [b];exact k) ⟨.ref a,H,I,rfl,q⟩⟩
def LU:D->Option Int->Option Int->Option D
 | .list xs,lo,hi=>some (.list (DL.cutD xs lo hi))
 | .tuple xs,lo,hi=>some (.tuple (DL.cutD xs lo hi))
 | _,_,_=>none
def pQ(ga:aA->Option D)(b c:aA->Option (Option Int)):aA->Option D:=fun a=>(ga a).bind fun d=>(b a).bind fun l=>(c a).bind fun h=>LU d l h
theorem O3{xs:List D}{a b:Option Int}(h:HT.sIx xs.length 0 a=0/\HT.sIx xs.length xs.length b=xs.length):DL.cutD xs a b=xs:=by
 unfold DL.cutD;rw [h.1,h.2,List.drop_zero,Nat.sub_zero,List.take_length]
theorem A8{a:Expr}{g i:Option Expr}{ga:aA->Option D}{j m:aA->Option (Option Int)}(s:DE X a ga)(o:DO X g j)(r:DO X i m):DE X (.Subscript a (.Slice g i none p2) pos) (pQ ga j m):=
 cY (TN (VS.or (VU.or VX)) s o r) fun B H Q n=>by
  obtain⟨F,b,f,d,S,q,k⟩:=n;obtain⟨x,w,q⟩:=aG q;obtain⟨l,u,q⟩:=aG q;obtain⟨h,t,q⟩:=aG q
  refine⟨F,b,f,x,S,w,fun A I v E1 R1=>⟨A,b,f,l,S.ext E1,u,fun z G E2=>⟨z,b,f,h,(S.ext E1).ext E2,t,fun J E E3=>?_⟩⟩⟩
  have y:=(R1.stay E2.stay).stay E3.stay;have E123:=E1.trans (E2.trans E3)
  cases y with
  | @lst a' vs ds h1 r1=>
   cases q;exact .inl ⟨a',vs,rfl,h1.sq,fun p e=>k _ _ _ (E123.trans (aN.frozen e)) (aR.newLst e (r1.cut l h))⟩
  | @tup a' vs ds h1 r1=>
   cases q;by_cases c:HT.sIx ds.length 0 l=0/\HT.sIx ds.length ds.length h=ds.length
   ·rw [O3 c]at k;exact .inr (.inr ⟨a',vs,rfl,h1,by rw [<- r1.length];exact c,k _ _ _ E123 (.tup h1 r1)⟩)
   ·exact .inr (.inl ⟨a',vs,rfl,h1,by rw [<- r1.length];exact c,fun p e=>k _ _ _ (E123.trans (aN.fresh e)) (aR.newTup e (r1.cut l h))⟩)
  | non=>cases q
  | dct _ _ _ _ _=>cases q
  | exn _ _ _=>cases q
  | bl _=>cases q
  | int _=>cases q
  | str _=>cases q
def cG:D->D->Option D
 | .int i,.int j=>some (.int (i+j))
 | .tuple xs,.tuple ys=>if xs.length+ys.length<=1000 then some (.tuple (xs++ys))else none
 | .list xs,.list ys=>if xs.length+ys.length<=1000 then some (.list (xs++ys))else none
 | _,_=>none
theorem Ca{c b:Type}{xs:List c}{a:List b}(h:xs.length=a.length)(e:a=[]):xs=[]:=by subst e;exact Jz h
theorem dQ:bI X (Zv .Add) (cP X.K cG):=qP (Vj.or (Vk.or (Vu.or Vv))) fun x y H Q l=>by
 obtain⟨F,d,e,q,z,j,R2,f,k⟩:=l;unfold cG at f
 split at f
 ·cases f;cases j;cases R2;exact .inl ⟨_,_,rfl,rfl,k F H _ (aN.refl F H) (.int _)⟩
 ·rename_i i h;by_cases c:i.length+h.length<=1000
  ·rw [if_pos c]at f;cases f
   cases j with
   | @tup a vs _ h1 r1=>
    cases R2 with
    | @tup b us _ h2 r2=>
     by_cases n:vs=[]
     ·subst n
      have:i=[]:=Ca r1.length rfl
      subst this;exact .inr (.inr (.inl ⟨a,b,us,rfl,rfl,h1,h2,k F H _ (aN.refl F H) (.tup h2 r2)⟩))
     ·refine .inr (.inl ⟨a,b,vs,us,rfl,rfl,h1,h2,n,gD (by rw [<- r1.length,<- r2.length];exact c),fun e=>?_,fun e p g=>?_⟩)
      ·have:h=[]:=Ca r2.length e
       subst this;rw [QR]at k;exact k F H _ (aN.refl F H) (.tup h1 r1)
      ·exact k F _ _ (aN.fresh g) (aR.newTup g (r1.append r2))
  ·rw [if_neg c]at f;cases f
 ·rename_i i h;by_cases c:i.length+h.length<=1000
  ·rw [if_pos c]at f;cases f
   cases j with
   | @lst a vs _ h1 r1=>
    cases R2 with
    | @lst b us _ h2 r2=>
     exact .inr (.inr (.inr ⟨a,b,vs,us,rfl,rfl,h1.sq,h2.sq,by rw [<- r1.length,<- r2.length];exact c,fun p g=>k _ _ _ (aN.frozen g) (aR.newLst g (r1.append r2))⟩))
  ·rw [if_neg c]at f;cases f
 ·cases f
def cK:D->D->Option D
 | .int i,.int j=>if mS i j=true then some (.int (i * j))else none
 | .tuple xs,.int j=>if j=2/\xs≠[]/\xs.length<=500 then some (.tuple (xs++xs))else none
 | _,_=>none
theorem gG:bI X (Zv .Mult) (cP X.K cK):=qP ((Vr (X:=X)).or Vw) fun x y H Q i=>by
 obtain⟨F,d,e,q,z,h,R2,b,k⟩:=i;unfold cK at b
 split at b
 ·exact .inl ⟨F,_,_,q,z,h,R2,b,k⟩
 ·rename_i f j;by_cases c:j=2/\f≠[]/\f.length<=500
  ·rw [if_pos c]at b;cases b;obtain⟨rfl,l,m⟩:=c;cases R2
   cases h with
   | @tup a vs _ h1 r1=>
    exact .inr ⟨a,vs,rfl,rfl,h1,fun e=>l (Ca r1.length e),by rw [<- r1.length];lia,fun p g=>k F _ _ (aN.fresh g) (aR.newTup g (r1.append r1))⟩
  ·rw [if_neg c]at b;cases b
 ·cases b
def pO:D->D->Option D
 | .int i,.int j=>some (.bool (decide (i<j)))
 | .tuple xs,.tuple ys=>(eF xs).bind fun a=>(eF ys).bind fun b=>some (.bool (HT.lexLt a b))
 | _,_=>none
theorem xO(j:X.A.units+64<Zc):bI X (Ze .Lt) (cP X.K pO):=qP (Nh.or (Vm (by lia))) fun x y H Q g=>by
 obtain⟨F,d,e,q,z,f,R2,c,k⟩:=g;unfold pO at c
 split at c
 ·cases c;cases f;cases R2;exact .inl ⟨_,_,rfl,rfl,k F H _ (aN.refl F H) (.bl _)⟩
 ·obtain⟨a,i,c⟩:=aG c;obtain⟨b,h,c⟩:=aG c;cases c
  cases f with
  | @tup u vs _ h1 r1=>
   cases R2 with
   | @tup u' us _ h2 r2=>
    rw [yH r1 i]at h1;rw [yH r2 h]at h2;exact .inr ⟨u,u',a,b,rfl,rfl,h1,h2,k F H _ (aN.refl F H) (.bl _)⟩
 ·cases c
end
end SL
namespace EL
open PySem PySem.Spec PyProof.Rows L2 DL ZL
open AutoSeq1 (wpAny_loadPart')
theorem Su(l:JY)(items:Array YP)(n:Nat)(b:Option JY)(k:Array (Option YP)):
  Meets (Builtin.«enumerate.__new__» ⟨[.type "enumerate",.ref l],[]⟩) (fun _ R s=>s.heap.get? l=some { cls:=.type "tuple",dict:=b,data:=.seq items n,slots:=k } /\
   R (.ok (.ret (.ref (s.heap.push { cls:=.type "tuple_iterator",data:=.fields #[.ref l,.int 0 0] }).objs.size)))
    { s with heap:=(s.heap.push { cls:=.type "tuple_iterator",data:=.fields #[.ref l,.int 0 0] }).push { cls:=.type "enumerate",data:=.fields #[.none,.bool false,.ref s.heap.objs.size,Uy 0,.none,.none] } }):=
 .of_wp fun e w A R s h=>by
  obtain⟨o,g,d,j,m⟩:=s;obtain⟨a,h⟩:=h;have f:=sub_enumerate;have i:Heap.IsTuple (Shared.heap ⟨o,g,d,j,m⟩) l items:=⟨_,a,rfl,n,rfl⟩
  wp_walk using ZF a
  refine wpAny_stack_any fun p=>Qb ?_;split
  ·rename_i c _ _ _ _ _
   cases(c == ZH "enumerate") <;> (wp_walk using ZF a,Uh i;exact⟨_,rfl,h⟩)
  ·wp_walk using ZF a,Uh i
   exact⟨_,rfl,h⟩
section
variable {prog:J2}{w:J5}{A:Around}{E:YP->JZ->Prop}{s:JZ}
theorem Pr{l:JY}{a:Array YP}{Q:YP->JZ->Prop}(p:s.heap.IsTuple l a)
  (h:∀ h',IsEnum h' (s.heap.objs.size+1) s.heap.objs.size 0 .none->h'.IsTupleIter s.heap.objs.size l 0->h'.objs.size=s.heap.objs.size+2->
   (∀ b o,s.heap.get? b=some o->h'.get? b=some o)->Q (.ref (s.heap.objs.size+1)) { s with heap:=h' }):
  J1 (J3 prog w) A (call (.type "enumerate") [.ref l]) Q E s:=by
 obtain⟨⟨c,i,q,k⟩,m,g,n,f⟩:=p
 replace g:c=.type "tuple":=g
 replace f:q=.seq a n:=f
 subst g f
 refine callType_new F.called_enumerate (by decide) (F.typeCall_enumerate_1 _) (F.newCall_enumerate_1 _) (fun d=>F.args_object_init_2 d _) F.entry_enumerate_new
  (Su l a n i k) ⟨m,?_⟩
 have e:(s.heap.push { cls:=.type "tuple_iterator",data:=.fields #[.ref l,.int 0 0] }).objs.size=s.heap.objs.size+1:=YD ..
 show _/\_
 rw [e]
 have j:IsEnum ((s.heap.push { cls:=.type "tuple_iterator",data:=.fields #[.ref l,.int 0 0] }).push
   { cls:=.type "enumerate",data:=.fields #[.none,.bool false,.ref s.heap.objs.size,Uy 0,.none,.none] }) (s.heap.objs.size+1) s.heap.objs.size 0 .none:=by
  have:=Qz (s.heap.push { cls:=.type "tuple_iterator",data:=.fields #[.ref l,.int 0 0] })
   (o:={ cls:=.type "enumerate",data:=.fields #[.none,.bool false,.ref s.heap.objs.size,Uy 0,.none,.none] }) rfl
  rw [e]at this;exact this
 exact⟨⟨_,j,rfl⟩,h _ j ⟨_,Qh _ (Qz _ rfl),rfl,rfl⟩ (by rw [YD,e]) fun b o x=>Qh _ (Qh _ x)⟩
theorem Sv{c t:JY}{i:Nat}{a:Array YP}{x:YP}{Q:YP->JZ->Prop}(b:s.heap.IsTupleIter c t i)(j:s.heap.IsTuple t a)(h:a[i]?=some x)
  (l:∀ h',h'.IsTupleIter c t (i+1)->Zk c s.heap h'->Q x { s with heap:=h' }):J1 (J3 prog w) A (ZK (.ref c)) Q E s:=by
 obtain⟨o,e,k,d⟩:=id b;obtain⟨m,f,_,n,g⟩:=j;unfold ZK
 refine Qa (Yq (name:=ZR "__next__") b.typeIs Jh
  (Yc Jh b.typeIs F.entry_tuple_iterator_next ?_ (F.args_tuple_iterator_next_1 _)))
 show J1 _ _ (field (.ref c) 0 >>= _) _ _ s
 refine Qa (JX e d (x:=.ref t) rfl ?_)
 show J1 _ _ (if(J4 t == Zp)=true then _ else _) _ _ s
 rw [if_neg (show ¬ ((J4 t == Zp)=true)from Qq)]
 show J1 _ _ (field (.ref c) 1 >>= _) _ _ s
 refine Qa (JX e d (x:=.int i 0) rfl ?_)
 show J1 _ _ (seqItems? (.ref t) >>= _) _ _ s
 refine Qa (Js f g ?_);simp only [Y4,h];refine Qa (Jw e d (by simp) (Qb ⟨x,rfl,Qb (l _ ?_ (Q2 ..))⟩))
 refine⟨_,Yh _ e (JK (YI d _)),(Ut ..).trans k,?_⟩
 rw [YI d]
 simp [Uy]
theorem Hk{d t:JY}{i:Nat}{b:Array YP}{Q:YP->JZ->Prop}(k:A.handled=none)(c:s.heap.IsTupleIter d t i)(n:s.heap.IsTuple t b)(l:b[i]?=none)
  (p:∀ h' e,Heap.ExtBut d s.heap h'->(∃ o,h'.get? e=some o/\o.cls=.type "StopIteration")->E (.ref e) { s with heap:=h' }):J1 (J3 prog w) A (ZK (.ref d)) Q E s:=by
 obtain⟨o,g,u,j⟩:=id c;obtain⟨q,f,_,r,h⟩:=n;unfold ZK
 refine Qa (Yq (name:=ZR "__next__") c.typeIs Jh
  (Yc Jh c.typeIs F.entry_tuple_iterator_next ?_ (F.args_tuple_iterator_next_1 _)))
 show J1 _ _ (field (.ref d) 0 >>= _) _ _ s
 refine Qa (JX g j (x:=.ref t) rfl ?_)
 show J1 _ _ (if(J4 t == Zp)=true then _ else _) _ _ s
 rw [if_neg (show ¬ ((J4 t == Zp)=true)from Qq)]
 show J1 _ _ (field (.ref d) 1 >>= _) _ _ s
 refine Qa (JX g j (x:=.int i 0) rfl ?_)
 show J1 _ _ (seqItems? (.ref t) >>= _) _ _ s
 refine Qa (Js f h ?_);simp only [Y4,l];refine Qa (Y7 (Qa (Jw g j (by simp) ?_)))
 show J1 _ _ (newExc (.type "StopIteration") [] >>= _) _ _ _
 refine Qa ?_;simp only [newExc,newTuple];refine Qa (Yk ?_ (by size_fits));refine Qa (m:=Z0 _ _) (UI (a:=Zp) (by first | rfl | (simp only [Z0];rfl)) ?_);refine Yk ?_ (by size_fits);simp only [raiseNew];refine Qa (wpAny_handled ?_)
 first | rw [show A.in1.handled=none from k] | rw [k]
 refine Qa (Qb (wpAny_throw ?_));exact p _ _ (((Q2 ..).extBut.push _).push _) ⟨_,Qz _ rfl,rfl⟩
end
theorem Ru{prog:J2}{w:J5}{A:Around}(l:A.handled=none)(c t:JY)(g:t≠c)(a:Array YP):
  Draws prog w A c [c,t] a.size (fun i v=>a[i]?=some v) (fun i h=>h.IsTupleIter c t i/\h.IsTuple t a) where
 live:=fun _ _ b=>let⟨o,ho,_⟩:=b.1;⟨o,ho⟩
 frame:=fun _ _ _ b j=>⟨b.1.at fun o e=>j c (by simp) o e,b.2.at fun o e=>j t (by simp) o e⟩
 item:=fun i s Q E k b m=>Sv b.1 b.2 (x:=a[i]) (by simp [k]) fun p f d=>m _ p s.toks (by simp [k]) ⟨f,b.2.extBut d.extBut g⟩ d
 done:=fun s Q E b n=>Hk l b.1 b.2 (by simp) n
def u8(a:Hp->List V->Prop):It:=
 ⟨fun i H=>∃ xs x,a H xs/\xs[i]?=some x,
  fun i H v b=>∃ p,H p=none/\v=.ref p/\∃ x,b=aJ H p (.tup [.int i,x])/\∀ xs,a H xs->xs[i]?=some x,
  fun i H=>∃ xs,a H xs/\xs.length<=i⟩
structure zY(P:J2)(w:J5)(K:PySem.W.Frag)(SQ:Hp->List V->Prop)(a it:JY)(IT:Nat->Heap->Prop)(IS:Heap->Array YP->Prop):Prop where
 sq:∀(X:Cx) (pins:List (JY × Obj)) (σ:L2.St) (H:Hp) (s:JZ) (xs:List V),X.K=K->L2.Inv X pins σ H s->SQ H xs->(∃ its,Vals xs its/\IS s.heap its.toArray)/\∀ ys,SQ H ys->ys=xs
 ob:∀ i h,IT i h->∃ o,h.get? it=some o/\∀ v,o.data≠.cell v
 kp:∀ i h h',IT i h->(∀ o,h.get? it=some o->h'.get? it=some o)->IT i h'
 D:∀(A:Around) (items:Array YP),A.handled=none->Draws P w A it [it,a] items.size (fun i v=>items[i]?=some v) (fun i h=>IT i h/\IS h items)
 Z:∀(A:Around) (items:Array YP) (i:Nat),A.handled=none->items.size<=i->Draws P w A it [it,a] i (fun _ _=>False) (fun j h=>j=i/\IT i h/\IS h items)
theorem Kt{P:J2}{w:J5}{K:PySem.W.Frag}{R:List Expr}{x1}{G:Pos}{SQ:Hp->List V->Prop}(a e m:JY)(t:e≠m)(a6:e≠a){IT:Nat->Heap->Prop}{IS:Heap->Array YP->Prop}(Z:zY P w K SQ a m IT IS):
  mY P w K (.Tuple R x1 G) (u8 SQ) [e,m] e (fun i h=>(∃ old,IsEnum h e m i old)/\IT i h) where
 mem:=by simp
 obj:=fun i h p c y=>by
  obtain⟨⟨old,n⟩,r⟩:=p;rcases Qp.mp y with rfl | y
  ·exact⟨_,n,fun v z=>by have z':Data.fields _=Data.cell v:=z;cases z'⟩
  ·rw [QJ.mp y];exact Z.ob i h r
 keep:=fun i h h' p k=>by
  obtain⟨⟨old,n⟩,r⟩:=p
  exact⟨⟨old,k e (by simp) _ n⟩,Z.kp i h h' r fun o q=>k m (by simp) o q⟩
 item:=by
  intro X O hw hK y i g s U H E I B p hg;subst O hw;obtain⟨F,x,ha,S⟩:=hg;obtain⟨⟨old,n⟩,r⟩:=p;obtain⟨⟨l,rv,pl⟩,inj⟩:=Z.sq X g U H s F hK I ha;obtain⟨xu,ex,rx⟩:=rv.get S
  have a4:i<l.toArray.size:=by
   have:=(Qc.mp ex).1
   simpa using this
  have a5:e∉[m,a]:=by simp only [Qp,Jv,or_false,not_or];exact⟨t,a6⟩
  refine wpAny_pyNext_enum_itemD (Z.D X.A.in1 l.toArray (by simp [I.ok.hd y])) n ⟨r,pl⟩ a4 t a5 fun x' h' tk O ho a0 hT a8 hk=>⟨_,rfl,?_⟩
  have Q:l[i]?=some x':=by simpa using O
  rw [ex]at Q;cases Q;refine wpAny_letOwnedTupleGo_enum ho fun h'' z1 Y=>?_;have T:H s.heap.objs.size=none:=I.hok.fresh (Ql _);have f:∀ c o,s.heap.get? c=some o->c≠s.heap.objs.size:=fun c o q=>QB (Qs q);have eT:s.heap.objs.size≠e:=(f e _ n).symm;obtain⟨oi,a3,_⟩:=Z.ob i _ r
  have M:∀ c o,c∉[e,m]->s.heap.get? c=some o->h''.get? c=some o:=fun c o J q=>
   Y.extBut c o (fun q=>J (by simp [q])) (hk c o (fun q=>J (by simp [q])) (fun q=>J (by simp [q])) q)
  have j:∀ c o,H c=some o->c∉[e,m]:=fun c o q b=>by
   have:=(B c b).1
   rw [this]at q;cases q
  have a2:dE X.prog X.w (aJ H s.heap.objs.size (.tup [.int i,x])) h'':=fun c o q=>by
   by_cases N:c=s.heap.objs.size
   ·subst N;rw [cS]at q;cases q
    exact⟨gD (by simp),[.int i tk,xu],.cons ⟨tk,rfl⟩ (.cons rx .nil),⟨_,Y.extBut _ _ eT hT,rfl,0,rfl⟩⟩
   ·rw [aZ N]at q
    refine(I.hok c o q).stay (fun d v u q=>M d v ?_ q) (fun d q=>by rw [aZ (gF q T)];exact q) fun d F q=>by rw [aZ (gF q T)];exact q
    rcases u with rfl | u
    ·exact j _ _ q
    ·exact j _ _ u
  refine⟨.ref s.heap.objs.size,_,yY (s:=s) (h':=h'') (tk:=tk+1) I B M (fun c o q=>aZ (f c o q)) (fun c o q=>by rw [aZ (gF q T)];exact q) a2,rfl,⟨_,T,rfl,x,rfl,fun ys hy=>by rw [inj ys hy];exact S⟩,⟨⟨_,by simpa using z1⟩,Z.kp _ _ _ a0.1 fun o q=>Y.extBut m o (Z2 t) q⟩,fun c b=>?_⟩
  have q:=(B c b).1
  have nT:c≠s.heap.objs.size:=by
   rcases Qp.mp b with rfl | b
   ·exact f _ _ n
   ·rw [QJ.mp b];exact f _ _ a3
  rw [aZ nT];exact q
 done:=by
  intro X O hw hK y i g s U H E I B p hg;subst O hw;obtain⟨F,ha,a7⟩:=hg;obtain⟨⟨old,n⟩,r⟩:=p;obtain⟨⟨l,rv,pl⟩,inj⟩:=Z.sq X g U H s F hK I ha;have l1:=rv.length;refine wpAny_pyNext_enum_endD (Z.Z X.A.in1 l.toArray i (by simp [I.ok.hd y]) (by rw [QK];lia)) n ⟨rfl,r,pl⟩ fun h' S=>⟨rfl,?_⟩;have M:∀ c o,c∉[e,m]->s.heap.get? c=some o->h'.get? c=some o:=fun c o J q=>S c o (fun q=>J (by simp [q])) q
  have j:∀ c o,H c=some o->c∉[e,m]:=fun c o q b=>by
   have:=(B c b).1
   rw [this]at q;cases q
  refine yY (s:=s) (h':=h') (tk:=s.toks) I B M (fun _ _ _=>rfl) (fun _ _ q=>q) fun c o q=>?_
  refine(I.hok c o q).stay (fun d v u q=>M d v ?_ q) (fun d q=>q) fun d F q=>q
  rcases u with rfl | u
  ·exact j _ _ q
  ·exact j _ _ u
 self:=fun _ _ _ _ _ p h=>by
  obtain⟨⟨old,n⟩,_⟩:=p;exact wpAny_pyIter_enum n h
theorem L0{P:J2}{w:J5}{K:PySem.W.Frag}(a c:JY)(l:a≠c):zY P w K (fun H xs=>bP K H a xs) a c (fun i h=>h.IsTupleIter c a i) (fun h items=>h.IsTuple a items) where
 sq:=fun X p N H s xs J I t=>by
  subst J;obtain⟨f,u,x,_⟩:=I.tuple t
  exact⟨⟨f,u,x⟩,fun O y=>I.tuple_inj y t⟩
 ob:=fun i h ⟨o,g,_,G⟩=>⟨o,g,fun v z=>by rw [G]at z;cases z⟩
 kp:=fun i h R F k=>F.at k
 D:=fun A items n=>Ru n c a l items
 Z:=fun A items i n m=>
  {live:=fun _ _ ⟨_,⟨o,g,_⟩,_⟩=>⟨o,g⟩
   frame:=fun _ _ _ ⟨e,d,b⟩ r=>⟨e,d.at fun o q=>r c (by simp) o q,b.at fun o q=>r a (by simp) o q⟩
   item:=fun j s Q E B ⟨e,_⟩ _=>absurd e (QB B)
   done:=fun s Q E ⟨_,d,b⟩ M=>Hk n d b (Yt m) M }
theorem LZ{P:J2}{w:J5}{K:PySem.W.Frag}(a c:JY)(l:a≠c):zY P w K (fun H xs=>cD K H a xs) a c (fun i h=>h.IsListIter c a i) (fun h items=>h.IsList a items) where
 sq:=fun X p N H s xs J I t=>by
  subst J;obtain⟨f,u,x,_⟩:=I.list t
  exact⟨⟨f,u,x.isList⟩,fun O y=>I.list_inj y t⟩
 ob:=fun i h ⟨o,g,_,G⟩=>⟨o,g,fun v z=>by rw [G]at z;cases z⟩
 kp:=fun i h R F k=>F.at k
 D:=fun A items n=>Draws.list n c a l items
 Z:=fun A items i n m=>
  {live:=fun _ _ ⟨_,⟨o,g,_⟩,_⟩=>⟨o,g⟩
   frame:=fun _ _ _ ⟨e,d,b⟩ r=>⟨e,d.at fun o q=>r c (by simp) o q,b.at fun o q=>r a (by simp) o q⟩
   item:=fun j s Q E B ⟨e,_⟩ _=>absurd e (QB B)
   done:=fun s Q E ⟨_,d,b⟩ M=>wpAny_nextOf_list_end n d b (Yt m) M }
def uX(K:PySem.W.Frag)(f:TA):TI:=fun d H R=>f d H fun e c=>∃ a,e=[.ref a]/\(((∃ b,cD K c a b)/\R (u8 fun H b=>cD K H a b) c) ∨ ((∃ b,bP K c a b)/\R (u8 fun H b=>bP K H a b) c))
theorem TZ{X:Cx}{l:List Expr}{x1}{g:Pos}{a:Expr}{y:TA}{p pos:Pos}(M:Gl X "enumerate")(J:X.mg "enumerate"=none)(N:PA X [a] y)(hs:J0 [a] X.env=[(false,Zh a X.env)]:=by rfl):
  PI X (.Tuple l x1 g) (.Call (.Name "enumerate" p) [a] [] pos) (uX X.K y):=by
 intro d s n H R I h;refine Call_ (nQ I M J boot_enumerate (YM (bC (N pos d s n H _ I h) fun S b ⟨Q,m,I1,F,G⟩=>?_) (by rw [hs];rfl) (by rfl)));obtain⟨f,e,q⟩:=G;subst e;obtain⟨u,rfl,E⟩:=kP F;cases E
 have fin:∀ c∈[b.heap.objs.size+1,b.heap.objs.size],hZ X d m c:=fun c v=>by
  have z:b.heap.objs.size<=c:=by
   rcases Qp.mp v with rfl | v
   ·exact Q7 _ _
   ·rw [QJ.mp v];exact Ql _
  exact I1.fpOk z (I1.hok.fresh z)
 rcases q with⟨⟨A,r⟩,q⟩ | ⟨⟨A,r⟩,q⟩
 ·obtain⟨o,B,i,_⟩:=I1.list r;refine call_enumerate_list i.isList fun k a1 w O t=>?_
  have j:f<b.heap.objs.size:=by obtain⟨_,e,_⟩:=i.isList;exact Qs e
  have x:L2.Inv X d n m { b with heap:=k }:=I1.kept (t':=b.toks) t;refine wpAny_pyIter_enum (s:={ b with heap:=k }) a1 ?_
  exact⟨_,[b.heap.objs.size+1,b.heap.objs.size],_,_,m,rfl,x,Kt f (b.heap.objs.size+1) b.heap.objs.size (Nat.succ_ne_self _) (Y9 (Jl j)) (LZ f b.heap.objs.size (QB j)),⟨⟨_,a1⟩,w⟩,fin,q⟩
 ·obtain⟨o,B,i,_⟩:=I1.tuple r;refine Pr i fun k a1 w O t=>?_
  have j:f<b.heap.objs.size:=by obtain⟨_,e,_⟩:=i;exact Qs e
  have x:L2.Inv X d n m { b with heap:=k }:=I1.kept (t':=b.toks) t;refine wpAny_pyIter_enum (s:={ b with heap:=k }) a1 ?_
  exact⟨_,[b.heap.objs.size+1,b.heap.objs.size],_,_,m,rfl,x,Kt f (b.heap.objs.size+1) b.heap.objs.size (Nat.succ_ne_self _) (Y9 (Jl j)) (L0 f b.heap.objs.size (QB j)),⟨⟨_,a1⟩,w⟩,fin,q⟩
end EL
namespace SL
open PySem PySem.Spec PyProof.Rows L2 CL DL SD EL
def kC(n:Nat):List D->List D
 | []=>[]
 | x::xs=>.tuple [.int n,x]::kC (n+1) xs
theorem By:∀(xs:List D) (n i:Nat),(kC n xs)[i]?=(xs[i]?).map fun x=>.tuple [.int ((n+i:Nat):Int),x]
 | [],n,i=>by simp [kC]
 | x::xs,n,0=>by simp [kC]
 | x::xs,n,i+1=>by
  show(kC (n+1) xs)[i]?=_
  rw [By xs (n+1) i,show n+1+i=n+(i+1) by lia];rfl
theorem GQ:∀(xs:List D) (n:Nat),(kC n xs).length=xs.length
 | [],_=>rfl
 | x::xs,n=>by show(kC (n+1) xs).length+1=_;rw [GQ xs];rfl
def Ck:List D->Option (List D)
 | [.list xs]=>some (kC 0 xs)
 | [.tuple xs]=>some (kC 0 xs)
 | _=>none
theorem Hz{K:PySem.W.Frag}{F:JY->Prop}{H:Hp}{k:Hp->List V->Prop}{vs:List V}{ds:List D}(o:∀ F2 H2,bN K F F2 H H2->k H2 vs)(m:Reps K F H ds vs):pG K F H (kC 0 ds) (u8 k):=fun F2 H2 T z i=>by
 have b:=o F2 H2 T;have e:=m.stay T
 refine⟨fun d a=>?_,fun h=>⟨vs,b,?_⟩⟩
 ·rw [By]at a
  cases c:ds[i]? with
  | none=>rw [c]at a;cases a
  | some x=>
   rw [c]at a;cases a;obtain⟨v,j,q⟩:=e.get c
   refine⟨⟨vs,v,b,j⟩,fun w s l=>?_⟩
   obtain⟨p,g,rfl,r,rfl,n⟩:=l;have f:=n vs b;rw [j]at f;cases f
   refine⟨F2,aN.fresh g,aR.newTup g (.cons ?_ (.cons q .nil))⟩
   rw [QZ];exact .int _
 ·rw [GQ]at h;rw [<- e.length];exact h
theorem OH{X:Cx}{d:List Expr}{x1}{c:Pos}{a:Expr}{gr:aA->Option (List D)}{p pos:Pos}(o:Gl X "enumerate")(n:X.mg "enumerate"=none)(s:DA X [a] gr)(hs:J0 [a] X.env=[(false,Zh a X.env)]:=by rfl):
  DI X (.Tuple d x1 c) (.Call (.Name "enumerate" p) [a] [] pos) (fun ρ=>(gr ρ).bind Ck):=
 CU (TZ o n s hs) fun v H R l=>by
  obtain⟨F,b,ρ,x,S,q,k⟩:=l;obtain⟨w,j,q⟩:=aG q;unfold Ck at q
  split at q
  ·cases q
   refine⟨F,b,ρ,_,S,j,fun h g m i f=>?_⟩
   cases f with
   | cons r e=>
    cases e
    cases r with
    | @lst a' vs' _ h1 r1=>exact⟨a',rfl,.inl ⟨⟨_,h1.sq⟩,k h g _ i (Hz (fun u t T=>(h1.stay T).sq) r1)⟩⟩
  ·cases q
   refine⟨F,b,ρ,_,S,j,fun h g m i f=>?_⟩
   cases f with
   | cons r e=>
    cases e
    cases r with
    | @tup a' vs' _ h1 r1=>exact⟨a',rfl,.inr ⟨⟨_,h1⟩,k h g _ i (Hz (fun u t T=>T.tp _ _ h1) r1)⟩⟩
  ·cases q
end SL
namespace SL
open PySem PySem.Spec PyProof.Rows L2 CL DL SD
section
variable {X:Cx}
end
open AutoSeq1 (wpAny_loadPart')
theorem RF(l:JY)(c:Array YP)(n:Nat)(b:JY)(a:Array YP)(o:Nat)(dd:Option JY)(m:Array (Option YP))(p:(!c.isEmpty && Z6 (c.size+a.size))=false)(i:c.size<=sizeLine)(f:c.size+a.size<=sizeLine+1):
  Meets (Builtin.«list.extend» ⟨[.ref l,.ref b],[]⟩) (fun _ R s=>s.heap.get? l=some { cls:=.type "list",dict:=none,data:=.seq c n,slots:=#[] }/\s.heap.get? b=some { cls:=.type "list",dict:=dd,data:=.seq a o,slots:=m }/\R (.ok (.ret Zp)) { s with heap:=s.heap.update l (Ug fun x=>x++a),toks:=s.toks }):=
 .of_wp fun j w A R s h=>by
  obtain⟨u,g,d,r,t⟩:=s;obtain⟨k,q,h⟩:=h;have E:=AutoSeq1.idx_int;have B:=AutoSeq1.sub_tuple_tuple;have z:=AutoSeq1.sub_list_list;have y:=AutoSeq1.sub_tuple_list;have v:=AutoSeq1.sub_list_tuple
  have e:(c++a).size<=sizeLine+1:=by rw [Array.size_append];exact f
  wp_walk using(wpAny_updateSeq k rfl (hz:=i) (_hz':=e)),ZF k,ZF q
  exact⟨_,rfl,h⟩
section
variable {X:Cx}
theorem Sc:Ds X "list.extend" (fun x vs H Q=>∃ l b xs zs,x=.ref l/\vs=[.ref b]/\H l=some (.lst xs)/\cD X.K H b zs/\xs.length+zs.length<=1000/\Q .non (aJ H l (.lst (xs++zs)))):=by
 intro k s B H x vs v E Q I o p h;obtain⟨l,b,xs,zs,rfl,rfl,m,y,N,q⟩:=h;cases o;obtain⟨u,rfl,t⟩:=p.one;cases t;obtain⟨z,c,n,r,O,e⟩:=I.lstM m;obtain⟨a,j,⟨⟨S,dd,R,G⟩,w,A,g,f,d⟩,_⟩:=I.list y
 simp only at g f d
 subst g f d;have M:=r.length;have J:=j.length
 have i:c.toArray.size+a.toArray.size<=sizeLine:=by rw [QK,QK];exact gD (by lia)
 refine call_meets F.slot_list_extend ⟨_,e,rfl⟩ F.entry_list_extend (F.args_list_extend_2 _ _)
  (RF l c.toArray n b a.toArray w _ _ (by rw [RT i,JP]) (by lia) (by lia)) ⟨e,A,?_⟩
 refine⟨.non,_,I.lset (its':=c++a) m e (by simp) (r.append j) ?_,rfl,q⟩
 rw [Qd];exact gD (by lia)
def oJ(i:Nat)(g:aA->Option D):aA->Option aW:=fun a=>match a[i]? with
 | some (.own ds)=>(g a).bind fun d=>match d with
  | .list b=>if ds.length+b.length<=1000 then some (.nx (a.set i (.own (ds++b))))else none
  | _=>none
 | _=>none
variable {e:Expr}{p pos:Pos}{ga:aA->Option D}
theorem Ce{i:Nat}{x:Str}{c a:Pos}(U:DE X e ga)(Y:X.N[i]?=some x:=by rfl)(Q:iB X.env.scope x:=by first | exact Zl rfl | exact Zf (Zl rfl) | exact Zf (Zf rfl))(R:(x == ("__debug__":Str))=false:=by decide)
  (w:(x == ("__classdict__":Str))=false:=by decide) (j:J0 [e] X.env=(false,Zh e X.env)::J0 [] X.env:=by rfl)
  (h:ZA (.Name x p) "extend" X.env (Zh (.Name x p) X.env)=Zh (.Name x p) X.env:=by rfl)
  (m:((Zn a (J0 [e] X.env)).all (fun x => !x.1) && (Z5 a (ZG [] X.env)).all (fun x=>x.1.isSome)
   && decide ([e].length+([]:List Ud).length+(if([]:List Ud).isEmpty then 0 else 1)<30))=true:=by rfl)
  (g:(c.endLine == a.line)=true:=by rfl) (f:(Zn a (J0 [] X.env)).any (·.1)=false:=by rfl) (t:Zw (.Call (.Attribute (.Name x p) "extend" c) [e] [] a) none pos.line X.env=pure false:=by rfl):
  DS X (.Expr (.Call (.Attribute (.Name x p) "extend" c) [e] [] a) pos) (oJ i ga):=
 DL.ps_mono (kL (xU PySem.F.plainAttrs_list PySem.F.slot_list_extend PySem.F.type_list_extend Sc (hW Y Q R w) (cL U dC j) h m g j f) t) fun W I H K=>by
 obtain⟨G,n,F,J,o,E,S,q,k⟩:=K;unfold oJ at q
 split at q
 ·rename_i ds y;obtain⟨d,e1,q⟩:=aG q
  split at q
  ·rename_i es;by_cases u:ds.length+es.length<=1000
   ·rw [if_pos u]at q;cases q;obtain⟨l,vs,s,O,q3,M,q5⟩:=S.own y
    refine⟨_,s,.inl ⟨rfl,_,cD.of O⟩,F,n,J,_,S,e1,fun F' H' v E' R'=>?_⟩
    have S':=S.ext E';obtain⟨l',r,B,A,Z,g4,z⟩:=S'.own y;rw [s]at B;cases B
    cases R' with
    | @lst b us _ h1 r1=>
     refine⟨l,b,r,us,rfl,rfl,A,h1.sq,by rw [<- z.length,<- r1.length];exact u,?_⟩
     obtain⟨S2,T⟩:=S'.turn y s A Z (z.append r1);exact k F' _ I ((E.trans E').turn M) (E'.stay.trans T) S2
   ·rw [if_neg u]at q;cases q
  ·cases q
 ·cases q
end
def CW:Expr->Bool
 | .Starred ..=>false
 | _=>true
theorem V8(e:Expr)(es:List Expr)(env:Env)(h:CW e=true):J0 (e::es) env=(false,Zh e env)::J0 es env:=by
 cases e <;> first | rfl | cases h
theorem Pa{X:Cx}{e:Expr}{es:List Expr}{ga:aA->Option D}{gr:aA->Option (List D)}(b:DE X e ga)(a:DA X es gr)(h:CW e=true:=by rfl):DA X (e::es) (aD ga gr):=O9 b a (V8 e es X.env h)
end SL
namespace ST
open PySem PySem.SetTable PyProof.Rows
structure iA(t:SetTable)(hs:List Int):Prop where
 good:fE t.mask
 len:t.place.toList.length=hs.length
 up:Up t.place.toList
 dup:Up t.dummies.toList
 apart:∀ x∈t.dummies.toList,x∉t.place.toList
 room:(t.place.toList.length+t.dummies.toList.length) * 5<t.mask * 3
 reach:∀ q∈t.place.toList.zip hs,∃ n,(P t.mask q.2 n).j=q.1/\∀ m,m<n->(P t.mask q.2 m).j∈t.place.toList++t.dummies.toList
theorem gR.toD{t:SetTable}{hs:List Int}(T:gR t hs):iA t hs:=by
 refine⟨T.good,T.len,T.up,?_,?_,?_,fun q c=>?_⟩
 ·rw [T.dum];exact List.Pairwise.nil
 ·rw [T.dum];intro x b;simp at b
 ·rw [T.dum];exact T.room
 ·obtain⟨n,e,a⟩:=T.reach q c
  exact⟨n,e,fun m d=>QY _ (a m d)⟩
theorem BO{xs:Array Nat}(s:Up xs.toList)(j:Nat):has xs j=true ↔ j∈xs.toList:=by
 obtain⟨n,l,k⟩:=rQ xs s j;unfold has;constructor
 ·intro h
  have:=Yv h
  rw [<- QE]at this;exact QP this
 ·intro f;obtain⟨i,c⟩:=Q0 f;have m:=(Qc.mp c).1
  have e:i=Zo xs j:=by
   by_cases a:i<Zo xs j
   ·have:=l i j c a;lia
   ·by_cases b:i=Zo xs j
    ·exact b
    ·have g:Zo xs j<xs.toList.length:=by lia
     have d:=Qk g
     have:=s.at d c (by lia)
     have:=k _ _ d (Ql _)
     lia
  rw [<- e,<- QE,c];simp
theorem zG{t:SetTable}{hs:List Int}(T:iA t hs)(j:Nat):(∃ i,t.slot j=.live i/\t.place.toList[i]?=some j) ∨ (t.slot j=.dummy/\j∉t.place.toList/\j∈t.dummies.toList) ∨ (t.slot j=.empty/\j∉t.place.toList++t.dummies.toList):=by
 unfold slot;dsimp only;by_cases c:(t.place[Zo t.place j]? == some j)=true
 ·rw [if_pos c];exact .inl ⟨_,rfl,by rw [QE];exact Yv c⟩
 ·rw [if_neg c];have a:j∉t.place.toList:=fun b=>c ((BO T.up j).mpr b);by_cases d:has t.dummies j=true
  ·rw [if_pos d];exact .inr (.inl ⟨rfl,a,(BO T.dup j).mp d⟩)
  ·rw [if_neg d];exact .inr (.inr ⟨rfl,fun h=>(QD.mp h).elim a fun h=>d ((BO T.dup j).mpr h)⟩)
theorem Lc{t:SetTable}{hs:List Int}(T:iA t hs){j i:Nat}(h:t.slot j=.live i):t.place.toList[i]?=some j:=by
 rcases zG T j with⟨c,a,b⟩ | ⟨a,_⟩ | ⟨a,_⟩
 ·rw [h]at a;cases a;exact b
 ·rw [h]at a;cases a
 ·rw [h]at a;cases a
theorem iA.fits{t:SetTable}{hs:List Int}(T:iA t hs){n:Nat}(e:hs.length=n):t.fits n=true:=by
 have b:=T.len;have a:=T.room;rw [Qg]at b a;rw [Qg]at a;unfold Z9 Ua;rw [b,e];rw [b]at a;simp only [QH,beq_iff_eq,decide_eq_true_eq]
 refine⟨?_,?_⟩
 ·trivial
 ·show n+t.dummies.size<=t.mask
  lia
theorem iA.odd{t:SetTable}{hs:List Int}(T:iA t hs):t.gaveWay=false:=by
 unfold SetTable.gaveWay
 rcases T.good with h | h | h | h | h | h <;> rw [h] <;> rfl
def Pd(M:Nat)(h:Int)(n:Nat)(d:Option Nat):Probe:={ P M h n with dummy:=d }
theorem LH(M:Nat)(p:Probe)(d:Option Nat):iV M { p with dummy:=d }={ iV M p with dummy:=d }:=by
 unfold iV;dsimp only
 split <;> rfl
theorem Ff(M:Nat)(h:Int)(n:Nat)(d:Option Nat):iV M (Pd M h n d)=Pd M h (n+1) d:=LH M (P M h n) d
section
variable {t:SetTable}{hs:List Int}{hashAt:Nat->Int}{h:Int}{n:Nat}
theorem PZ(a c:Nat)(d:Option Nat):UH t hashAt h (a+1) (Pd t.mask h c d)=match t.slot (P t.mask h c).j with
  | .empty=>some (.empty (P t.mask h c).j d)
  | .dummy=>UH t hashAt h a (Pd t.mask h (c+1) (some (P t.mask h c).j))
  | .live i=>if(hashAt i == h)=true then some (.candidate (P t.mask h c).j i (Pd t.mask h (c+1) d))else UH t hashAt h a (Pd t.mask h (c+1) d):=by
 conv=>lhs;unfold UH
 rw [<- Ff t.mask h c d,<- Ff t.mask h c (some (P t.mask h c).j)];rfl
theorem BH(T:iA t hs)(s:(P t.mask h n).j∉t.place.toList++t.dummies.toList)(u:∀ m,m<n->(P t.mask h m).j∈t.place.toList++t.dummies.toList):∀ fuel c d,c<=n->n-c<fuel->
  (∃ d',UH t hashAt h fuel (Pd t.mask h c d)=some (.empty (P t.mask h n).j d')/\∀ m,c<=m->m<n->∀ i,t.slot (P t.mask h m).j=.live i->hashAt i≠h)
  ∨ ∃ m i d',c<=m/\m<n/\t.slot (P t.mask h m).j=.live i/\hashAt i=h/\(∀ m',c<=m'->m'<m->∀ i,t.slot (P t.mask h m').j=.live i->hashAt i≠h)/\UH t hashAt h fuel (Pd t.mask h c d)=some (.candidate (P t.mask h m).j i (Pd t.mask h (m+1) d'))
 | 0,c,d,_,hf=>absurd hf (YE _)
 | fuel+1,c,d,hc,hf=>by
  rw [PZ];by_cases e:c=n
  ·subst e;rcases zG T (P t.mask h c).j with⟨i,l,r⟩ | ⟨l,r,v⟩ | ⟨l,_⟩
   ·exact absurd (QY _ (QP r)) s
   ·exact absurd (Qv _ v) s
   ·rw [l];exact .inl ⟨d,rfl,fun m a b=>by lia⟩
  ·rcases zG T (P t.mask h c).j with⟨i,l,r⟩ | ⟨l,r,v⟩ | ⟨_,r⟩
   ·rw [l];dsimp only;by_cases k:(hashAt i == h)=true
    ·rw [if_pos k];exact .inr ⟨c,i,d,Ql _,by lia,l,Yv k,fun m' a b=>by lia,rfl⟩
    ·rw [if_neg k];have w:hashAt i≠h:=fun e=>k (by rw [e];simp);rcases BH T s u fuel (c+1) d (by lia) (by lia)with⟨d',a,b⟩ | ⟨m,i',d',a1,a2,a3,a4,a5,a6⟩
     ·refine .inl ⟨d',a,fun m p g o f=>?_⟩;by_cases q:m=c
      ·subst q;rw [l]at f;cases f;exact w
      ·exact b m (by lia) g o f
     ·refine .inr ⟨m,i',d',by lia,a2,a3,a4,fun m' p g o f=>?_,a6⟩;by_cases q:m'=c
      ·subst q;rw [l]at f;cases f;exact w
      ·exact a5 m' (by lia) g o f
   ·rw [l];dsimp only;rcases BH T s u fuel (c+1) (some (P t.mask h c).j) (by lia) (by lia)with⟨d',a,b⟩ | ⟨m,i',d',a1,a2,a3,a4,a5,a6⟩
    ·refine .inl ⟨d',a,fun m p g o f=>?_⟩;by_cases q:m=c
     ·subst q;rw [l]at f;cases f
     ·exact b m (by lia) g o f
    ·refine .inr ⟨m,i',d',by lia,a2,a3,a4,fun m' p g o f=>?_,a6⟩;by_cases q:m'=c
     ·subst q;rw [l]at f;cases f
     ·exact a5 m' (by lia) g o f
   ·exact absurd (u c (by lia)) r
theorem Mx(T:iA t hs)(k:(P t.mask h n).j∉t.place.toList++t.dummies.toList){i j:Nat}(b:t.place.toList[i]?=some j)(g:hs[i]?=some h):∃ m,m<n/\(P t.mask h m).j=j:=by
 have f:(j,h)∈t.place.toList.zip hs:=QP (i:=i) (by rw [YA];exact⟨b,g⟩);obtain⟨m,e,a⟩:=T.reach _ f
 refine⟨m,Yz fun c=>k ?_,e⟩
 by_cases d:n=m
 ·subst d;rw [e];exact QY _ (QP b)
 ·exact a n (by lia)
end
section
variable {prog:J2}{w:J5}{A:Around}{E:YP->JZ->Prop}{s:JZ}
theorem FK{a x:JY}{o:Obj}{es:Array (Int × YP)}{ep:Nat}{t:SetTable}{ks:List (List Int)}{k:List Int}{n:Nat}{Q:SetFound->JZ->Prop}
  (hu:A.units<Zc) (ho:s.heap.get? a=some o) (hd:o.data=.set es ep t) (T:iA t (es.toList.map (·.1))) (X:bS prog w s.heap es.toList ks) (hk:TK prog w s.heap k x)
  (h1:(P t.mask (TH prog w k) n).j∉t.place.toList++t.dummies.toList) (h2:∀ m,m<n->(P t.mask (TH prog w k) m).j∈t.place.toList++t.dummies.toList)
  (q1:∀ i,ks[i]?=some k->Q (.there (some i)) s) (U:k∉ks->∀ j b,Q (.free j b) s):
  ∀ fuel c d,c<=n->n<10 * UZ t.mask->n-c<fuel->(∀ m,m<c->∀ i,t.slot (P t.mask (TH prog w k) m).j=.live i->ks[i]?≠some k)->∀ stand:Option Probe,stand.getD (t.probeStart (TH prog w k))=Pd t.mask (TH prog w k) c d->
  J1 (J3 prog w) A (setSearchFrom a (.ref x) (TH prog w k) false fuel stand) Q E s
 | 0,c,d,_,_,hf,_,_,_=>absurd hf (YE _)
 | fuel+1,c,d,hc,hN,hf,inv,stand,hst=>by
  have u:t.fits es.size=true:=T.fits (by simp);unfold setSearchFrom;refine Qa (QT ho hd u ?_);dsimp only;rw [hst,if_neg (by rw [T.odd];exact Qq)];refine Qa (Qb ?_);generalize S:t.probe _ (TH prog w k) (Pd t.mask (TH prog w k) c d)=met;obtain⟨f,a6,S⟩:∃ f:Nat->Int,(∀ i,f i=(es[i]?.map (·.1)).getD 0)/\t.probe f (TH prog w k) (Pd t.mask (TH prog w k) c d)=met:=⟨_,fun _=>rfl,S⟩
  have J:∀ m i,t.slot (P t.mask (TH prog w k) m).j=.live i->f i≠TH prog w k->ks[i]?≠some k:=fun m i G a0 a2=>by
   have Z:=Lc T G
   have q:i<es.toList.length:=by
    have:=(Qc.mp Z).1
    rw [T.len]at this
    simpa using this
   obtain⟨F,b,v,O,e3⟩:=X.at (Qk q);rw [a2]at v;cases v;apply a0;rw [a6,<- QE,Qk q,O];rfl
  have a5:=BH (hashAt:=f) T h1 h2 (10 * UZ t.mask) c d hc (by lia);rcases a5 with⟨R,g1,g2⟩ | ⟨m,i,R,g1,g2,g3,g4,g5,g6⟩
  ·have:met=some (.empty (P t.mask (TH prog w k) n).j R):=S.symm.trans g1
   subst this
   have H:k∉ks:=fun M=>by
    obtain⟨i,G⟩:=Q0 M
    have q:i<es.toList.length:=by rw [X.length];exact(Qc.mp G).1
    obtain⟨F,b,v,O,e3⟩:=X.at (Qk q);rw [G]at v;cases v
    have K:i<t.place.toList.length:=by rw [T.len];simpa using q
    obtain⟨m,hm,hj⟩:=Mx T h1 (Qk K) (h:=TH prog w k) (by rw [QF,Qk q,O];rfl);rcases zG T (P t.mask (TH prog w k) m).j with⟨p,B,g⟩ | ⟨_,g,_⟩ | ⟨_,g⟩
    ·have a3:p=i:=by
      rw [hj]at g;have a1:=Qk K;by_cases Y:p<i
      ·have:=T.up.at g a1 Y;lia
      ·by_cases W:i<p
       ·have:=T.up.at a1 g W;lia
       ·lia
     subst a3;by_cases cm:m<c
     ·exact inv m cm p B G
     ·exact J m p B (g2 m (by lia) hm p B) G
    ·rw [hj]at g;exact g (Jd _)
    ·rw [hj]at g;exact g (QY _ (Jd _))
   dsimp only
   cases R with
   | none=>exact Qb (U H _ _)
   | some dd=>
    dsimp only;rw [if_neg (by simp)];exact Qb (U H _ _)
  ·have:met=some (.candidate (P t.mask (TH prog w k) m).j i (Pd t.mask (TH prog w k) (m+1) R)):=S.symm.trans g6
   subst this;have Z:=Lc T g3
   have q:i<es.toList.length:=by
    have:=(Qc.mp Z).1
    rw [T.len]at this
    simpa using this
   obtain⟨F,b,v,O,e3⟩:=X.at (Qk q)
   have N:es[i]?=some (TH prog w F,.ref b):=by rw [<- QE,Qk q,O]
   dsimp only
   have z:∀ y∈(es.filter (fun x=>x.1 == TH prog w k)).toList.map (fun x=>x.2),∃ F b,y=.ref b/\TK prog w s.heap F b:=fun y hy=>by
    obtain⟨e,he,rfl⟩:=QO.mp hy
    have a7:e∈es.toList:=by
     rw [Array.toList_filter]at he
     exact(QW.mp he).1
    obtain⟨i2,a4⟩:=Q0 a7;obtain⟨k2,b2,_,z2,z3⟩:=X.at a4
    exact⟨k2,b2,by rw [z2],z3⟩
   split
   all_goals try (refine Qa (GP hk z ?_);rw [if_neg Qq])
   all_goals
    rw [N];dsimp only;refine Qa (Yg (wpAny_eqBool_tuple hu e3 hk ?_));refine Qa (QT ho hd u ?_);dsimp only;rw [if_neg (by simp),show t.sameMemory t.moves t.mask=some true by unfold sameMemory;simp];dsimp only;rw [if_pos rfl,g3];dsimp only;rw [N];dsimp only;refine Qa (wpAny_isSame_ref_self ?_);simp only [if_true];refine Qa (Qb ?_);dsimp only;by_cases r:F=k
    ·rw [if_pos (by simp [r])];exact Qb (q1 i (r ▸ v))
    ·rw [if_neg (by simp [r])];refine FK hu ho hd T X hk h1 h2 q1 U fuel (m+1) R (by lia) hN (by lia) (fun I a8 p l=>?_) _ rfl;by_cases Y:I<c
     ·exact inv I Y p l
     ·by_cases W:I=m
      ·subst W;rw [g3]at l;cases l;rw [v];exact fun e=>r (QC e)
      ·exact J I p l (g5 I (by lia) (by lia) p l)
theorem FL{a x:JY}{o:Obj}{es:Array (Int × YP)}{ep:Nat}{t:SetTable}{d:List (List Int)}{k:List Int}{Q:Option Nat->JZ->Prop}
  (y:A.units<Zc) (h:s.heap.get? a=some o) (p:o.data=.set es ep t) (T:iA t (es.toList.map (·.1))) (X:bS prog w s.heap es.toList d) (F:TK prog w s.heap k x)
  (r:∀ i,d[i]?=some k->Q (some i) s) (q:k∉d->Q none s):J1 (J3 prog w) A (setFind a (.ref x) (TH prog w k)) Q E s:=by
 have c:t.fits es.size=true:=T.fits (by simp);have e:=T.room;obtain⟨n,f,v,u⟩:=FV (l:=t.place.toList++t.dummies.toList) T.good (by rw [Qd];lia) (TH prog w k)
 have H:t.mask<=255:=by rcases T.good with g | g | g | g | g | g <;> lia
 unfold setFind setFindIn;refine Qa (QT h p c ?_);dsimp only;rw [if_neg (by simp [byScan,Value.scannable])];refine Qa ?_;unfold setSearch;refine FK y h p T X F v u ?_ ?_ 100000 0 none (Q9 _) f (by unfold UZ at f;lia) (fun m B=>absurd B (YE _)) none ?_
 ·intro i G;exact Qb (r i G)
 ·intro z j b;exact Qb (q z)
 ·show P t.mask (TH prog w k) 0=_
  rfl
end
theorem uS{a:Type}(xs:Array a)(p:Nat):(ZT xs p).toList=xs.toList.take p++xs.toList.drop (p+1):=by
 unfold ZT;rw [Q1,Array.toList_extract,Array.toList_extract];simp only [List.extract_eq_take_drop,Nat.sub_zero,List.drop_zero];congr 1;exact YR (by rw [Yb,Qg];lia)
theorem G6{l:List Nat}(s:Up l){i j:Nat}(c:l[i]?=some j)(x:Nat):x∈l.take i++l.drop (i+1) ↔ x∈l/\x≠j:=by
 have d:=(Qc.mp c).1
 have e:l=l.take i++j::l.drop (i+1):=by
  have:l[i]=j:=by rw [Qk d]at c;exact QC c
  rw [<- this,<- Yn d,QU]
 have f:(l.take i++j::l.drop (i+1)).Nodup:=by rw [<- e];exact s.nodup
 constructor
 ·intro a
  refine⟨?_,fun q=>?_⟩
  ·rw [e];rcases QD.mp a with h | h
   ·exact QY _ h
   ·exact Qv _ (Qf _ h)
  ·subst q
   have:=(List.perm_middle.nodup_iff.mp f)
   exact(Ye.mp this).1 a
 ·rintro⟨a,b⟩
  rw [e]at a;rcases QD.mp a with h | h
  ·exact QY _ h
  ·rcases Qp.mp h with h | h
   ·exact absurd h b
   ·exact Qv _ h
theorem WU{xs:Array Nat}(s:Up xs.toList){j:Nat}(m:j∉xs.toList):Up (Zu xs (Zo xs j) j).toList:=by
 obtain⟨b1,o,n⟩:=rQ xs s j;rw [mP];unfold Up;rw [Ya]
 have d:∀ x∈xs.toList.take (Zo xs j),x<j:=fun x g=>by
  obtain⟨i,c⟩:=Q0 g;rw [JD]at c
  split at c
  ·rename_i q;exact o i x c q
  ·cases c
 have f:∀ x∈xs.toList.drop (Zo xs j),j<x:=fun x g=>by
  obtain⟨i,c⟩:=Q0 g;rw [List.getElem?_drop]at c
  have:=n _ x c (by lia)
  have l:x≠j:=fun e=>m (e ▸ QP c);lia
 refine⟨s.sublist (List.take_sublist _ _),Q6.mpr ⟨f,s.sublist (List.drop_sublist _ _)⟩,fun a k b h=>?_⟩
 rcases Qp.mp h with rfl | h
 ·exact d a k
 ·exact UN (d a k) (f b h)
theorem G7{xs:Array Nat}{p j x:Nat}:x∈(Zu xs p j).toList ↔ x=j ∨ x∈xs.toList:=by
 rw [mP,QD,Qp]
 conv=>rhs;rw [<- QU p xs.toList,QD]
 constructor
 ·rintro(a | a | a)
  ·exact .inr (.inl a)
  ·exact .inl a
  ·exact .inr (.inr a)
 ·rintro(a | a | a)
  ·exact .inr (.inl a)
  ·exact .inl a
  ·exact .inr (.inr a)
theorem WG{d c:Type}{l:List d}{m:List c}{i:Nat}(b:l.length=m.length){q:d × c}(h:q∈(l.take i++l.drop (i+1)).zip (m.take i++m.drop (i+1))):q∈l.zip m:=by
 rw [List.zip_append (by rw [QS,QS,b]),QD]at h;rcases h with h | h
 ·obtain⟨n,a⟩:=Q0 h;rw [YA,JD,JD]at a
  split at a
  ·exact QP (i:=n) (by rw [YA];exact a)
  ·cases a.1
 ·obtain⟨n,a⟩:=Q0 h;rw [YA,List.getElem?_drop,List.getElem?_drop]at a;exact QP (i:=i+1+n) (by rw [YA];exact a)
theorem Rv{t:SetTable}{hs:List Int}{i:Nat}(T:iA t hs)(y:i<hs.length):iA (t.drop i) (hs.take i++hs.drop (i+1))/\(t.drop i).plain=t.plain/\(t.drop i).led=t.led:=by
 have p:i<t.place.toList.length:=by rw [T.len];exact y
 obtain⟨j,g⟩:∃ j,t.place.toList[i]?=some j:=⟨_,Qk p⟩
 have l:t.place[i]?=some j:=by rw [<- QE];exact g
 have o:j∈t.place.toList:=QP g;have s:j∉t.dummies.toList:=fun h=>T.apart j h o
 have e:t.drop i={ t with place:=ZT t.place i,dummies:=Zu t.dummies (Zo t.dummies j) j }:=by
  unfold SetTable.drop;rw [l]
 rw [e];have d:(ZT t.place i).toList=t.place.toList.take i++t.place.toList.drop (i+1):=uS _ _
 have A:(ZT t.place i).toList.length+1=t.place.toList.length:=by
  rw [d,Qd,QS,Yb];lia
 have r:(Zu t.dummies (Zo t.dummies j) j).toList.length=t.dummies.toList.length+1:=by
  rw [(Jc _ _ _).length_eq];simp
 have k:∀ x,x∈(ZT t.place i).toList++(Zu t.dummies (Zo t.dummies j) j).toList ↔ x∈t.place.toList++t.dummies.toList:=fun x=>by
  rw [QD,QD,d,G6 T.up g,G7];constructor
  ·rintro(⟨a,_⟩ | a | a)
   ·exact .inl a
   ·exact .inl (a ▸ o)
   ·exact .inr a
  ·rintro(a | a)
   ·by_cases c:x=j
    ·exact .inr (.inl c)
    ·exact .inl ⟨a,c⟩
   ·exact .inr (.inr a)
 refine⟨⟨T.good,?_,?_,WU T.dup s,fun x u=>?_,?_,fun q v=>?_⟩,rfl,rfl⟩
 ·show(ZT t.place i).toList.length=_
  rw [d,Qd,Qd,QS,Yb,QS,Yb,T.len]
 ·show Up (ZT t.place i).toList
  rw [d];refine T.up.sublist ?_
  have:(t.place.toList.take i++t.place.toList.drop (i+1)).Sublist (t.place.toList.take i++t.place.toList.drop i):=List.Sublist.append (List.Sublist.refl _) (by
   rw [Yn p];exact List.sublist_cons_self _ _)
  rwa [QU]at this
 ·show x∉(ZT t.place i).toList
  rw [d,G6 T.up g]
  rintro⟨a,b⟩
  rcases G7.mp u with c | c
  ·exact b c
  ·exact T.apart x c a
 ·show((ZT t.place i).toList.length+(Zu t.dummies (Zo t.dummies j) j).toList.length) * 5<t.mask * 3
  have:=T.room
  rw [r];lia
 ·have f:q∈(ZT t.place i).toList.zip (hs.take i++hs.drop (i+1)):=v;rw [d]at f;obtain⟨n,z,a⟩:=T.reach q (WG T.len f)
  exact⟨n,z,fun m w=>(k _).mpr (a m w)⟩
def n7(prog:J2)(w:J5)(V:YP->Prop)(h:Heap)(a:JY)(b:List (List Int)):Prop:=
 ∃ o es ep t,h.get? a=some o/\o.ExactSet/\o.data=.set es ep t/\iA t (es.toList.map (·.1))/\(t.plain=true/\t.led=cZ w)/\bS prog w h es.toList b/\b.Nodup/\∀ e∈es.toList,V e.2
theorem cT.toD{prog:J2}{w:J5}{V:YP->Prop}{h:Heap}{a:JY}{ks:List (List Int)}(S:cT prog w V h a ks):n7 prog w V h a ks:=by
 obtain⟨o,k,l,t,j,i,g,f,e,d,c,b⟩:=S
 exact⟨o,k,l,t,j,i,g,f.toD,e,d,c,b⟩
section
variable {prog:J2}{w:J5}{A:Around}{E:YP->JZ->Prop}{s:JZ}{V:YP->Prop}
theorem Gp{a:Type}{l:List a}{i:Nat}{x:a}(h:l[i]?=some x):List.Perm l (x::(l.take i++l.drop (i+1))):=by
 have b:=(Qc.mp h).1
 have:l[i]=x:=by rw [Qk b]at h;exact QC h
 have e:l=l.take i++x::l.drop (i+1):=by rw [<- this,<- Yn b,QU]
 exact(List.Perm.of_eq e).trans List.perm_middle
theorem Rs{a x:JY}{d:List (List Int)}{k:List Int}{Q:Bool->JZ->Prop}(G:A.units<Zc)(S:n7 prog w V s.heap a d)(J:TK prog w s.heap k x)
  (z:k∉d->Q false s) (y:∀ h' ks',Zk a s.heap h'->n7 prog w V h' a ks'->List.Perm d (k::ks')->Q true { s with heap:=h' }) (hsz:d.length<=1000):
  J1 (J3 prog w) A (setDiscardHashed a (.ref x) (TH prog w k)) Q E s:=by
 obtain⟨o,c,N,t,j,r,g,T,u,X,m,v⟩:=S;have l:t.fits c.size=true:=T.fits (by simp);unfold setDiscardHashed;refine Qa (FL G j g T X J (fun i q=>?_) fun H=>Qb (z H));dsimp only;have n:i<d.length:=(Qc.mp q).1
 have p:i<c.toList.length:=by rw [X.length];exact n
 refine Qa (QT j g l ?_);dsimp only
 have M:c.size=d.length:=by rw [<- X.length,Qg]
 have I:(ZT c i).size<=c.size:=by
  rw [<- Qg,uS,Qd,QS,Yb,Qg];lia
 refine Qa (Jm j g ?_ (by rw [Yj];lia))
 have K:(s.heap.update a (Zy (ZT c i) (t.drop i))).get? a=some { o with data:=.set (ZT c i) (N+1) (t.drop i) }:=by
  have:=Yh (Zy (ZT c i) (t.drop i)) j (by rw [Jt _ _ g];rfl)
  rw [Jt _ _ g]at this;exact this
 have h:=Q2 s.heap a (Zy (ZT c i) (t.drop i));obtain⟨O,F,B⟩:=Rv (i:=i) T (by rw [Qi];exact p);refine Qa (wpAny_point (Qb (y _ (d.take i++d.drop (i+1)) h ⟨_,_,_,_,K,r,rfl,?_,⟨by rw [F];exact u.1,by rw [B];exact u.2⟩,?_,?_,fun e f=>?_⟩ (Gp q))))
 ·rw [uS,Yi,List.map_take,List.map_drop];exact O
 ·rw [uS]
  exact((X.take i).append (X.drop (i+1))).mono fun k b=>TK.keep j g h
 ·exact(Ye.mp ((Gp q).nodup_iff.mp m)).2
 ·rw [uS]at f;rcases QD.mp f with f | f
  ·exact v e (List.mem_of_mem_take f)
  ·exact v e (List.mem_of_mem_drop f)
end
section
variable {prog:J2}{w:J5}{A:Around}{E:YP->JZ->Prop}{s:JZ}{V:YP->Prop}
abbrev uV(w:J5):Obj:={ cls:=.type "set",dict:=none,data:=.set #[] 0 (.fresh 0 0 (cZ w)) }
theorem Hj{Q:YP->JZ->Prop}(h:Q (.ref s.heap.objs.size) { s with heap:=s.heap.push (uV w) }):J1 (J3 prog w) A (newSet (.type "set")) Q E s:=by
 unfold newSet setsByText;refine Qa (Qa (UA (Qb ?_)));dsimp only;simp only [newObj];exact Qa (wpAny_alloc (Qb h))
structure zW(w:J5)(t:SetTable)(M:Nat):Prop where
 good:fE M
 mask:t.mask=M
 place:t.place=#[]
 dum:t.dummies=#[]
 plain:t.plain=true
 led:t.led=cZ w
theorem Wi(t:SetTable)(a:Nat):t.relaid #[] a=some ({ mask:=Zj a-1,place:=#[],dummies:=#[],finger:=t.finger,led:=t.led,moves:=t.movedTo (Zj a-1),plain:=t.plain },#[]):=by
 unfold relaid laid layClean
 have e:∀ M:Nat,((List.range (M+1)).filterMap fun j=>((Array.replicate (M+1) (none:Option Nat)).getD j none).map (j,·))=[]:=fun M=>by
  rw [List.filterMap_eq_nil_iff];intro j _
  have:(Array.replicate (M+1) (none:Option Nat)).getD j none=none:=by
   unfold Array.getD;split
   ·simp
   ·rfl
  rw [this];rfl
 show some _=_
 simp only [e];rfl
theorem P0{n:Nat}(h5:n * 5 >= 21)(d:n<=75):∃ M,Zj (n * 2)-1=M/\fE M/\n * 5<M * 3/\¬ Zj (n * 2) > sizeLine:=by
 have h:∀ n:Fin 76,n.val * 5 >= 21->(Zj (n.val * 2)-1=15 ∨ Zj (n.val * 2)-1=31 ∨ Zj (n.val * 2)-1=63 ∨ Zj (n.val * 2)-1=127 ∨ Zj (n.val * 2)-1=255)/\n.val * 5<(Zj (n.val * 2)-1) * 3/\Zj (n.val * 2)<=256:=by decide +kernel
 obtain⟨c,b,a⟩:=h ⟨n,by lia⟩ h5
 refine⟨_,rfl,?_,b,by rw [Yj];exact Nat.not_lt.mpr (QL a (by decide))⟩
 unfold fE
 rcases c with e | e | e | e | e <;> simp only at e <;> lia
theorem WH{n:Nat}(d:n<=63):∃ M,Zj (grown n)-1=M/\fE M/\n * 5<M * 3/\¬ Zj (grown n) > sizeLine:=by
 have h:∀ n:Fin 64,(Zj (grown n.val)-1=7 ∨ Zj (grown n.val)-1=15 ∨ Zj (grown n.val)-1=31 ∨ Zj (grown n.val)-1=63 ∨ Zj (grown n.val)-1=127 ∨ Zj (grown n.val)-1=255)/\n.val * 5<(Zj (grown n.val)-1) * 3/\Zj (grown n.val)<=256:=by decide +kernel
 obtain⟨c,b,a⟩:=h ⟨n,by lia⟩
 refine⟨_,rfl,?_,b,by rw [Yj];exact Nat.not_lt.mpr (QL a (by decide))⟩
 unfold fE
 rcases c with e | e | e | e | e | e <;> simp only at e <;> lia
theorem Wo{r n:Nat}{o:Obj}{t:SetTable}{ep:Nat}{Q:Unit->JZ->Prop}(e:s.heap.get? r=some o)(f:o.ExactSet)(d:o.data=.set #[] ep t)(B:zW w t 7)(p:n<=75)
  (h:∀ h' o' ep' t' M,Zk r s.heap h'->h'.get? r=some o'->o'.ExactSet->o'.data=.set #[] ep' t'->zW w t' M->n * 5<M * 3->Q () { s with heap:=h' }):J1 (J3 prog w) A (setRoomFor r n) Q E s:=by
 have b:t.fits (#[]:Array (Int × YP)).size=true:=by unfold Z9 Ua;rw [B.place,B.dum];simp
 unfold setRoomFor;refine Qa (QT e d b ?_);unfold SetTable.roomFor Ua;rw [B.place,B.dum,B.mask];by_cases c:(0+n) * 5 >= 7 * 3
 ·rw [if_pos (by simpa using c)];obtain⟨M,m,l,k,j⟩:=P0 (n:=n) (by lia) p;unfold setRelay;refine Qa (QT e d b ?_);dsimp only
  have q:((#[]:Array Nat).size+n) * 2=n * 2:=by simp
  rw [q,if_neg j];have i:=Wi t (n * 2);rw [m]at i
  have u:((#[]:Array (Int × YP)).map (·.1))=#[]:=by simp
  rw [u,i];refine Qa (UI (a:=((#[]:Array (Int × YP)),({ mask:=M,place:=#[],dummies:=#[],finger:=t.finger,led:=t.led,moves:=t.movedTo M,plain:=t.plain }:SetTable))) (by rfl) ?_);dsimp only;refine Jm e d ?_ (by simp);have g:=Yh (Zy #[] { mask:=M,place:=#[],dummies:=#[],finger:=t.finger,led:=t.led,moves:=t.movedTo M,plain:=t.plain }) e (by rw [Jt _ _ d];rfl);rw [Jt _ _ d]at g;exact h _ _ _ _ M (Q2 ..) g f rfl ⟨l,rfl,rfl,rfl,B.plain,B.led⟩ k
 ·rw [if_neg (by simpa using c)];exact Qb (h s.heap o ep t 7 (Uq ..) e f d B (by lia))
end
section
variable {prog:J2}{w:J5}{A:Around}{E:YP->JZ->Prop}{s:JZ}{V:YP->Prop}
theorem Tk{r a:JY}{o:Obj}{t:SetTable}{ep:Nat}{ks:List (List Int)}{Q:Unit->JZ->Prop}(G:r≠a)(U:s.heap.get? r=some o)(K:o.ExactSet)(Z:o.data=.set #[] ep t)(B:zW w t 7)
  (S:cT prog w V s.heap a ks) (hn:ks.length<=75) (h:∀ h' ks',Zk r s.heap h'->cT prog w V h' r ks'->List.Perm ks' ks->Q () { s with heap:=h' }):J1 (J3 prog w) A (setMerge r a (pure ())) Q E s:=by
 obtain⟨oa,f,a3,m,ha,a0,Y,T,N,X,H,hV⟩:=S
 have y:f.size=ks.length:=by rw [<- X.length,Qg]
 unfold setMerge;rw [if_neg (by simpa using G)];refine Qa (QT ha Y (T.fits (by simp)) ?_);dsimp only;by_cases em:f.isEmpty=true
 ·rw [if_pos em]
  have e0:f=#[]:=by simpa using em
  have k0:ks=[]:=by
   rw [e0]at y;exact Jz y.symm
  subst k0;refine Qb (h s.heap [] (Uq ..) ⟨o,#[],ep,t,U,K,Z,?_,⟨B.plain,B.led⟩,.nil,YS,fun e W=>by simp at W⟩ (.refl _))
  exact⟨by rw [B.mask];exact B.good,B.dum,by rw [B.place];rfl,by rw [B.place];exact List.Pairwise.nil,fun x hx=>by rw [B.place]at hx;simp at hx,by rw [B.place,B.mask];decide,fun q hq=>by rw [B.place]at hq;simp at hq⟩
 ·rw [if_neg em];refine Qa (Wo U K Z B (by rw [y];exact hn) fun z o1 a4 j M sb1 l u g B1 hM=>?_);have a2:z.get? a=some oa:=(sb1.2 a (Z2 G)).trans ha;have X1:bS prog w z f.toList ks:=X.mono fun k b=>TK.keep U Z sb1;refine Qa (QT (s:={ s with heap:=z }) l g (by unfold Z9 Ua;rw [B1.place,B1.dum];simp) ?_);dsimp only
  have hf:(j.fill != 0)=false:=by unfold Ua;rw [B1.place,B1.dum];rfl
  have F:f.size<=sizeLine:=by rw [Yj];lia
  unfold SetTable.road;rw [hf,if_neg Qq];by_cases c:(j.mask == m.mask && m.dummies.isEmpty)=true
  ·rw [if_pos c];dsimp only;refine Jm (s:={ s with heap:=z }) l g ?_ F;have J:=Yh (Zy f { m with finger:=j.finger,led:=j.led && m.led,moves:=j.moves,plain:=j.plain && m.plain }) l (by rw [Jt _ _ g];rfl);rw [Jt _ _ g]at J;have sb2:=Q2 z r (Zy f { m with finger:=j.finger,led:=j.led && m.led,moves:=j.moves,plain:=j.plain && m.plain });refine h _ ks (sb1.trans sb2) ⟨_,_,_,_,J,u,rfl,⟨T.good,T.dum,T.len,T.up,T.le,T.room,T.reach⟩,⟨?_,?_⟩,X1.mono fun k b=>TK.keep l g sb2,H,hV⟩ (.refl _)
   ·show(j.plain && m.plain)=true
    rw [B1.plain,N.1];rfl
   ·show(j.led && m.led)=cZ w
    rw [B1.led,N.2,Bool.and_self]
  ·rw [if_neg c];dsimp only;obtain⟨O,d,r1,R,r3,r4,r5⟩:=HI (hs:=f.map (·.1)) (M:=M) j.finger j.moves (j.led && m.led) (j.plain && m.plain) B1.good (by rw [Jf];exact hM)
   have I:∀ i∈d.toList,i<f.toList.length:=fun i hi=>by
    have:=Q3.mp (R.mem_iff.mp hi)
    simpa using this
   have v:(d.filterMap (f[·]?)).toList=d.toList.filterMap (f.toList[·]?):=by
    rw [JE];congr 1
    funext i
    rw [QE]
   have p:List.Perm (d.filterMap (f[·]?)).toList f.toList:=by
    rw [JE]
    refine(R.filterMap _).trans ?_
    rw [Jf,filterMap_getElem?_range]
   have n:(d.filterMap (f[·]?)).size=f.size:=by rw [<- Qg,p.length_eq,Qg]
   rw [B1.mask,r1];refine Qa ?_
   show J1 _ _ (if((d.filterMap (f[·]?)).size != f.size)=true then _ else pure (d.filterMap (f[·]?),O)) _ _ _
   rw [if_neg (by simp [n])];refine Qb ?_;dsimp only;refine Jm (s:={ s with heap:=z }) l g ?_ (by rw [n];exact F);have J:=Yh (Zy (d.filterMap (f[·]?)) O) l (by rw [Jt _ _ g];rfl);rw [Jt _ _ g]at J;have sb2:=Q2 z r (Zy (d.filterMap (f[·]?)) O)
   have kp:List.Perm (d.toList.filterMap (ks[·]?)) ks:=by
    refine(R.filterMap _).trans ?_
    rw [Jf,<- Qg,X.length,Y8]
   refine h _ (d.toList.filterMap (ks[·]?)) (sb1.trans sb2) ⟨_,_,_,_,J,u,rfl,?_,⟨by rw [r5,B1.plain,N.1];rfl,by rw [r4,B1.led,N.2,Bool.and_self]⟩,?_,kp.nodup_iff.mpr H,fun e W=>hV e (p.mem_iff.mp W)⟩ kp
   ·rw [v,BR _ _ I]
    simpa using r3
   ·rw [v]
    exact(X1.pick _ I).mono fun k b=>TK.keep l g sb2
theorem yI{a:JY}{Q:Bool->JZ->Prop}(b:s.TypeIs (.ref a) "set")(h:Q true s):J1 (J3 prog w) A (Z1 (.ref a)) Q E s:=by
 unfold Z1 orM;refine Qa (Y0 b sub_set_self ?_);exact Qb h
theorem base_of{a:JY}{Q:YP->JZ->Prop}(b:s.TypeIs (.ref a) "set")(h:Q (.type "set") s):J1 (J3 prog w) A (Builtin.Frozenset.baseOf a) Q E s:=by
 unfold Builtin.Frozenset.baseOf;refine Qa (Y0 b sub_set_self ?_);rw [if_pos rfl];exact Qb h
theorem zE{a:JY}{o:Obj}{es:Array (Int × YP)}{ep:Nat}{t:SetTable}{Q:Nat->JZ->Prop}(b:s.heap.get? a=some o)(d:o.data=.set es ep t)(c:t.fits es.size=true)(h:Q es.size s):J1 (J3 prog w) A (Ub a) Q E s:=by
 unfold Ub;exact Qa (JS b d c (Qb h))
theorem OX{a:JY}{ks:List (List Int)}{Q:YP->JZ->Prop}(S:cT prog w V s.heap a ks)(m:ks.length<=75)
  (h:∀ h' ks',(∀ b o,s.heap.get? b=some o->h'.get? b=some o)->cT prog w V h' s.heap.objs.size ks'->List.Perm ks' ks->Q (.ref s.heap.objs.size) { s with heap:=h' }):J1 (J3 prog w) A (Builtin.Frozenset.copyOf a) Q E s:=by
 obtain⟨j,y,q,u,f,c,n,T,v,X,l,x⟩:=id S;have p:s.TypeIs (.ref a) "set":=⟨j,f,c.1⟩;have k:=Qs f;unfold Builtin.Frozenset.copyOf;refine Qa (base_of p (Qa (Hj ?_)));refine Qa (Qb ?_);have t:cT prog w V (s.heap.push (uV w)) a ks:=S.moved fun b o e _=>Qh _ e;refine Qa (Tk (s:={ s with heap:=s.heap.push (uV w) }) (r:=s.heap.objs.size) (Y9 k) (Qz _ rfl) ⟨rfl,rfl,rfl⟩ rfl ⟨.inl rfl,rfl,rfl,rfl,rfl,rfl⟩ t m fun h' ks' g d i=>?_);exact Qb (h h' ks' (fun b o e=>(g.2 b (QB (Qs e))).trans (Qh _ e)) d i)
end
section
variable {prog:J2}{w:J5}{A:Around}{E:YP->JZ->Prop}{s:JZ}{V:YP->Prop}
theorem KH{a:JY}{o:Obj}{es:Array (Int × YP)}{ep:Nat}{t:SetTable}{b:List JY}{d:Option JY}{Q:Array (Int × YP)->JZ->Prop}(S:jA w s.heap a o es ep t)(h:Q (hE w a ep es) s):
  J1 (J3 prog w) A (setWalkUnseen a b d) Q E s:=by
 unfold setWalkUnseen;refine Qa (QT S.get S.data S.fits ?_);dsimp only;refine Qa (wC ?_)
 have c:(w.params.followText "set-order" || (t.led && t.plain) || decide (es.size<=1))=true:=by
  rw [S.led,S.plain,cZ]
  cases w.params.followText "set-order" <;> rfl
 rw [c,if_pos rfl];exact KG S h
theorem zO{id:String}{a:JY}{o:Obj}{es:Array (Int × YP)}{ep:Nat}{t:SetTable}{Q:Unit->JZ->Prop}(b:s.heap.get? a=some o)(d:o.data=.set es ep t)(c:t.fits es.size=true)(h:Q () s):J1 (J3 prog w) A (Builtin.Frozenset.unchanged id a ep) Q E s:=by
 unfold Builtin.Frozenset.unchanged setEpoch;refine Qa (Qa (QT b d c (Qb ?_)));rw [if_neg (by simp)];exact Qb h
theorem cT.setAt{h:Heap}{a:JY}{d:List (List Int)}(S:cT prog w V h a d):∃ o es ep t,jA w h a o es ep t/\gR t (es.toList.map (·.1))/\bS prog w h es.toList d/\∀ e∈es.toList,V e.2:=by
 obtain⟨o,es,ep,t,k,j,i,b,c,g,l,f⟩:=S
 exact⟨o,es,ep,t,⟨k,j,i,b.fits (by simp),b.up,c.1,c.2⟩,b,g,f⟩
structure Lv(prog:J2)(w:J5)(V:YP->Prop)(s:JZ)(ka kb:List (List Int))(rest:List (Int × YP))(s':JZ)(h':Heap)(kc kd krest:List (List Int)):Prop where
 eq:s'={ s with heap:=h' }
 kp:∀ b o,s.heap.get? b=some o->h'.get? b=some o
 SC:n7 prog w V h' s.heap.objs.size kc
 Xr:bS prog w s.heap rest krest
 pk:List.Perm (kd++krest) kb
 lc:kc.length<=63
 me:∀ k,k∈kc ↔ k∈ka/\k∉kd
structure Lw(prog:J2)(w:J5)(V:YP->Prop)(s:JZ)(ka kb:List (List Int))(rest:List (Int × YP))(s':JZ)(h':Heap)(kr kd krest:List (List Int)):Prop where
 eq:s'={ s with heap:=h' }
 kp:∀ b o,s.heap.get? b=some o->h'.get? b=some o
 SR:cT prog w V h' s.heap.objs.size kr
 Xr:bS prog w s.heap rest krest
 pk:List.Perm (kd++krest) ka
 me:∀ k,k∈kr ↔ k∈kd/\k∉kb
 vr:∀ e∈rest,V e.2
theorem Rr{id:String}{a b:JY}{ka kb:List (List Int)}{Q:YP->JZ->Prop}(b2:a≠b)(hu:A.units<Zc)(SA:cT prog w V s.heap a ka)(SB:cT prog w V s.heap b kb)(a5:ka.length<=63)
  (h:∀ h' r ks,s.heap.objs.size<=r->(∀ b o,s.heap.get? b=some o->h'.get? b=some o)->n7 prog w V h' r ks->(∀ k,k∈ks ↔ k∈ka/\k∉kb)->Q (.ref r) { s with heap:=h' }):
  J1 (J3 prog w) A (Builtin.Frozenset.difference id a (.ref b)) Q E s:=by
 obtain⟨oa,ea,pa,ta,Sa,Ta,Xa,Va⟩:=SA.setAt;obtain⟨ob,eb,pb,tb,Sb,Tb,Xb,Vb⟩:=SB.setAt;have a8:s.TypeIs (.ref a) "set":=⟨oa,Sa.get,Sa.ex.1⟩;have a7:s.TypeIs (.ref b) "set":=⟨ob,Sb.get,Sb.ex.1⟩;have a2:=SA.nodup;unfold Builtin.Frozenset.difference;refine Qa (yI a7 ?_);simp only [Yf,Qj,if_false,Bool.false_and];unfold ZO;refine Qa (Qb ?_);simp only [if_true];refine Qa (zE Sb.get Sb.data Sb.fits ?_);refine Qa (zE Sa.get Sa.data Sa.fits ?_);by_cases c:ea.size / 4 > eb.size
 ·rw [if_pos c];refine Qa (Y7 ?_);refine Qa (OX SA (by lia) fun O G U SR pr=>?_);have lb:=Qs Sb.get;have Sb1:=Sb.at (U _ _ Sb.get);have Z:({ s with heap:=O }:JZ).TypeIs (.ref b) "set":=⟨ob,Sb1.get,Sb.ex.1⟩;refine Qa (Qb ?_);refine Qa (Yg ?_);unfold Builtin.Frozenset.differenceUpdate;rw [if_neg (by simpa using QB lb)];refine Qa (yI Z ?_);rw [if_pos rfl];unfold ZO;refine Qa (Qb ?_);refine Qa (zE (s:={ s with heap:=O }) Sb1.get Sb1.data Sb1.fits ?_);obtain⟨oR,eR,pR,tR,SatR,TR,XR,VR⟩:=SR.setAt;refine Qa (zE (s:={ s with heap:=O }) SatR.get SatR.data SatR.fits ?_)
  have a9:eR.size=ea.size:=by rw [<- Qg,XR.length,pr.length_eq,<- Xa.length,Qg]
  rw [if_neg (by lia)];dsimp only;refine Qa (wpAny_setEpoch_of (s:={ s with heap:=O }) Sb1.get Sb1.data Sb1.fits ?_);refine Qa (Yg (Qa (KH (s:={ s with heap:=O }) Sb1 ?_)));obtain⟨ko,Xo,po⟩:=Xb.perm (qR w b pb eb).symm;rw [<- YZ];refine Qa (Yw _ (fun g _ K=>∃ h' I kd d,Lv prog w V s ka kb g K h' I kd d) _ ?_ ?_ _ _ ?_)
  ·rintro x g _ K ⟨h',I,kd,d,rfl,m,R,u,B,lc,mk⟩
   cases u with
   | @cons k bx _ d Y u=>
    have H:TK prog w h' k bx:=Y.at fun o e=>m bx o e
    have y:List.Perm ((kd++[k])++d) kb:=by rw [QG];exact B
    dsimp only;refine Qa (Yg (Rs (s:={ s with heap:=h' }) hu R H (fun hn=>?_) (fun j kc2 S S2 F=>?_) (by lia)))
    ·have Sb2:=Sb.at (m _ _ Sb.get);refine Qa (zO (s:={ s with heap:=h' }) Sb2.get Sb2.data Sb2.fits (Qb ?_))
     refine⟨h',I,kd++[k],d,rfl,m,R,u,y,lc,fun v=>?_⟩
     rw [mk v,QD,QJ];constructor
     ·rintro⟨f,l⟩
      exact⟨f,fun z=>z.elim l fun z=>hn (z ▸ (mk v).mpr ⟨f,l⟩)⟩
     ·rintro⟨f,l⟩
      exact⟨f,fun z=>l (.inl z)⟩
    ·have p:∀ b o,s.heap.get? b=some o->j.get? b=some o:=fun b o e=>(S.2 b (QB (Qs e))).trans (m b o e);have Sb2:=Sb.at (p _ _ Sb.get);refine Qa (zO (s:={ s with heap:=j }) Sb2.get Sb2.data Sb2.fits (Qb ?_))
     have nd:(k::kc2).Nodup:=by
      obtain⟨_,_,_,_,_,_,_,_,_,_,z7,_⟩:=R;exact F.nodup_iff.mp z7
     have ll:=F.length_eq;rw [Qt]at ll
     refine⟨j,kc2,kd++[k],d,rfl,p,S2,u,y,by lia,fun v=>?_⟩
     rw [QD,QJ]
     have m1:v∈I ↔ v=k ∨ v∈kc2:=by rw [F.mem_iff,Qp]
     constructor
     ·intro hx
      have:=(mk v).mp (m1.mpr (.inr hx))
      exact⟨this.1,fun z=>z.elim this.2 fun z=>(Ye.mp nd).1 (z ▸ hx)⟩
     ·rintro⟨f,l⟩
      rcases m1.mp ((mk v).mpr ⟨f,fun z=>l (.inl z)⟩)with z | z
      ·exact absurd (.inr z) l
      ·exact z
  ·rintro _ K ⟨h',I,kd,d,rfl,m,R,u,B,lc,mk⟩;cases u;rw [QR]at B;refine Qb ?_
   have fin:∀ j kc2,(∀ b o,s.heap.get? b=some o->j.get? b=some o)->n7 prog w V j s.heap.objs.size kc2->List.Perm kc2 I->J1 (J3 prog w) A (pure (J4 s.heap.objs.size)) Q E { s with heap:=j }:=fun j kc2 p S2 F=>
    Qb (h j _ kc2 (Ql _) p S2 fun k=>by rw [F.mem_iff,mk k,B.mem_iff])
   obtain⟨o,es,ep,t,ho,a6,hd,T,hp,X,a4,hV⟩:=_root_.id R;have J:t.fits es.size=true:=T.fits (by simp)
   have b0:es.size=I.length:=by rw [<- X.length,Qg]
   unfold setTidy;refine Qa (QT (s:={ s with heap:=h' }) ho hd J ?_);dsimp only;by_cases td:t.tooManyDummies=true
   ·rw [if_pos td];obtain⟨M,m1,m2,m3,m4⟩:=WH (n:=es.size) (by lia);refine Iv (s:={ s with heap:=h' }) (V:=V) ho a6 hd J hp X a4 hV m1 m2 m3 m4 (by rw [Yj];lia) fun j kc2 S S2 F=>?_;exact fin j kc2 (fun b o e=>(S.2 b (QB (Qs e))).trans (m b o e)) S2.toD F
   ·rw [if_neg td];exact Qb (fin h' I m R (.refl _))
  ·exact⟨O,G,[],ko,rfl,U,SR.toD,Xo,po,by rw [pr.length_eq];exact a5,fun k=>by rw [pr.mem_iff];simp⟩
 ·rw [if_neg c];refine Qa (base_of a8 (Qa (Hj ?_)));refine Qa (Qb ?_);have W:∀ b o,s.heap.get? b=some o->(s.heap.push (uV w)).get? b=some o:=fun b o e=>Qh _ e;have Sa0:=Sa.at (W _ _ Sa.get);refine Qa (wpAny_setEpoch_of Sa0.get Sa0.data Sa0.fits ?_);refine Qa (Yg (Qa (KH (s:={ s with heap:=s.heap.push (uV w) }) Sa0 ?_)));obtain⟨ko,Xo,po⟩:=Xa.perm (qR w a pa ea).symm;rw [<- YZ];refine Qa (Yw _ (fun g _ K=>∃ h' G kd d,Lw prog w V s ka kb g K h' G kd d) _ ?_ ?_ _ _ ?_)
  ·rintro x g _ K ⟨h',G,kd,d,rfl,m,SR,u,B,mk,vr⟩
   cases u with
   | @cons k bx _ d Y u=>
    have H:TK prog w h' k bx:=Y.at fun o e=>m bx o e;have Sb':=Sb.at (m _ _ Sb.get);have Sa':=Sa.at (m _ _ Sa.get)
    have a0:k∉kd:=by
     have:=B.nodup_iff.mpr a2
     have:=List.perm_middle.nodup_iff.mp this
     exact fun hh=>(Ye.mp this).1 (QY _ hh)
    have y:List.Perm ((kd++[k])++d) ka:=by rw [QG];exact B
    refine Qa (Yg (Qa (FL (s:={ s with heap:=h' }) hu Sb'.get Sb'.data Tb.toD (Xb.mono fun k b x=>x.at fun o e=>m b o e) H (fun i hi=>?_) fun hn=>?_)))
    ·refine Qa (Qb ?_);simp only [Option.isSome_some,Yf,Qj,if_false];refine Qb ?_;refine Qa (zO (s:={ s with heap:=h' }) Sa'.get Sa'.data Sa'.fits (Qb ?_))
     refine⟨h',G,kd++[k],d,rfl,m,SR,u,y,fun v=>?_,fun e N=>vr e (Qf _ N)⟩
     rw [mk v,QD,QJ];constructor
     ·rintro⟨f,l⟩;exact⟨.inl f,l⟩
     ·rintro⟨f | f,l⟩
      ·exact⟨f,l⟩
      ·exact absurd (f ▸ QP hi) l
    ·refine Qa (Qb ?_);simp only [Option.isSome_none,Jr,if_true]
     have lk:G.length<=63:=by
      have O:G.length<=kd.length:=Yx SR.nodup fun k Y=>((mk k).mp Y).1;have j:=B.length_eq;rw [Qd]at j;lia
     refine Qa (Fk (s:={ s with heap:=h' }) hu SR H (vr _ Qo) (by lia) (fun hm=>absurd ((mk k).mp hm).1 a0) fun _ j a3 S S2 F=>?_);have p:∀ b o,s.heap.get? b=some o->j.get? b=some o:=fun b o e=>(S.2 b (QB (Qs e))).trans (m b o e);have Sa2:=Sa.at (p _ _ Sa.get);refine Qb (Qa (zO (s:={ s with heap:=j }) Sa2.get Sa2.data Sa2.fits (Qb ?_)))
     refine⟨j,a3,kd++[k],d,rfl,p,S2,u,y,fun v=>?_,fun e N=>vr e (Qf _ N)⟩
     rw [F.mem_iff,Qp,mk v,QD,QJ];constructor
     ·rintro(f | ⟨f,l⟩)
      ·exact⟨.inr f,f ▸ hn⟩
      ·exact⟨.inl f,l⟩
     ·rintro⟨f | f,l⟩
      ·exact .inr ⟨f,l⟩
      ·exact .inl f
  ·rintro _ K ⟨h',G,kd,d,rfl,m,SR,u,B,mk,vr⟩;cases u;rw [QR]at B;refine Qb (Qb (h h' _ G (Ql _) m SR.toD fun k=>?_));rw [mk k,B.mem_iff]
  ·refine⟨_,[],[],ko,rfl,W,⟨_,#[],0,_,Qz _ rfl,⟨rfl,rfl,rfl⟩,rfl,⟨.inl rfl,rfl,rfl,List.Pairwise.nil,fun x hx=>by simp [SetTable.fresh]at hx,(by show 0 * 5<7 * 3;decide),fun q hq=>by simp at hq⟩,⟨rfl,rfl⟩,.nil,YS,fun e N=>by simp at N⟩,Xo,po,fun k=>by simp,fun e N=>Va e ((qR w a pa ea).mem_iff.mp N)⟩
end
section
variable {prog:J2}{w:J5}{A:Around}{E:YP->JZ->Prop}{s:JZ}{V:YP->Prop}
theorem Vz{a b:JY}{e i:List (List Int)}{Q:YP->JZ->Prop}(g:a≠b)(v:A.units+8<Zc)(SA:cT prog w V s.heap a e)(SB:cT prog w V s.heap b i)(f:e.length<=63)
  (h:∀ h' r ks,s.heap.objs.size<=r->(∀ b o,s.heap.get? b=some o->h'.get? b=some o)->n7 prog w V h' r ks->(∀ k,k∈ks ↔ k∈e/\k∉i)->Q (.ref r) { s with heap:=h' }):
  J1 (J3 prog w) A (Zv .Sub (.ref a) (.ref b)) Q E s:=by
 obtain⟨l,y,u,q,Sa,K,G,I⟩:=SA.setAt;obtain⟨j,x,t,p,Sb,J,B,H⟩:=SB.setAt;have c:s.TypeIs (.ref a) "set":=⟨l,Sa.get,Sa.ex.1⟩;have d:s.TypeIs (.ref b) "set":=⟨j,Sb.get,Sb.ex.1⟩;refine wpAny_binaryOp_same c d PySem.F.fills_set_sub PySem.F.slot_set_sub (Yc PySem.F.slot_set_sub c PySem.F.set_sub_entry ?_ (PySem.F.args_set_sub_2 _ _));unfold Builtin.«frozenset.__sub__»
 wp_delta
 refine Qa (UI (a:=(J4 a,J4 b)) (by rfl) ?_);simp only [Qj,if_false];refine Qa ?_;unfold andM;refine Qa (yI c ?_)
 show J1 _ _ (Z1 (.ref b)) _ _ _
 refine yI d ?_;simp only [Yf,Qj,if_false];unfold ZO;refine Qa (Qb (Qa (Rr g (by show A.units+1<Zc;lia) SA SB f fun h' r ks n m S mk=>?_)));exact Qb ⟨_,rfl,(fun z=>nomatch z),h h' r ks n m S mk⟩
end
end ST
namespace SL
open PySem PySem.Spec PyProof.Rows L2 CL DL SD ST
def Ci(c b:aA->Option (List (List Int))):aA->Option (List (List Int)):=fun a=>(c a).bind fun x=>(b a).bind fun y=>if x.length<=63 then some (x.filter fun k => !y.contains k)else none
section
variable {X:Cx}{a b:Expr}{pos:Pos}{g1 g2:aA->Option (List (List Int))}
theorem bS.carry{c a:List (JY × Obj)}{o d:L2.St}{f n:Hp}{i h:JZ}(m:Inv X c o f i)(l:Inv X a d n h)(g:fG f n):∀{es:List (Int × YP)}{ks:List (List Int)},bS X.prog X.w i.heap es ks->(∀ e∈es,VT X.K f e.2)->bS X.prog X.w h.heap es ks
 | _,_,.nil,_=>.nil
 | _,_,.cons (k:=k) (b:=bx) h1 r,hv=>by
  obtain⟨s,xs,q,j⟩:=hv _ Qo;cases q
  have:k=xs:=h1.unique (mD m j)
  subst this;exact .cons (mD l (fG.sqT g j)) (bS.carry m l g r fun e p=>hv e (Qf _ p))
theorem Rx(hc:X.calm=true)(hu:X.A.units+66<Zc)(ha:u6 X a g1)(hb:u6 X b g2):zX X (.BinOp a .Sub b pos) (Ci g1 g2):=by
 intro d s l H Q I ⟨F,i,ρ,kl,S,q,k⟩;obtain⟨x,e1,q⟩:=aG q;obtain⟨y,e2,q⟩:=aG q;by_cases c:x.length<=63
 ·rw [if_pos c]at q;cases q;refine wpAny_BinOp (bC (ha d s l H (fun f n=>f.Nodup/\(∀ k,k∈f ↔ k∈x)/\∃ j,aN F j H n) I ⟨F,i,ρ,x,S,e1,fun j n f E1 n1 O=>⟨n1,O,j,E1⟩⟩) fun u s1 R=>?_);obtain⟨a1,o1,ka,n,eu,I1,S1,_,_,O,j,E1⟩:=R;refine bC (hb ((a1,o1)::d) s1 l n (fun f g=>f.Nodup/\(∀ k,k∈f ↔ k∈y)/\∃ z,aN j z n g) I1 ⟨j,i,ρ,y,S.ext E1,e2,fun z g f E2 n2 W=>⟨n2,W,z,E2⟩⟩) fun v s2 R=>?_;obtain⟨a2,o2,kb,g,ev,I2,S2,ap,_,W,z,E2⟩:=R;subst eu;subst ev;have g1:s2.heap.get? a1=some o1:=(I2.pin (a1,o1) (Qv _ (Qf _ Qo))).1;have Z:a1≠a2:=ap (a1,o1) Qo
  have SA:cT X.prog X.w (VT X.K g) s2.heap a1 ka:=by
   obtain⟨o,es,ep,t,N,U,M,J,G,T,E,B⟩:=S1
   have:s1.heap.get? a1=some o1:=(I1.pin (a1,o1) (Qv _ Qo)).1
   rw [N]at this;cases this
   exact⟨_,es,ep,t,g1,U,M,J,G,bS.carry I1 I2 E2.same T B,E,fun e he=>by
    obtain⟨b',xs,e1,e2⟩:=B e he
    exact⟨b',xs,e1,fG.sqT E2.same e2⟩⟩
  refine Vz Z (by lia) SA S2 ?_ fun h' r f Y kp SD mk=>?_
  ·have:ka.length<=x.length:=Yx SA.nodup fun k h=>(O k).mp h
   lia
  ·obtain⟨o,es,ep,t,N,U,M,J,G,T,E,B⟩:=SD;have I3:Inv X d l g s2:=I2.pins_of fun p m=>I2.pin p (Qv _ (Qf _ (Qf _ m)));have I4:Inv X d l g { s2 with heap:=h' }:=I3.kept (t':=s2.toks) kp
   have I5:Inv X ((r,o)::d) l g { s2 with heap:=h' }:=by
    refine I4.pins_of fun p m=>?_;rcases Qp.mp m with rfl | m
    ·refine⟨N,I2.hok.fresh Y,Y9 (QX I2.lt Y),I2.nofs Y,fun v hv=>?_⟩
     rw [M]at hv;exact nomatch hv
    ·exact I4.pin p (Qv _ m)
   refine⟨r,o,f,g,rfl,I5,⟨es,ep,t,⟨N,U,M,J.fits (by simp),J.up,G.1,G.2⟩,T,E,B⟩,k z g f (E1.trans E2) E fun k=>?_⟩
   rw [mk k,O k,W k,QW];simp
 ·rw [if_neg c]at q;cases q
end
theorem GG{X:Cx}{d:Zm}:DS X d (fun _=>none):=fun a s e H W I q=>by
 obtain⟨c,b,F,f,o,E,S,q,k⟩:=q;cases q
end SL
namespace DC
open PySem PyProof.Rows
theorem R4:typeLookup (.type "list") "keys"=pure none:=by rw [typeLookup_type,Uu];kernel_rfl
section
variable {prog:J2}{w:J5}{A:Around}{E:YP->JZ->Prop}{s:JZ}
theorem PP{a:JY}{o:Obj}{xs:Array YP}{k:Nat}{Q:Option YP->JZ->Prop}(l:s.heap.get? a=some o)(n:o.cls=.type "list")(f:o.data=.seq xs k)(m:o.dict=none)(u:A.handled=none)
  (h:∀ h' tk,(∀ b ob,s.heap.get? b=some ob->h'.get? b=some ob)->Q none { s with heap:=h',toks:=tk }):J1 (J3 prog w) A (getAttr? (.ref a) "keys") Q E s:=by
 obtain⟨c,v,dat,q⟩:=o
 simp only at n f m
 subst n f m;obtain⟨t,g,d,tk,r⟩:=s;have p:∀ i,(⟨t,g,d,i,r⟩:JZ).TypeIs (.ref a) "list":=fun _=>⟨_,l,rfl⟩;have I:=sub_AttributeError;have H:=F.slot_list_getattribute.lookup;have G:=F.slot_list_getattribute.bind (.ref a);have B:=am_list_getattr_none;unfold getAttr? getAttrBy? getAttrBy
 repeat (any_goals (first | assumption | exact p _ | ((with_reducible show J1 _ _ (call (Value.builtin "list.__getattribute__") _ _) _ _ _);refine call_meets F.slot_list_getattribute (p _) am_entry_list_getattribute (F.args_list_getattribute_2 _ _) (meets_getattribute_miss_list a xs k q "keys" _ R4 (by decide +kernel)) ⟨l,u,fun h' i e j=>?_⟩) | wp_step))
 obtain⟨y,x,z⟩:=j.there
 show J1 _ _ (getattributeRaised _ _ _ _ _ _ _) _ _ _
 unfold getattributeRaised
 repeat (any_goals (first | assumption | wp_step))
 exact h _ _ j.keeps
end
theorem FC:entryFor table "dict.update.loop"=some Builtin.«dict.update.loop»:=entryFor_of_tree (by kernel_rfl)
theorem wO:plainId "dict.update.loop"=true:=by decide +kernel
section
variable {κ:Type}[DecidableEq κ]
def iE(b:Nat->κ)(c:Nat->JY)(a:Nat->YP):Nat->List (κ × JY × YP)
 | 0=>[]
 | i+1=>UW (iE b c a i) (b i) (c i) (a i)
variable {key:Nat->κ}{kad:Nat->JY}{val:Nat->YP}
theorem Bn:∀ i,(iE key kad val i).length<=i
 | 0=>Ql _
 | i+1=>by
  have:=Bn i
  unfold iE UW;split
  ·rw [Qi];lia
  ·rw [Qd,Qx];lia
theorem Bo:∀ i,∀ x∈iE key kad val i,∃ j,j<i/\x.1=key j/\x.2.1=kad j
 | 0,x,h=>nomatch h
 | i+1,x,h=>by
  unfold iE UW at h
  split at h
  ·obtain⟨y,c,rfl⟩:=QO.mp h;obtain⟨j,d,b,a⟩:=Bo i y c
   refine⟨j,by lia,?_⟩
   unfold putAt;split
   ·exact⟨b,a⟩
   ·exact⟨b,a⟩
  ·rcases QD.mp h with h | h
   ·obtain⟨j,d,e⟩:=Bo i x h
    exact⟨j,by lia,e⟩
   ·rw [QJ]at h;subst h
    exact⟨i,by lia,rfl,rfl⟩
end
section
variable {prog:J2}{w:J5}{κ:Type}[DecidableEq κ]{knd:HeapKind prog w κ}{A:Around}{R:Result->JZ->Prop}{I:JY}{fp wr:List JY}{G:Array GenState->Array GenState->Prop}{n:Nat}{Pv:Nat->YP->Prop}{St:Nat->JZ->Prop}
theorem Rq(W:WalksS prog w A.in1 I fp wr G n Pv St)(S:JY)(O:S∉fp)(hu:knd.room A.in1)(g:Nat->κ)(a:Nat->JY)(f:Nat->YP)(u:Heap)(res:YP)
  (m:∀(h h':Heap) k b,knd.is h k b->(∀ b o,h.get? b=some o->h'.get? b=some o)->knd.is h' k b)
  (l:∀ b o,u.get? b=some o->b≠S/\b∉wr) (H:∀ i v,i<n->Pv i v->∃ b,v=.ref b/\u.IsTuple b #[.ref (a i),f i]) (z:∀ i,i<n->knd.is u (g i) (a i)) (F:n<=1000):
  ∀(k i:Nat) (s:JZ) (c:Int) (t:Tok),n-i=k->i<=n->St i s->(∀ b o,u.get? b=some o->s.heap.get? b=some o)->
   s.heap.DictOfH knd S (iE g a f i)->
   (∀ s',Moved (S::wr) G s s'->(∀ b o,u.get? b=some o->s'.heap.get? b=some o)->s'.heap.DictOfH knd S (iE g a f n)->R (.ok (.ret res)) s')->
   Uc (J3 prog w) A (.builtin "dict.update.loop" ⟨[.ref S,.ref I,.int c t,res],[]⟩) R s:=by
 have a8:S∉wr:=fun h=>O (W.sub _ h);have y:∀ b∈wr,b∈S::wr:=fun b F=>Qf _ F
 have M:∀(s s':JZ) i,i<=n->Moved wr G s s'->(∀ b o,u.get? b=some o->s'.heap.get? b=some o)->s.heap.DictOfH knd S (iE g a f i)->s'.heap.DictOfH knd S (iE g a f i):=fun s s' i hi q Y U=>by
  obtain⟨o,es,ep,ho,a4,hd,he,b0,a0⟩:=U
  refine⟨o,es,ep,q.heap S _ a8 ho,a4,hd,he,fun x hx=>?_,a0⟩
  obtain⟨j,hj,e1,e2⟩:=Bo i x hx;rw [e1,e2];exact m _ _ _ _ (z j (by lia)) Y
 intro k
 induction k with
 | zero=>
  intro i s c t hk hi B Y U hR
  have a3:i=n:=by lia
  subst a3;refine Jj FC ?_;rw [Jn wO _]
  show J1 _ A.in1 (Ux (.ref I) >>= _) _ _ s
  refine Qa (W.done s _ _ B fun s' q=>?_)
  show J1 _ A.in1 (Builtin.Dict.addKeywords S [] >>= fun _=>ret res) _ _ s'
  have d:∀ b o,u.get? b=some o->s'.heap.get? b=some o:=fun b o e=>q.heap b o (l b o e).2 (Y b o e);exact Qa (Qb (Qb (hR s' (q.mono y) d (M s s' i (Ql _) q d U))))
 | succ k ih=>
  intro i s c t hk hi B Y U hR
  have r:i<n:=by lia
  refine Jj FC ?_;rw [Jn wO _]
  show J1 _ A.in1 (Ux (.ref I) >>= _) _ _ s
  refine Qa (W.item i s _ _ r B fun v s' hP J q=>?_);obtain⟨b,rfl,ot,K,a7,nt,a5⟩:=H i v r hP;have d:∀ b o,u.get? b=some o->s'.heap.get? b=some o:=fun b o e=>q.heap b o (l b o e).2 (Y b o e);have a9:=M s s' i (by lia) q d U;have a2:knd.is s'.heap (g i) (a i):=m _ _ _ _ (z i r) d;refine Qa (Yg (Qa (wpAny_tryCatch ?_)));unfold Builtin.Dict.pairItems;refine Qa (Ja (T:="tuple") ⟨ot,d _ _ K,a7⟩ ?_);rw [if_pos (by decide)];refine Qa (Js (d _ _ K) a5 (Qb ?_))
  show J1 _ A.in1 (UC [J4 (a i),f i] (dictSet S (.ref (a i)) (f i))) _ _ s'
  refine Yg (wpAny_dictSet_heap hu a2 a9 (fun h' a6 E=>?_) (QL (Bn i) (by rw [sizeLine];lia)))
  have p:Moved (S::wr) G s { s' with heap:=h',toks:=s'.toks+knd.draws (g i) }:=
   (q.mono y).then_heap (Q7 _ _) fun b o F e=>by rw [E.2 b (fun h:b=S=>F (by rw [h];exact Qo))];exact e
  refine Qb ⟨UF wO _,ih (i+1) _ (c+1) 0 (by lia) r (W.frame _ s' _ _ J (Q7 _ _) fun b F o e=>?_) (fun b o e=>?_) a6 fun Z N X Q=>?_⟩
  ·rw [E.2 b (fun h:b=S=>O (by rw [<- h];exact F))];exact e
  ·show h'.get? b=some o
   rw [E.2 b (l b o e).1];exact d b o e
  ·exact hR Z (Moved.trans W.gtrans p N) X Q
end
section
variable {prog:J2}{w:J5}{κ:Type}[DecidableEq κ]{knd:HeapKind prog w κ}{A:Around}{E:YP->JZ->Prop}{s:JZ}
theorem Ge{l:JY}{items:Array YP}{M:Nat}{W:Array (Option YP)}{Q:YP->JZ->Prop}(p:Nat->κ)(f:Nat->JY)(m:Nat->YP)
  (q:∀(h h':Heap) k b,knd.is h k b->(∀ b o,h.get? b=some o->h'.get? b=some o)->knd.is h' k b)
  (R:A.handled=none) (hu:∀ B:Around,B.units<=A.units+8->knd.room B) (X:s.heap.get? l=some { cls:=.type "list",dict:=none,data:=.seq items M,slots:=W })
  (hi:∀ i v,items[i]?=some v->∃ b,v=.ref b/\s.heap.IsTuple b #[.ref (f i),m i]) (hk:∀ i,i<items.size->knd.is s.heap (p i) (f i)) (hb:items.size<=1000)
  (h:∀(h':Heap) (tk:Nat),h'.DictOfH knd s.heap.objs.size (iE p f m items.size)->(∀ b o,s.heap.get? b=some o->h'.get? b=some o)->Q (.ref s.heap.objs.size) { s with heap:=h',toks:=tk }):
  J1 (J3 prog w) A (call (.type "dict") [.ref l]) Q E s:=by
 refine callType_codes (Q₁:=fun x g=>x=.ref s.heap.objs.size/\g={ s with heap:=s.heap.push { cls:=.type "dict",data:=.dict #[] } }) F.kt_called_dict (F.kt_typeCall_dict_1 _) F.entry_dict_init (kt_code_dict_new _ ⟨rfl,rfl⟩) ?_;rintro x g ⟨rfl,rfl⟩;have j:(s.heap.push { cls:=.type "dict",data:=.dict #[] }).DictOfH knd s.heap.objs.size []:=Heap.DictOfH.new s.heap;have t:(s.heap.push { cls:=.type "dict",data:=.dict #[] }).get? l=some { cls:=.type "list",dict:=none,data:=.seq items M,slots:=W }:=Qh _ X
 refine⟨j.typeIs,F.args_dict_init_2 _ _,?_⟩
 unfold Builtin.«dict.__init__»;refine Qa ?_;unfold Builtin.Dict.selfAndRest;refine Qa (Uv j.typeIs ?_)
 show J1 _ _ (pure (s.heap.objs.size,[J4 l])) _ _ _
 refine Qb ?_
 show J1 _ _ (Builtin.Dict.updateFrom "dict.__init__" s.heap.objs.size (.ref l) [] .none) _ _ _
 unfold Builtin.Dict.updateFrom;refine Qa (Ja (T:="list") ⟨_,t,rfl⟩ ?_);rw [if_pos (by decide)];refine Qa (PP t rfl rfl rfl (by first | exact R | simp [R]) fun a n c=>?_);rw [if_pos (by decide)];have H:a.IsList l items:=⟨_,c _ _ t,rfl,M,rfl⟩;refine Qa (Y7 (Qa (wpAny_pyIter_list (s:={ s with heap:=a,toks:=n }) H ?_)));refine Qb ⟨UF wO _,?_⟩;have I:a.get? s.heap.objs.size=some { cls:=.type "dict",data:=.dict #[] }:=c _ _ (Qz _ rfl);have d:s.heap.objs.size<a.objs.size:=Qs I;have G:l<s.heap.objs.size:=Qs X;have y:l≠a.objs.size:=QB (UN G d)
 have O:A.in1.in1.handled=none:=by simp [R]
 have u:∀ b o,s.heap.get? b=some o->(a.push { cls:=ZH "list_iterator",data:=Data.fields #[J4 l,UO 0 0] }).get? b=some o:=fun b o e=>
  Qh _ (c b o (Qh _ e))
 refine Rq (knd:=knd) ((Walks.list O a.objs.size l y items).toS) s.heap.objs.size ?hSf (hu _ (by show A.units+1+1<=_;lia)) p f m s.heap .none q ?hold (fun i v _ hv=>hi i v hv) (fun i N=>hk i N) hb (items.size-0) 0 _ 0 0 (by lia) (Q9 _)
  ⟨⟨_,Qz _ rfl,rfl,rfl⟩,H.push _⟩ u ?hS0 ?hR
 case hSf=>
  simp only [Qp,QJ,Jv,or_false,not_or]
  exact⟨QB d,Y9 G⟩
 case hold=>
  intro b o e;have r:b<s.heap.objs.size:=Qs e
  refine⟨QB r,fun z=>?_⟩
  have S:b=a.objs.size:=QJ.mp z;rw [S]at r;exact absurd (UN r d) (JH _)
 case hS0=>exact⟨_,#[],0,Qh _ I,⟨rfl,rfl,rfl⟩,rfl,rfl,fun _ Z=>by simp [iE]at Z,YS⟩
 case hR=>
  intro Y z h0 U;obtain⟨h',g',d',J,K⟩:=Y;have eg:g'=s.gens:=z.gens;have ed:d'=s.drawn:=z.drawn;have eo:K=s.os:=z.os;subst eg;subst ed;subst eo
  exact⟨rfl,h h' J U h0⟩
end
end DC
namespace DC
open PySem PySem.Spec PyProof.Rows L2 DL ST SL
def gJ:D->Option (List Int)
 | .tuple a=>eF a
 | _=>none
theorem Hx:∀ ks:List Int,eF (ks.map J9)=some ks
 | []=>rfl
 | k::ks=>by show(eF (ks.map J9)).bind _=_;rw [Hx ks];rfl
theorem OF(ks:List Int):gJ (sF ks)=some ks:=Hx ks
theorem Ba{K:PySem.W.Frag}{H:Hp}{k:fC}{b:JY}{ks:List Int}(h:gL K H k b):gJ (lW k)=some ks ↔ k=.inl ks:=by
 cases k with
 | inl c=>
  show gJ (sF c)=some ks ↔ _
  rw [OF];constructor
  ·intro e;cases e;rfl
  ·intro e;cases e;rfl
 | inr a=>
  obtain⟨n,_⟩:=h
  cases a with
  | nil=>exact absurd rfl n
  | cons x d=>
   constructor
   ·intro e;cases e
   ·intro e;cases e
theorem y4{K:PySem.W.Frag}{F:JY->Prop}{H:Hp}{d:D}{v:V}{c:List Int}(r:aR K F H d v)(h:gJ d=some c):∃ b,v=.ref b/\bP K H b (c.map V.int):=by
 cases r with
 | @tup a vs ds h1 r1=>
  rw [yH r1 (show eF ds=some c from h)]at h1
  exact⟨a,rfl,h1⟩
 | _=>cases h
def iY(a:List (D × D))(k:List Int):Bool:=a.any fun p=>gJ p.1 == some k
def oI(a:List (D × D))(k:List Int)(v:D):List (D × D):=if iY a k=true then a.map fun p=>if(gJ p.1 == some k)=true then(p.1,v)else p else a++[(sF k,v)]
abbrev fD:=fC × JY × V
def pT(es:List fD)(k:List Int):Bool:=es.any fun e=>decide (e.1=.inl k)
def sQ(es:List fD)(k:List Int)(b:JY)(v:V):List fD:=if pT es k=true then es.map fun e=>if e.1=.inl k then(e.1,e.2.1,v)else e else es++[(.inl k,b,v)]
theorem Db{K:PySem.W.Frag}{H:Hp}{k:fC}{b:JY}{a:List Int}(h:gL K H k b):(gJ (lW k) == some a)=decide (k=.inl a):=by
 by_cases c:k=.inl a
 ·rw [decide_eq_true c,(Ba h).mpr c,beq_self_eq_true]
 ·rw [decide_eq_false c];exact beq_eq_false_iff_ne.mpr fun e=>c ((Ba h).mp e)
section
variable {K:PySem.W.Frag}{F:JY->Prop}{H:Hp}
theorem DReps.has:∀{kvs:List (D × D)}{es:List fD} (k:List Int),DReps K F H kvs es->iY kvs k=pT es k
 | _,_,_,.nil=>rfl
 | _,_,k,.cons h r t=>by
  have:=DReps.has k t
  unfold iY pT at this ⊢;rw [JT,JT,this,Db h]
theorem DReps.append:∀{kvs kvs':List (D × D)}{es es':List fD},DReps K F H kvs es->DReps K F H kvs' es'->DReps K F H (kvs++kvs') (es++es')
 | _,_,_,_,.nil,s=>s
 | _,_,_,_,.cons h r t,s=>.cons h r (DReps.append t s)
theorem DReps.repl{k:List Int}{d:D}{v:V}(a:aR K F H d v):∀{kvs:List (D × D)}{es:List fD},DReps K F H kvs es->
  DReps K F H (kvs.map fun p=>if(gJ p.1 == some k)=true then(p.1,d)else p) (es.map fun e=>if e.1=.inl k then(e.1,e.2.1,v)else e)
 | _,_,.nil=>.nil
 | _,_,@DReps.cons _ _ _ k' b d' v' _ _ h r t=>by
  rw [Qm,Qm];by_cases c:k'=.inl k
  ·rw [if_pos (by rw [Db h,decide_eq_true c]),if_pos c];exact .cons h a (DReps.repl a t)
  ·rw [if_neg (by rw [Db h,decide_eq_false c];decide),if_neg c];exact .cons h r (DReps.repl a t)
theorem DReps.put{k:List Int}{b:JY}{d:D}{v:V}{a:List (D × D)}{es:List fD}(t:DReps K F H a es)(f:bP K H b (k.map V.int))(e:aR K F H d v):DReps K F H (oI a k d) (sQ es k b v):=by
 unfold oI sQ;rw [DReps.has k t];by_cases c:pT es k=true
 ·rw [if_pos c,if_pos c];exact DReps.repl e t
 ·rw [if_neg c,if_neg c];exact DReps.append t (.cons (k:=.inl k) f e .nil)
def mO(a:List (D × D)):Bool:=a.all fun p=>(gJ p.1).isSome
theorem DReps.flat:∀{kvs:List (D × D)}{es:List fD},DReps K F H kvs es->mO kvs=true->∀ e∈es,∃ ks,e.1=.inl ks/\bP K H e.2.1 (ks.map V.int)
 | _,_,.nil,_,e,a=>nomatch a
 | _,_,.cons h r t,f,e,a=>by
  unfold mO at f;rw [List.all_cons,QH]at f;rcases Qp.mp a with rfl | a
  ·obtain⟨ks,q⟩:=Option.isSome_iff_exists.mp f.1
   have:=(Ba h).mp q
   refine⟨ks,this,?_⟩
   dsimp only at this ⊢;subst this;exact h
  ·exact DReps.flat t f.2 e a
end
abbrev mV:=List Int × JY × YP
abbrev ER:fD->mV->Prop:=fun e x=>e.1=.inl x.1/\e.2.1=x.2.1/\RelV e.2.2 x.2.2
theorem yA(k:List Int):∀{es:List fD}{xs:List mV},Paired ER es xs->pT es k=(U0 xs k).isSome
 | _,_,.nil=>rfl
 | _,_,@Paired.cons _ _ _ e x es xs h t=>by
  have b:=yA k t;unfold pT at b ⊢;rw [JT,b];by_cases c:x.1=k
  ·have a:U0 (x::xs) k=some x.2:=by simp [U0,List.find?_cons,c]
   rw [a,decide_eq_true (by rw [h.1,c])];rfl
  ·have a:U0 (x::xs) k=U0 xs k:=by simp [U0,List.find?_cons,c]
   rw [a,decide_eq_false (by rw [h.1];intro z;cases z;exact c rfl)];rfl
theorem FF{k:List Int}{v:V}{u:YP}(a:RelV v u):∀{es:List fD}{xs:List mV},Paired ER es xs->Paired ER (es.map fun e=>if e.1=.inl k then(e.1,e.2.1,v)else e) (xs.map (putAt k u))
 | _,_,.nil=>.nil
 | _,_,@Paired.cons _ _ _ e x es xs h t=>by
  rw [Qm,Qm];refine .cons ?_ (FF a t);unfold putAt;by_cases c:x.1=k
  ·rw [if_pos c,if_pos (by rw [h.1,c])];exact⟨h.1,h.2.1,a⟩
  ·rw [if_neg c,if_neg (by rw [h.1];intro z;cases z;exact c rfl)];exact h
theorem RD{k:List Int}{b:JY}{v:V}{u:YP}(a:RelV v u){es:List fD}{xs:List mV}(t:Paired ER es xs):Paired ER (sQ es k b v) (UW xs k b u):=by
 unfold sQ UW;rw [yA k t];by_cases c:(U0 xs k).isSome=true
 ·rw [if_pos c,if_pos c];exact FF a t
 ·rw [if_neg c,if_neg c];exact Paired.snoc t ⟨rfl,rfl,a⟩
theorem Cl:∀{es:List fD}{xs:List mV},Paired ER es xs->es.map (·.1)=(xs.map (·.1)).map Sum.inl
 | _,_,.nil=>rfl
 | _,_,.cons h t=>by rw [Qm,Qm,Qm,Cl t,h.1]
theorem SF{l:List (List Int)}(h:l.Nodup):(l.map (Sum.inl:List Int->fC)).Nodup:=by
 rw [List.Nodup,Yl];exact List.Pairwise.imp (fun n e=>n (Sum.inl.inj e)) h
theorem SH{l:List (List Int)}(h:(l.map (Sum.inl:List Int->fC)).Nodup):l.Nodup:=by
 rw [List.Nodup,Yl]at h;exact List.Pairwise.imp (fun n e=>n (by rw [e])) h
abbrev dF(P:J2)(w:J5):HeapKind P w (List Int):=tupleKind (UT P w)
theorem Gq{X:Cx}{b:List (JY × Obj)}{u:L2.St}{H:Hp}{s:JZ}{a:JY}{es:List fD}{ep:Nat}(I:Inv X b u H s)(h:H a=some (cN a es ep))(f:∀ e∈es,∃ ks,e.1=.inl ks/\bP X.K H e.2.1 (ks.map V.int))(n:(es.map (·.1)).Nodup):
  (a == ZM)=false/\∃ xs:List mV,s.heap.DictOfH (dF X.prog X.w) a xs/\Paired ER es xs:=by
 obtain⟨⟨v,o,g,E,B,A,z⟩,_⟩:=(show e9 X.prog X.w H s.heap a (cN a es ep)from I.hok a _ h)
 have mk:∀{l:List fD}{r:List ZV},Paired (fun(e:fC × JY × V) (r:ZV)=>r.hash=BQ e.1/\r.key=.ref e.2.1/\RelV e.2.2 r.val) l r->(∀ e∈l,∃ ks,e.1=.inl ks/\bP X.K H e.2.1 (ks.map V.int))->
   ∃ xs:List mV,r=xs.map (UQ (dF X.prog X.w))/\Paired ER l xs/\∀ x∈xs,(dF X.prog X.w).is s.heap x.1 x.2.1:=by
  intro l r q
  induction q with
  | nil=>exact fun _=>⟨[],rfl,.nil,fun x c=>nomatch c⟩
  | @cons e r l rs h t ih=>
   intro f;obtain⟨xs,j,d,i⟩:=ih fun e y=>f e (Qf _ y);obtain⟨ks,p,F⟩:=f e Qo
   refine⟨(ks,e.2.1,r.val)::xs,?_,.cons ⟨p,rfl,h.2.2⟩ d,fun x c=>?_⟩
   ·rw [Qm,<- j];congr 1;obtain⟨N,M,J⟩:=r;obtain⟨m,k,G⟩:=h;dsimp only at m k ⊢;subst m k;rw [p];rfl
   ·rcases Qp.mp c with rfl | c
    ·exact mD I F
    ·exact i x c
 obtain⟨xs,j,d,i⟩:=mk z f
 refine⟨v,xs,⟨o,g,ep,E,B,A,j,i,?_⟩,d⟩
 rw [Cl d]at n;exact SH n
theorem Pb{P:J2}{w:J5}{H:Hp}{h:Heap}{a:JY}{es:List fD}{xs:List mV}(c:(a == ZM)=false)(d:h.DictOfH (dF P w) a xs)(r:Paired ER es xs):∃ ep,e9 P w H h a (cN a es ep):=by
 obtain⟨o,b,ep,f,j,i,g,h5,l⟩:=d;clear h5 l
 refine⟨ep,⟨c,o,b,f,j,i,?_⟩,⟨o,f⟩,fun n m ⟨c,o,b,q,p⟩ k=>⟨c,o,b,k _ q,p⟩⟩
 rw [g];clear f j i g
 induction r with
 | nil=>exact .nil
 | @cons e x es xs h t ih=>
  rw [Qm];refine .cons ⟨?_,?_,h.2.2⟩ ih
  ·rw [h.1];rfl
  ·rw [h.2.1];rfl
end DC
namespace DC
open PySem PySem.Spec PyProof.Rows L2 DL ST SL
section
variable {X:Cx}
def iX(b:Bool)(d e:D):Option D:=match e with
 | .dict a=>(gJ d).bind fun k=>if mO a=true then some (.bool (if b then !iY a k else iY a k))else none
 | e=>jE b d e
theorem xZ{b:Bool}{d r:D}{a:List (D × D)}(h:iX b d (.dict a)=some r):∃ k,gJ d=some k/\mO a=true/\r=.bool (if b then !iY a k else iY a k):=by
 obtain⟨k,e,q⟩:=aG (show((gJ d).bind fun k=>if mO a=true then some (Zr (if b then !iY a k else iY a k))else none)=some r from h);by_cases c:mO a=true
 ·rw [if_pos c]at q;cases q;exact⟨k,e,c,rfl⟩
 ·rw [if_neg c]at q;cases q
theorem Bz(B:X.A.units+65<Zc):bI X (Ze .In) (cP X.K (iX false)):=fun c s p H x y v u Q I m j G=>by
 obtain⟨F,d,e,q,z,o,R2,g,k⟩:=G
 cases R2 with
 | @dct a es kvs ep f h n l t=>
  obtain⟨i,E,fl,rfl⟩:=xZ g;obtain⟨b,rfl,M⟩:=y4 o E;cases m;cases j;obtain⟨J,O,dd,N⟩:=Gq I h (DReps.flat t fl) n;refine wpAny_in_heap (knd:=dF X.prog X.w) (k:=i) (show X.A.in1.units<Zc from by show X.A.units+1<Zc;lia) (mD I M) J dd ?_;rw [<- yA i N,<- DReps.has i t]
  exact⟨.bl _,H,I.tok _,rfl,k F H _ (aN.refl F H) (.bl _)⟩
 | exn f h n=>
  obtain⟨i,E,fl,_⟩:=xZ g;cases fl
 | tup h r=>exact tP B c s p H _ _ v u Q I m j ⟨F,d,_,q,z,o,.tup h r,g,k⟩
 | lst h r=>exact tP B c s p H _ _ v u Q I m j ⟨F,d,_,q,z,o,.lst h r,g,k⟩
 | non=>cases g
 | bl _=>cases g
 | int _=>cases g
 | str _=>cases g
theorem Vs(B:X.A.units+65<Zc):bI X (Ze .NotIn) (cP X.K (iX true)):=fun c s p H x y v u Q I m j G=>by
 obtain⟨F,d,e,q,z,o,R2,g,k⟩:=G
 cases R2 with
 | @dct a es kvs ep f h n l t=>
  obtain⟨i,E,fl,rfl⟩:=xZ g;obtain⟨b,rfl,M⟩:=y4 o E;cases m;cases j;obtain⟨J,O,dd,N⟩:=Gq I h (DReps.flat t fl) n;refine wpAny_notIn_heap (knd:=dF X.prog X.w) (k:=i) (show X.A.in1.units<Zc from by show X.A.units+1<Zc;lia) (mD I M) J dd ?_;rw [<- yA i N,<- DReps.has i t]
  exact⟨.bl _,H,I.tok _,rfl,k F H _ (aN.refl F H) (.bl _)⟩
 | exn f h n=>
  obtain⟨i,E,fl,_⟩:=xZ g;cases fl
 | tup h r=>exact IC B c s p H _ _ v u Q I m j ⟨F,d,_,q,z,o,.tup h r,g,k⟩
 | lst h r=>exact IC B c s p H _ _ v u Q I m j ⟨F,d,_,q,z,o,.lst h r,g,k⟩
 | non=>cases g
 | bl _=>cases g
 | int _=>cases g
 | str _=>cases g
end
end DC
namespace DC
open PySem PySem.Spec PyProof.Rows L2 DL ST SL
def xS:D->Option (List Int × D)
 | .tuple [k,v]=>(gJ k).bind fun a=>some (a,v)
 | _=>none
def qS:List D->Option (List (List Int × D))
 | []=>some []
 | d::r=>(xS d).bind fun p=>(qS r).bind fun a=>some (p::a)
def uP(ps:List (List Int × D)):List (D × D):=ps.foldl (fun a p=>oI a p.1 p.2) []
def A3:List D->Option D
 | [.list ds]=>if ds.length<=1000 then(qS ds).bind fun a=>some (.dict (uP a))else none
 | _=>none
structure Tr where
 k:List Int
 b:JY
 v:V
 d:D
def D3(K:PySem.W.Frag)(F:JY->Prop)(H:Hp)(x:V)(t:Tr):Prop:=∃ b,x=.ref b/\bP K H b [.ref t.b,t.v]/\bP K H t.b (t.k.map V.int)/\aR K F H t.d t.v
theorem Vx{K:PySem.W.Frag}{F:JY->Prop}{H:Hp}{d:D}{x:V}{p:List Int × D}(r:aR K F H d x)(h:xS d=some p):∃ t,p=(t.k,t.d)/\D3 K F H x t:=by
 cases r with
 | @tup a vs ds h1 r1=>
  unfold xS at h
  split at h
  ·rename_i k v e;cases e;obtain⟨j,m,h⟩:=aG h;cases h
   cases r1 with
   | cons f i=>
    cases i with
    | cons c g=>
     cases g;obtain⟨b,rfl,l⟩:=y4 f m
     exact⟨⟨j,b,_,v⟩,rfl,a,rfl,h1,l,c⟩
  ·cases h
 | _=>cases h
theorem IJ{K:PySem.W.Frag}{F:JY->Prop}{H:Hp}:∀{ds:List D}{vs:List V}{ps:List (List Int × D)},Reps K F H ds vs->qS ds=some ps->∃ ts:List Tr,ps=ts.map (fun t=>(t.k,t.d))/\Paired (D3 K F H) vs ts
 | _,_,_,.nil,h=>by cases h;exact⟨[],rfl,.nil⟩
 | _,_,_,.cons r rs,h=>by
  obtain⟨p,c,h⟩:=aG h;obtain⟨ps,b,h⟩:=aG h;cases h;obtain⟨t,rfl,q⟩:=Vx r c;obtain⟨ts,rfl,a⟩:=IJ rs b
  exact⟨t::ts,rfl,.cons q a⟩
theorem Paired.at{c d:Type}{R:c->d->Prop}:∀{l:List c}{m:List d}{i:Nat}{a:c},Paired R l m->l[i]?=some a->∃ b,m[i]?=some b/\R a b
 | _,_,_,_,.nil,e=>by simp at e
 | _,_,0,_,.cons h _,e=>by simp at e;subst e;exact⟨_,rfl,h⟩
 | _,_,i+1,_,.cons _ t,e=>by
  obtain⟨b,g,f⟩:=Paired.at t (by simpa using e)
  exact⟨b,by simpa using g,f⟩
theorem Paired.atR{d c:Type}{R:d->c->Prop}:∀{l:List d}{m:List c}{i:Nat}{b:c},Paired R l m->m[i]?=some b->∃ a,l[i]?=some a/\R a b
 | _,_,_,_,.nil,e=>by simp at e
 | _,_,0,_,.cons h _,e=>by simp at e;subst e;exact⟨_,rfl,h⟩
 | _,_,i+1,_,.cons _ t,e=>by
  obtain⟨b,g,f⟩:=Paired.atR t (by simpa using e)
  exact⟨b,by simpa using g,f⟩
theorem pick{P:Nat->YP->Prop}(n:Nat)(h:∀ i,i<n->∃ u,P i u):∃ f:Nat->YP,∀ i,i<n->P i (f i):=by
 classical
 refine⟨fun i=>if c:i<n then Classical.choose (h i c)else .none,fun i a=>?_⟩
 show P i (if c:i<n then Classical.choose (h i c)else .none)
 rw [dif_pos a];exact Classical.choose_spec (h i a)
def jY:Tr:=⟨[],0,.non,.none⟩
theorem FS{K:PySem.W.Frag}{F:JY->Prop}{H:Hp}(a:List Tr)(c:Nat->YP)(j:∀ t∈a,bP K H t.b (t.k.map V.int)/\aR K F H t.d t.v)(g:∀(i:Nat) t,a[i]?=some t->RelV t.v (c i)):
  ∀ i,i<=a.length->∃ es,DReps K F H (uP ((a.map fun t=>(t.k,t.d)).take i)) es/\Paired ER es (iE (fun i=>(a.getD i jY).k) (fun i=>(a.getD i jY).b) c i)
 | 0,_=>⟨[],.nil,.nil⟩
 | i+1,hi=>by
  obtain⟨es,o,n⟩:=FS a c j g i (by lia);have f:i<a.length:=hi
  have l:a[i]?=some a[i]:=by simp [f]
  have m:a.getD i jY=a[i]:=by simp [List.getD,f]
  have h:=j a[i] (Jd f)
  refine⟨sQ es a[i].k a[i].b a[i].v,?_,?_⟩
  ·have e:(a.map fun t=>(t.k,t.d)).take (i+1)=(a.map fun t=>(t.k,t.d)).take i++[(a[i].k,a[i].d)]:=by
    rw [List.take_succ,QF,l];rfl
   rw [e];unfold uP;rw [List.foldl_append];exact DReps.put o h.1 h.2
  ·show Paired ER _ (UW _ (a.getD i jY).k (a.getD i jY).b (c i))
   rw [m];exact RD (g i _ l) n
section
variable {X:Cx}
theorem boot_dict:Zs "dict"=some (.type "dict"):=by decide +kernel
theorem Kn{P:J2}{w:J5}(h h':Heap)(k:List Int)(b:JY)(x:(dF P w).is h k b)(e:∀ b o,h.get? b=some o->h'.get? b=some o):(dF P w).is h' k b:=TK.at x fun o a=>e b o a
theorem EJ{a:List (JY × Obj)}{b:L2.St}{H:Hp}{s:JZ}(I:Inv X a b H s):ZM<s.heap.objs.size:=by
 have h:Zd<s.heap.objs.size:=(I.mod.glob.keeps I.bk).lt;exact UN (by decide) h
def Nu(K:PySem.W.Frag):List V->Hp->VK->Prop:=fun b H Q=>∃(F:JY->Prop) (ds:List D) (ps:List (List Int × D)),(∀ a,F a->H a≠none)/\Reps K F H [.list ds] b/\ds.length<=1000/\qS ds=some ps /\
 ∀ p es ep,H p=none->DReps K F H (uP ps) es->(es.map (·.1)).Nodup->es.length<=1000->Q (.ref p) (aJ H p (cN p es ep))
theorem O0(hc:X.calm=true)(hu:X.A.units+66<Zc):fV X (.type "dict") (Nu X.K):=fun a0 s σ H xs us Q I rv zz=>by
 obtain⟨F,ds,ps,z,R,hl,e1,k⟩:=zz
 cases R with
 | cons R1 R2=>
  cases R2
  cases R1 with
  | @lst a vs _ h1 r1=>
   obtain⟨u,rfl,ru⟩:=kP rv;cases ru;obtain⟨f,n,⟨o,nl,g1,g2,g3,g4⟩,_⟩:=I.list h1.sq;obtain⟨c,rfl,p⟩:=IJ r1 e1
   have d:f.length=c.length:=by rw [<- n.length];exact Paired.length p
   have r:c.length<=1000:=by rw [<- Paired.length p,<- r1.length];exact hl
   obtain⟨m,h⟩:=pick (P:=fun i u=>∀ t,c[i]?=some t->RelV t.v u/\∀ v,f[i]?=some v->∃ b,v=.ref b/\s.heap.IsTuple b #[.ref t.b,u]) c.length fun i g=>by
    have l:c[i]?=some c[i]:=by simp [g]
    obtain⟨x,S,b,rfl,J,E,G⟩:=Paired.atR p l;obtain⟨a3,rj,O,_⟩:=I.tuple J
    cases rj with
    | @cons _ u1 _ us1 ra rb=>
     cases rb with
     | @cons _ u2 _ us2 rc rd=>
      cases rd;cases ra
      refine⟨u2,fun t j=>?_⟩
      rw [l]at j;cases j
      refine⟨rc,fun v T=>?_⟩
      obtain⟨w',ew,M⟩:=n.get S;rw [T]at ew;cases ew;cases M
      exact⟨b,rfl,O⟩
   obtain⟨oc,od,a2,N⟩:=o
   have W:s.heap.get? a=some { cls:=.type "list",dict:=none,data:=.seq f.toArray nl,slots:=N }:=by
    rw [g1];simp only at g2 g3 g4;rw [g2,g3,g4]
   refine Ge (knd:=dF X.prog X.w) (fun i=>(c.getD i jY).k) (fun i=>(c.getD i jY).b) m Kn (I.ok.hd hc) (fun B hB=>show B.units<Zc by lia) W (fun i v T=>?_) (fun i g=>?_) (by rw [QK,d];exact r) fun h' tk dd keep=>?_
   ·have q:f[i]?=some v:=by simpa using T
    have g:i<c.length:=by rw [<- d];exact(Qc.mp q).1
    have l:c[i]?=some c[i]:=by simp [g]
    have Y:c.getD i jY=c[i]:=by simp [List.getD,g]
    obtain⟨b,e,it⟩:=(h i g _ l).2 v q
    exact⟨b,e,by rw [Y];exact it⟩
   ·have y:i<c.length:=by rw [<- d];simpa using g
    have l:c[i]?=some c[i]:=by simp [y]
    have Y:c.getD i jY=c[i]:=by simp [List.getD,y]
    obtain⟨x,S,b,_,J,E,G⟩:=Paired.atR p l
    show TK X.prog X.w s.heap (c.getD i jY).k (c.getD i jY).b
    rw [Y];exact mD I E
   ·obtain⟨es,f1,Z⟩:=FS (K:=X.K) (F:=F) (H:=H) c m (fun t j=>by
     obtain⟨i,g⟩:=List.mem_iff_getElem?.mp j;obtain⟨x,S,b,_,J,E,G⟩:=Paired.atR p g
     exact⟨E,G⟩) (fun i t j=>(h i (Qc.mp j).1 t j).1) c.length (Ql _)
    rw [YR (by simp)]at f1
    have U:f.toArray.size=c.length:=by rw [QK,d]
    rw [U]at dd;have lo:(s.heap.objs.size == ZM)=false:=beq_eq_false_iff_ne.mpr (Z2 (QB (EJ I)));have hp:H s.heap.objs.size=none:=I.hok.fresh (Ql _);obtain⟨ep,oo⟩:=Pb (H:=H) lo dd Z
    refine⟨.ref s.heap.objs.size,aJ H s.heap.objs.size (cN s.heap.objs.size es ep),I.laid keep (Ql _) oo,rfl,k _ es ep hp f1 ?_ ?_⟩
    ·obtain⟨_,_,_,_,_,_,_,_,hn⟩:=dd;rw [Cl Z];exact SF hn
    ·rw [Paired.length Z];exact QL (Bn _) r
theorem PC(h:X.calm=true)(g:X.A.units+66<Zc):fV X (.type "dict") (lC X.K A3):=wD (O0 h g) fun j H Q e=>by
 obtain⟨F,s,q,z,R,a,k⟩:=e;unfold A3 at a
 split at a
 ·rename_i b;by_cases c:b.length<=1000
  ·rw [if_pos c]at a;obtain⟨f,i,a⟩:=aG a;cases a
   exact⟨F,b,f,z,R,c,i,fun p m o d r n l=>k _ _ _ (aN.frozen d) (.dct (.inr rfl) cS n l (r.stay (aN.frozen d).stay))⟩
  ·rw [if_neg c]at a;cases a
 ·cases a
end
end DC
namespace DC
open PySem PySem.Spec PyProof.Rows L2 DL ST SL EL
def eW(ga:aA->Option D):aA->Option (List D):=fun a=>(ga a).bind sW
def j8(gr:aA->Option (List D)):aA->Option (List D):=fun a=>(gr a).bind pY
def sI(gr:aA->Option (List D)):aA->Option (List D):=fun a=>(gr a).bind Dm
def uX(gr:aA->Option (List D)):aA->Option (List D):=fun a=>(gr a).bind Ck
section
variable {X:Cx}{tg e a b:Expr}{es:List Expr}{ga:aA->Option D}{gr:aA->Option (List D)}{p pos:Pos}
theorem iG(a:DE X e ga):DI X tg e (eW ga):=OL a
theorem uO(c:Gl X "range")(b:X.mg "range"=none)(d:DA X [a] gr)(hs:J0 [a] X.env=[(false,Zh a X.env)]:=by rfl):DI X tg (.Call (.Name "range" p) [a] [] pos) (j8 gr):=OK c b d hs
theorem OJ{d:List Expr}{x1}{c:Pos}(g:Gl X "zip")(f:X.mg "zip"=none)(h:DA X [a,b] gr)(hs:J0 [a,b] X.env=[(false,Zh a X.env),(false,Zh b X.env)]:=by rfl)(e:J0 [b] X.env=[(false,Zh b X.env)]:=by rfl):
  DI X (.Tuple d x1 c) (.Call (.Name "zip" p) [a,b] [] pos) (sI gr):=OM g f h hs e
theorem OI{c:List Expr}{x1}{b:Pos}(e:Gl X "enumerate")(d:X.mg "enumerate"=none)(f:DA X [a] gr)(hs:J0 [a] X.env=[(false,Zh a X.env)]:=by rfl):
  DI X (.Tuple c x1 b) (.Call (.Name "enumerate" p) [a] [] pos) (uX gr):=OH e d f hs
end
end DC
namespace DL
open PySem PySem.Spec PyProof.Rows L2
end DL
namespace DC
open PySem PySem.Spec PyProof.Rows L2 DL ST SL EL
section
variable {X:Cx}{e k v:Expr}{es:List Expr}{gr:aA->Option (List D)}{gk gv:aA->Option D}{p pos:Pos}
end
end DC
namespace DC
open PySem PySem.Spec PyProof.Rows L2 DL ST SL EL
def mU(h:Heap)(a:JY)(b:Array ZV)(ep:Nat):Prop:=(a == ZM)=false/\∃ o,h.get? a=some o/\o.ExactDict/\o.data=.dict b ep
section
variable {P:J2}{w:J5}{A:Around}{E:YP->JZ->Prop}{s:JZ}{d it:JY}{raw:Array ZV}{ep i:Nat}
theorem mU.ty(h:mU s.heap d raw ep):s.TypeIs (.ref d) "dict":=let⟨_,o,h1,h2,_⟩:=h;⟨o,h1,h2.1⟩
theorem Ri{Q:YP->JZ->Prop}(h:mU s.heap d raw ep)(f:Q (.ref s.heap.objs.size) { s with heap:=s.heap.push { cls:=.type "dict_keyiterator",data:=.fields #[.ref d,.int 0 0,.int raw.size 0,.int ep 0] } }):J1 (J3 P w) A (pyIter (.ref d)) Q E s:=by
 have a:=h.ty;obtain⟨e,o,c,g,b⟩:=h;refine wpAny_pyIter_slot a PySem.F.slot_dict_iter (Yc PySem.F.slot_dict_iter a PySem.F.entry_dict_iter ?_ (PySem.F.args_dict_iter_1 _));unfold Builtin.«dict.__iter__»;refine Qa ?_;unfold Builtin.Dict.dictSlotNone
 refine Qa (Uv a ?_);show J1 _ _ (pure (J4 d)) _ _ s;refine Qb ?_
 show J1 _ _ (Builtin.Dict.showsAll d >>= _) _ _ s;unfold Builtin.Dict.showsAll
 rw [if_neg (by rw [e];exact Qq)];refine Qa (Qb (Qa (JN c b ?_)));refine Qa (wpAny_dictEpoch c b (Qa (Yk (Qb ⟨_,rfl,"dict_keyiterator",_,⟨_,Qz _ rfl,rfl⟩,PySem.F.slot_dict_keyiterator_next.lookup,?_⟩))))
 simpa [Uy]using f
theorem Sy{Q:Option YP->JZ->Prop}(a:s.heap.IsKeyIter it d i raw.size ep)(h:mU s.heap d raw ep)(j:i<raw.size)
  (l:∀ h',h'.IsKeyIter it d (i+1) raw.size ep->Zk it s.heap h'->Q (some raw[i].key) { s with heap:=h' }):J1 (J3 P w) A (Ux (.ref it)) Q E s:=by
 obtain⟨o,e,k,c⟩:=id a;obtain⟨n,m,g,p,f⟩:=h;unfold Ux;refine Qa (UE (Yq (name:=ZR "__next__") a.typeIs PySem.F.slot_dict_keyiterator_next (Yc PySem.F.slot_dict_keyiterator_next a.typeIs PySem.F.entry_dict_keyiterator_next ?_ (PySem.F.args_dict_keyiterator_next_1 _))));refine Qa (Qb (Qa (Qa ?_)));refine Qa (Y3 a.typeIs (Qb (Qa (US e c ?_))));simp only [show Builtin.Dict_items.ownsTuple "dict_keyiterator"=false from by decide,Qj,if_false]
 show J1 _ _ (if(J4 d == Zp)=true then _ else _) _ _ s;rw [if_neg (show ¬ ((J4 d == Zp)=true)from Qq)]
 refine Qa (Qb (Qa (JN g f ?_)));rw [if_neg (by simp)];refine Qa (Qb (Qa (wpAny_dictEpoch g f ?_)));rw [if_neg (by simp)];refine Qb ?_;simp only [show ¬ ((i:Int)<0)from by lia,if_false,Y4,Qw j];refine Qa ?_;refine Qa (Y3 a.typeIs (Qb (Qa (wpAny_isOneOf_keyiter a.typeIs ?_))))
 show J1 _ _ (setField (.ref it) 1 (Uy ((i:Int)+1)) >>= _) _ _ s;refine Qa (Jw e c (by simp) ?_)
 have b:(s.heap.update it (Obj.mapFields (·.setIfInBounds 1 (Uy ((i:Int)+1))))).IsKeyIter it d (i+1) raw.size ep:=⟨_,Yh _ e (JK (YI c _)),(Ut ..).trans k,by rw [YI c];simp [Uy]⟩;refine Qa (Yg (Qa (wpAny_isOneOf_keyiter (s:={ s with heap:=s.heap.update it (Obj.mapFields (·.setIfInBounds 1 (Uy ((i:Int)+1)))) }) b.typeIs ?_)))
 show J1 _ _ (pure raw[i].key) _ _ _;exact Qb (Qb ⟨_,rfl,Qb (l _ b (Q2 ..))⟩)
theorem RA{Q:Option YP->JZ->Prop}(l:A.handled=none)(c:s.heap.IsKeyIter it d i raw.size ep)(h:mU s.heap d raw ep)(k:raw.size<=i)
  (n:∀ h',Heap.ExtBut it s.heap h'->Q none { s with heap:=h' }):J1 (J3 P w) A (Ux (.ref it)) Q E s:=by
 obtain⟨o,e,r,f⟩:=id c;obtain⟨q,p,j,t,g⟩:=h;unfold Ux;refine Qa (UE (Yq (name:=ZR "__next__") c.typeIs PySem.F.slot_dict_keyiterator_next (Yc PySem.F.slot_dict_keyiterator_next c.typeIs PySem.F.entry_dict_keyiterator_next ?_ (PySem.F.args_dict_keyiterator_next_1 _))));refine Qa (Qb (Qa (Qa ?_)));refine Qa (Y3 c.typeIs (Qb (Qa (US e f ?_))));simp only [show Builtin.Dict_items.ownsTuple "dict_keyiterator"=false from by decide,Qj,if_false]
 show J1 _ _ (if(J4 d == Zp)=true then _ else _) _ _ s;rw [if_neg (show ¬ ((J4 d == Zp)=true)from Qq)]
 refine Qa (Qb (Qa (JN j g ?_)));rw [if_neg (by simp)];refine Qa (Qb (Qa (wpAny_dictEpoch j g ?_)));rw [if_neg (by simp)];refine Qb ?_;simp only [show ¬ ((i:Int)<0)from by lia,if_false,Y4,Yt k];refine Qa ?_
 refine Qa (Y3 c.typeIs (Qb ?_));show J1 _ _ (setField (.ref it) 0 .none >>= _) _ _ s
 refine Qa (Jw e f (by simp) ?_);show J1 _ _ (newExc (.type "StopIteration") [] >>= _) _ _ _;refine Qa ?_
 simp only [newExc,newTuple];refine Qa (Yk ?_ (by size_fits));refine Qa (m:=Z0 _ _) (UI (a:=Zp) (by first | rfl | (simp only [Z0];rfl)) (Yk ?_ (by size_fits)));simp only [raiseNew];refine Qa (wpAny_handled ?_);rw [show A.in1.handled=none from l];refine Qa (Qb (wpAny_throw ?_));refine Qa (Y0 (T:="StopIteration") (b:=true) ⟨_,Qz _ rfl,rfl⟩ isSubtype_stop ?_);exact Qb (n _ (((Q2 ..).extBut.push _).push _))
end
theorem Wh{X:Cx}{b:List (JY × Obj)}{f:L2.St}{H:Hp}{s:JZ}{a:JY}{es:List fD}{ep:Nat}(I:Inv X b f H s)(h:H a=some (cN a es ep)):
  ∃ raw:Array ZV,mU s.heap a raw ep/\raw.size=es.length/\∀(i:Nat) (hi:i<raw.size) (e:fD),es[i]?=some e->raw[i].key=.ref e.2.1:=by
 obtain⟨⟨g,o,raw,m,l,k,d⟩,_⟩:=(show e9 X.prog X.w H s.heap a (cN a es ep)from I.hok a _ h)
 refine⟨raw,⟨g,o,m,l,k⟩,?_,fun i hi e j=>?_⟩
 ·have:=Paired.length d
  simpa using this.symm
 ·obtain⟨r,c,_,q,_⟩:=Paired.at d j
  have:raw.toList[i]?=some raw[i]:=by simp [hi]
  rw [this]at c;cases c;exact q
theorem Iw{K:PySem.W.Frag}{F:JY->Prop}{H:Hp}:∀{kss:List (List Int)}{bs:List JY},Paired (fun(ks:List Int) (b:JY)=>bP K H b (ks.map V.int)) kss bs->Reps K F H (kss.map fun ks=>.tuple (ks.map J9)) (bs.map V.ref)
 | _,_,.nil=>.nil
 | _,_,.cons h t=>.cons (.tup h (qG _)) (Iw t)
theorem Wk{K:PySem.W.Frag}{F:JY->Prop}{H:Hp}{k:fC}{b:JY}(h:gL K H k b):aR K F H (lW k) (.ref b):=by
 cases k with
 | inl c=>exact .tup h (qG c)
 | inr a=>obtain⟨_,bs,e,d⟩:=h;exact .tup e (Iw d)
end DC
namespace DC
open PySem PySem.Spec PyProof.Rows L2 DL ST SL EL
end DC
namespace DL
open PySem PySem.Spec PyProof.Rows L2
section
variable {X:Cx}{a b:Expr}{ga:aA->Option (List D)}{pos:Pos}
end
end DL
namespace TX
open PySem PySem.Spec PyProof.Rows L2 DL
open Builtin Builtin.Str
section
variable {X:Cx}
end
end TX
namespace TX
open PySem PySem.Spec PyProof.Rows L2 DL
open Builtin Builtin.Str
section
variable {X:Cx}{o e:Expr}{go ge:aA->Option D}{apos cpos:Pos}
end
end TX
namespace TX
open PySem PySem.Spec PyProof.Rows L2 DL ZL EL
open Builtin Builtin.Str
end TX
namespace TB
open PySem PySem.Spec PyProof.Rows L2 DL TX
section
variable {X:Cx}{e:Expr}{ga gb:aA->Option D}{p pos:Pos}
end
mutual
def Eh:D->Bool
 | .none=>true
 | .bool _=>true
 | .int _=>true
 | .str _=>true
 | .tuple a=>noLs a
 | _=>false
def noLs:List D->Bool
 | []=>true
 | d::ds=>Eh d && noLs ds
end
mutual
theorem SE{K:PySem.W.Frag}{F a:JY->Prop}{H:Hp}{d:D}{v:V}(h:aR K F H d v)(q:Eh d=true):aR K a H d v:=by
 cases h with
 | non=>exact .non
 | bl b=>exact .bl b
 | int i=>exact .int i
 | str x=>exact .str x
 | tup h r=>exact .tup h (noLs_rep r q)
 | lst h r=>cases q
 | dct f h n l r=>cases q
 | exn f h n=>cases q
theorem noLs_rep{K:PySem.W.Frag}{F a:JY->Prop}{H:Hp}{ds:List D}{vs:List V}(h:Reps K F H ds vs)(q:noLs ds=true):Reps K a H ds vs:=by
 cases h with
 | nil=>exact .nil
 | cons h r=>
  have q:=QM.mp q;exact .cons (SE h q.1) (noLs_rep r q.2)
end
section
variable {X:Cx}{e:Expr}{ga:aA->Option D}{p pos:Pos}
end
end TB
namespace TX
open PySem PySem.Spec PyProof.Rows L2 DL
open Builtin Builtin.Str
section
variable {X:Cx}
def D9:D->Bool
 | .none=>true
 | _=>false
end
end TX
namespace CL
open PySem PySem.Spec PyProof.Rows L2
section
variable {X:Cx}{N':List Str}{scope:ZX}{inner:List (Option Nat)}{x0:Str}{cl:List (Str × JY)}{C:JY}{fp:List JY}{s s4:JZ}{H:Hp}{σ:L2.St}{pins:List (JY × Obj)}
end
section
variable {X:Cx}{elt tg iter:Expr}{ifs:List Expr}{scope:ZX}{pos:Pos}{N':List Str}{inner:List (Option Nat)}{x0:Str}{wi:TI}{g:TG}{ti:TT}{te:TE}
end
end CL
namespace DL
open PySem PySem.Spec PySem.SeqAt PyProof.Rows L2 CL
section
variable {X:Cx}{elt tg iter:Expr}{ifs:List Expr}{scope:ZX}{pos:Pos}{N':List Str}{inner:List (Option Nat)}{x0:Str}{gi:aA->Option (List D)}{s:D->aA->Option aA}{t:aA->Option Bool}{ge:aA->Option D}
end
end DL
namespace CL
open PySem PySem.Spec PyProof.Rows L2
section
variable {X:Cx}{elt tg iter:Expr}{ifs:List Expr}{scope:ZX}{pos:Pos}{N':List Str}{inner:List (Option Nat)}{x0:Str}{wi:TI}{g:TG}{ti:TT}{te:TE}
end
end CL
namespace DL
open PySem PySem.Spec PySem.SeqAt PyProof.Rows L2 CL
section
variable {X:Cx}{elt tg iter:Expr}{ifs:List Expr}{scope:ZX}{pos:Pos}{N':List Str}{inner:List (Option Nat)}{x0:Str}{gi:aA->Option (List D)}{s:D->aA->Option aA}{t:aA->Option Bool}{ge:aA->Option D}
end
end DL
namespace DC
open PySem PySem.Spec PyProof.Rows L2 DL ST SL EL
section
variable {P:J2}{w:J5}{A:Around}{E:YP->JZ->Prop}{s:JZ}
end
section
variable {X:Cx}{e k v:Expr}{es:List Expr}{gr:aA->Option (List D)}{ge gk gv gd:aA->Option D}{p pos:Pos}
end
end DC
namespace DC
open PySem PySem.Spec PyProof.Rows L2 DL ST SL EL
section
variable {X:Cx}{e k v o d:Expr}{es:List Expr}{gr:aA->Option (List D)}{ga ge gk gv gd:aA->Option D}{p pos:Pos}
def N2(r:V->List V->Hp->VK->Prop)(to:TE)(t:TA):TE:=fun b H Q=>to b H fun x c=>(∃ a es ep,x=.ref a/\c a=some (cN a es ep))/\t b c fun d e=>r x d e Q
theorem Ty{to:TE}{t:TA}{name:Str}{m c:Pos}{id:String}{r:V->List V->Hp->VK->Prop}(u:Slot "dict" name id)(ty:typeOf (.builtin id)=pure (.type "method_descriptor"))(N:Aa X id r)(M:PE X o to)(T:PA X (e::es) t)
  (S:ZA o name X.env (Zh o X.env)=Zh o X.env)
  (R:((Zn c (J0 (e::es) X.env)).all (fun x => !x.1) && (Z5 c (ZG [] X.env)).all (fun x=>x.1.isSome) && decide ((e::es).length+([]:List Ud).length+(if([]:List Ud).isEmpty then 0 else 1)<30))=true)
  (O:(m.endLine == c.line)=true) (hs:J0 (e::es) X.env=(false,Zh e X.env)::J0 es X.env) (K:(Zn c (J0 es X.env)).any (·.1)=false):PE X (.Call (.Attribute o name m) (e::es) [] c) (N2 r to t):=fun b s d H Q I h=>by
 refine wpAny_Call_method_late S R O rfl (bC (M b s d H _ I h) fun v g ⟨x,n,I1,B,⟨a,f,W,U,J⟩,G⟩=>?_);subst U;cases B;obtain⟨⟨lo,i,z,l,k,g3,g4⟩,_⟩:=(show e9 X.prog X.w n g.heap a (cN a f W)from I1.hok a _ J)
 refine⟨"dict",id,PySem.F.plainAttrs_dict,u,ty,⟨i,l,k.1⟩,fun a' Y=>by cases Y;exact⟨i,l,k.2.1⟩,?_⟩
 have j:=T c b g d n _ I1 G;rw [hs]at j ⊢;exact Calls.callWith_builtin (by show(false || (Zn c (J0 es X.env)).any (·.1))=false;rw [K];rfl) (Calls.evalArgs_plain (bC j fun q y ⟨p,H2,Z,A,E⟩=>N b y d H2 (.ref a) p (.ref a) q Q Z rfl A E))
end
end DC
namespace DC
open PySem PySem.Spec PyProof.Rows L2 DL ST SL EL TB TX
def rT:D->D->Option D
 | d,.none=>some (.bool (!D9 d))
 | _,_=>none
section
variable {X:Cx}{e k v a b:Expr}{es:List Expr}{gr:aA->Option (List D)}{ga gb ge gk gv:aA->Option D}{p pos:Pos}
theorem IB:bI X (Ze .IsNot) (cP X.K rT):=qP Vp fun x y H Q b=>by
 obtain⟨F,d,e,q,z,c,R2,a,k⟩:=b;unfold rT at a
 split at a
 ·cases a;cases R2
  refine⟨rfl,?_⟩
  have e:decide (x=.non)=D9 d:=by cases c <;> rfl
  rw [e];exact k F H _ (aN.refl F H) (.bl _)
 ·cases a
end
end DC
namespace OB
open PySem PySem.Spec PyProof.Rows L2 DL
structure bT(K:PySem.W.Frag)(φ F F':JY->Prop)(H H':Hp):Prop where
 st:bN K F F' H H'
 out:∀ a o,H a=some o->¬ φ a->H' a=some o
 new:∀ a,F' a->F a ∨ H a=none
 fz:∀ a,F' a->H' a≠none
 lv:∀ a,H' a=none->H a=none
theorem bT.refl{K:PySem.W.Frag}{φ F:JY->Prop}{H:Hp}(z:∀ a,F a->H a≠none):bT K φ F F H H:=⟨bN.refl K F H,fun _ _ h _=>h,fun _ h=>.inl h,z,fun _ h=>h⟩
theorem bT.ext{K:PySem.W.Frag}{φ F b:JY->Prop}{H H':Hp}(z:∀ a,F a->H a≠none)(e:aN F b H H'):bT K φ F b H H':=
 ⟨e.stay,fun a o h _=>e.same a o h,fun a f=>(e.new a f).imp_right fun h=>h.1,e.fz z,fun _ h=>e.same.free h⟩
theorem bT.trans{K:PySem.W.Frag}{φ c F g e:JY->Prop}{H d H2:Hp}(a:bT K φ F g H d)(b:bT K c g e d H2)(s:∀ x,c x->φ x ∨ H x=none):bT K φ F e H H2:=
 ⟨a.st.trans b.st,fun x o h n=>b.out x o (a.out x o h n) (fun f=>(s x f).elim n fun z=>by rw [h]at z;cases z),
  fun x f=>(b.new x f).elim (a.new x) fun f=>.inr (a.lv x f),b.fz,fun x h=>a.lv x (b.lv x h)⟩
structure eG(K:PySem.W.Frag)(B:Type) where
 cl:B->JY
 fn:B->List Str
 At:(JY->Prop)->Hp->JY->B->(JY->Prop)->Prop
 own:∀{F:JY->Prop}{H:Hp}{p:JY}{b:B}{φ:JY->Prop},At F H p b φ->φ p/\∀ a,φ a->H a≠none/\¬ F a
 ins:∀{F:JY->Prop}{H:Hp}{p:JY}{b:B}{φ:JY->Prop},At F H p b φ->∃ dx fs,H p=some (.ins (cl b) dx fs)/\fs.map (·.1)=fn b
 keep:∀{F F':JY->Prop}{H H':Hp}{p:JY}{b:B}{φ:JY->Prop},At F H p b φ->bN K F F' H H'->(∀ a o,φ a->H a=some o->H' a=some o)->(∀ a,φ a->¬ F' a)->At F' H' p b φ
abbrev Oa:=JY × (JY->Prop)
def g9(os:List Oa)(a:JY):Prop:=∃ o,o∈os/\o.2 a
structure bZ(K:PySem.W.Frag)(os os':List Oa)(F F':JY->Prop)(H H':Hp):Prop where
 k:bT K (g9 os) F F' H H'
 ft:∀ a,g9 os' a->g9 os a ∨ H a=none
 ad:∀(j:Nat) (o:Oa),os[j]?=some o->∃ φ,os'[j]?=some (o.1,φ)
theorem bZ.refl{K:PySem.W.Frag}{os:List Oa}{F:JY->Prop}{H:Hp}(z:∀ a,F a->H a≠none):bZ K os os F F H H:=⟨bT.refl z,fun _ h=>.inl h,fun _ o h=>⟨o.2,h⟩⟩
theorem bZ.trans{K:PySem.W.Frag}{os d c:List Oa}{F i g:JY->Prop}{H e H2:Hp}(a:bZ K os d F i H e)(b:bZ K d c i g e H2):bZ K os c F g H H2:=
 ⟨a.k.trans b.k a.ft,fun x f=>(b.ft x f).elim (a.ft x) fun f=>.inr (a.k.lv x f),fun j o h=>
  let⟨_,h1⟩:=a.ad j o h
  let⟨φ2,h2⟩:=b.ad j _ h1
  ⟨φ2,h2⟩⟩
theorem bZ.ext{K:PySem.W.Frag}{os:List Oa}{F b:JY->Prop}{H H':Hp}(z:∀ a,F a->H a≠none)(e:aN F b H H'):bZ K os os F b H H':=⟨bT.ext z e,fun _ h=>.inl h,fun _ o h=>⟨o.2,h⟩⟩
section
variable {K:PySem.W.Frag}{B:Type}(k:eG K B)
structure Os(F:JY->Prop)(H:Hp)(Ω:List B)(os:List Oa):Prop where
 at_:Paired (fun b (o:Oa)=>k.At F H o.1 b o.2) Ω os
 dj:∀(i j:Nat) (o u:Oa),i≠j->os[i]?=some o->os[j]?=some u->∀ a,o.2 a->¬ u.2 a
structure SO(τ:List (Nat × Nat))(F:JY->Prop)(H H₀:Hp)(σ:L2.St)(ρ:aA)(Ω:List B)(os:List Oa):Prop where
 S:bH K F H H₀ σ ρ
 o:Os k F H Ω os
 sep:∀ a,eO σ ρ a->¬ g9 os a
 nm:∀(i:Nat) (kvs:List (List Int × List D)),ρ[i]?≠some (.ownM kvs)
 hd:∀ i j,(i,j)∈τ->∀ o,os[j]?=some o->σ[i]?=some (some (.ref o.1))
 lo:∀ a,H a=none->H₀ a=none
variable {k}
theorem tQ{d c:Type}{R:d->c->Prop}:∀{l:List d}{m:List c}{i:Nat}{b:c},Paired R l m->m[i]?=some b->∃ a,l[i]?=some a/\R a b
 | _,_,_,_,.nil,e=>by simp at e
 | _,_,0,_,.cons r _,e=>by simp at e;subst e;exact⟨_,rfl,r⟩
 | _,_,i+1,b,.cons _ t,e=>by
  obtain⟨a,g,f⟩:=tQ (i:=i) (b:=b) t (by simpa using e)
  exact⟨a,by simpa using g,f⟩
theorem jQ{c d:Type}{R:c->d->Prop}:∀{l:List c}{m:List d}{i:Nat}{a:c},Paired R l m->l[i]?=some a->∃ b,m[i]?=some b/\R a b
 | _,_,_,_,.nil,e=>by simp at e
 | _,_,0,_,.cons r _,e=>by simp at e;subst e;exact⟨_,rfl,r⟩
 | _,_,i+1,b,.cons _ t,e=>by
  obtain⟨a,g,f⟩:=jQ (i:=i) (a:=b) t (by simpa using e)
  exact⟨a,by simpa using g,f⟩
theorem BB{d c:Type}{R e:d->c->Prop}:∀{l:List d}{m:List c},Paired R l m->(∀(i:Nat) a b,m[i]?=some b->R a b->e a b)->Paired e l m
 | _,_,.nil,_=>.nil
 | _,_,.cons r t,f=>.cons (f 0 _ _ rfl r) (BB t fun i a b h q=>f (i+1) a b (by simpa using h) q)
theorem IG{d c:Type}{R e:d->c->Prop}{g:d}{b':c}:∀{l:List d}{m:List c} (j:Nat),Paired R l m->(∀(i:Nat) a b,i≠j->m[i]?=some b->R a b->e a b)->e g b'->Paired e (l.set j g) (m.set j b')
 | _,_,_,.nil,_,_=>.nil
 | _,_,0,.cons r t,f,q=>.cons q (BB t fun i a b h z=>f (i+1) a b (by lia) (by simpa using h) z)
 | _,_,j+1,.cons r t,f,q=>.cons (f 0 _ _ (by lia) rfl r) (IG j t (fun i a b n h z=>f (i+1) a b (by lia) (by simpa using h) z) q)
theorem j7{os:List Oa}{j:Nat}{o:Oa}{a:JY}(h:os[j]?=some o)(b:o.2 a):g9 os a:=⟨o,QP h,b⟩
theorem FU{os:List Oa}{a:JY}(h:g9 os a):∃(j:Nat) (o:Oa),os[j]?=some o/\o.2 a:=by
 obtain⟨o,m,c⟩:=h;obtain⟨j,b⟩:=Q0 m
 exact⟨j,o,b,c⟩
theorem Os.live{F:JY->Prop}{H:Hp}{Ω:List B}{os:List Oa}(h:Os k F H Ω os){a:JY}(f:g9 os a):H a≠none/\¬ F a:=by
 obtain⟨j,o,c,d⟩:=FU f;obtain⟨b,_,q⟩:=tQ h.at_ c
 exact(k.own q).2 a d
theorem Os.keep{F d:JY->Prop}{H c:Hp}{Ω:List B}{os:List Oa}(h:Os k F H Ω os)(T:bN K F d H c)(s:∀ a o,g9 os a->H a=some o->c a=some o)(n:∀ a,g9 os a->¬ d a):Os k d c Ω os:=
 ⟨BB h.at_ fun j b o g q=>k.keep q T (fun a u f e=>s a u (j7 g f) e) fun a f=>n a (j7 g f),h.dj⟩
theorem SO.ext{τ:List (Nat × Nat)}{F d:JY->Prop}{H c H₀:Hp}{b:L2.St}{ρ:aA}{Ω:List B}{os:List Oa}(S:SO k τ F H H₀ b ρ Ω os)(e:aN F d H c):SO k τ d c H₀ b ρ Ω os:=
 ⟨S.S.ext e,S.o.keep e.stay (fun a o _ h=>e.same a o h) (fun a f z=>by
  rcases e.new a z with z | ⟨z,_⟩
  ·exact(S.o.live f).2 z
  ·exact(S.o.live f).1 z),S.sep,S.nm,S.hd,fun a h=>S.lo a (e.same.free h)⟩
theorem bH.keep{φ F m:JY->Prop}{H t H₀:Hp}{g:L2.St}{ρ:aA}(S:bH K F H H₀ g ρ)(n:∀ a,eO g ρ a->¬ φ a)(y:∀(i:Nat) (kvs:List (List Int × List D)),ρ[i]?≠some (.ownM kvs))(q:bT K φ F m H t):bH K m t H₀ g ρ:=by
 refine⟨S.len,fun i s c=>?_,S.sep,q.fz⟩
 obtain⟨o,j,w⟩:=S.sl i s c
 refine⟨o,j,?_⟩
 have p:∀ a u,H a=some u->¬ F a->¬ m a:=fun a u h f B=>by
  rcases q.new a B with z | z
  ·exact f z
  ·rw [h]at z;cases z
 cases s with
 | no=>trivial
 | dat d=>obtain⟨v,e,r⟩:=w;exact⟨v,e,r.stay q.st⟩
 | own I=>
  obtain⟨a,x,e,b,f,k,r⟩:=w
  exact⟨a,x,e,q.out a _ b (n a (.inl ⟨i,I,c,by rw [j,e]⟩)),p a _ b f,k,r.stay q.st⟩
 | ownD kvs=>
  obtain⟨a,E,G,e,b,f,k,A,l,r⟩:=w
  exact⟨a,E,G,e,q.out a _ b (n a (.inr ⟨i,kvs,c,by rw [j,e]⟩)),p a _ b f,k,A,l,r.stay q.st⟩
 | ownM kvs=>exact absurd c (y i kvs)
theorem BA{F:JY->Prop}{H H₀:Hp}{k:L2.St}{ρ:aA}(S:bH K F H H₀ k ρ){a:JY}(h:eO k ρ a):H a≠none/\H₀ a=none/\¬ F a:=by
 rcases h with⟨i,o,d,c⟩ | ⟨i,m,d,c⟩
 ·obtain⟨b,l,j,g,f,e,_⟩:=S.own d;rw [j]at c;cases c
  exact⟨by rw [g];simp,e,f⟩
 ·obtain⟨b,l,n,j,g,f,e,_⟩:=S.ownD d;rw [j]at c;cases c
  exact⟨by rw [g];simp,e,f⟩
theorem SO.turn{τ:List (Nat × Nat)}{F E:JY->Prop}{H H' H₀:Hp}{G:L2.St}{ρ:aA}{Ω:List B}{os:List Oa}(S:SO k τ F H H₀ G ρ Ω os){j:Nat}{o:Oa}{b':B}{g:JY->Prop}(l:os[j]?=some o)(q:bT K o.2 F E H H')(s:∀ a,g a->o.2 a ∨ H a=none)
  (N:k.At E H' o.1 b' g):SO k τ E H' H₀ G ρ (Ω.set j b') (os.set j (o.1,g))/\bZ K os (os.set j (o.1,g)) F E H H':=by
 have t:j<os.length:=(Qc.mp l).1;have O:∀(i:Nat) (u:Oa),i≠j->os[i]?=some u->∀ a,u.2 a->¬ o.2 a:=fun i u n c a p z=>S.o.dj i j u o n c l a p z
 have M:∀ a,g9 (os.set j (o.1,g)) a->g9 os a ∨ H a=none:=fun a f=>by
  obtain⟨i,u,c,p⟩:=FU f;by_cases z:j=i
  ·subst z;rw [Qy t]at c;cases c
   exact(s a p).imp_left fun h=>j7 l h
  ·rw [Qr z]at c;exact .inl (j7 c p)
 refine⟨⟨bH.keep S.S (fun a h f=>S.sep a h (j7 l f)) S.nm q,⟨?_,?_⟩,fun a h f=>?_,S.nm,fun i r m u A=>?_,fun a h=>S.lo a (q.lv a h)⟩,⟨q.st,fun a u h n=>q.out a u h fun f=>n (j7 l f),q.new,q.fz,q.lv⟩,M,fun i u c=>?_⟩
 ·refine IG j S.o.at_ (fun i b u n c w=>k.keep w q.st (fun a x f e=>q.out a x e (O i u n c a f)) fun a f Q=>?_) N;have J:=(k.own w).2 a f;rcases q.new a Q with z | z
  ·exact J.2 z
  ·exact J.1 z
 ·intro i r u v n c d a p y;by_cases z:j=i
  ·subst z;rw [Qy t]at c;cases c;rw [Qr n]at d;rcases s a p with f | f
   ·exact S.o.dj j r o v n l d a f y
   ·exact(S.o.live (j7 d y)).1 f
  ·rw [Qr z]at c;by_cases I:j=r
   ·subst I;rw [Qy t]at d;cases d;rcases s a y with f | f
    ·exact S.o.dj i j u o n c l a p f
    ·exact(S.o.live (j7 c p)).1 f
   ·rw [Qr I]at d;exact S.o.dj i r u v n c d a p y
 ·rcases M a f with f | f
  ·exact S.sep a h f
  ·exact(BA S.S h).1 f
 ·by_cases z:j=r
  ·subst z;rw [Qy t]at A;cases A;exact S.hd i j m o l
  ·rw [Qr z]at A;exact S.hd i r m u A
 ·by_cases z:j=i
  ·subst z;rw [l]at c;cases c
   exact⟨g,Qy t⟩
  ·exact⟨u.2,by rw [Qr z];exact c⟩
end
end OB
namespace OB
open PySem PySem.Spec PyProof.Rows L2 DL
abbrev GX(B α:Type):=aA->List B->Option (α × List B)
section
variable {K:PySem.W.Frag}{B:Type}(k:eG K B)(τ:List (Nat × Nat))
inductive mX(g:GX B D)(σ:L2.St)(H:Hp)(Q:VK):Prop
 | mk (F:JY->Prop) (H₀:Hp) (ρ:aA) (Ω:List B) (os:List Oa) (d:D) (Ω':List B) (S:SO k τ F H H₀ σ ρ Ω os) (q:g ρ Ω=some (d,Ω')) (c:∀ F' H' v os',bZ K os os' F F' H H'->SO k τ F' H' H₀ σ ρ Ω' os'->aR K F' H' d v->Q v H'):mX g σ H Q
inductive vF(g:GX B Bool)(σ:L2.St)(H:Hp)(Q:Bool->Hp->Prop):Prop
 | mk (F:JY->Prop) (H₀:Hp) (ρ:aA) (Ω:List B) (os:List Oa) (d:Bool) (Ω':List B) (S:SO k τ F H H₀ σ ρ Ω os) (q:g ρ Ω=some (d,Ω')) (c:∀ F' H' os',bZ K os os' F F' H H'->SO k τ F' H' H₀ σ ρ Ω' os'->Q d H'):vF g σ H Q
inductive An(g:GX B (List D))(σ:L2.St)(H:Hp)(Q:List V->Hp->Prop):Prop
 | mk (F:JY->Prop) (H₀:Hp) (ρ:aA) (Ω:List B) (os:List Oa) (ds:List D) (Ω':List B) (S:SO k τ F H H₀ σ ρ Ω os) (q:g ρ Ω=some (ds,Ω')) (c:∀ F' H' vs os',bZ K os os' F F' H H'->SO k τ F' H' H₀ σ ρ Ω' os'->Reps K F' H' ds vs->Q vs H'):An g σ H Q
def zV(F:JY->Prop)(H:Hp)(p:JY):Option D->V->Prop
 | some d,v=>aR K F H d v
 | none,v=>v=.ref p
end
section
variable {X:Cx}{B:Type}(k:eG X.K B)(τ:List (Nat × Nat))
def XE(e:Expr)(g:GX B D):Prop:=PE X e (mX k τ g)
def XT(e:Expr)(g:GX B Bool):Prop:=PT X e (vF k τ g)
def XW(e:Expr)(g:GX B Bool):Prop:=PW X e (vF k τ g)
def XA(es:List Expr)(g:GX B (List D)):Prop:=PA X es (An k τ g)
end
section
variable {B α:Type}
def xP(g:aA->Option α):GX B α:=fun a b=>(g a).bind fun d=>some (d,b)
def bQ(h:D->D->Option D)(ga gb:GX B D):GX B D:=fun a b=>(ga a b).bind fun x=>(gb a x.2).bind fun y=>(h x.1 y.1).bind fun r=>some (r,y.2)
def xB(ga:GX B D):GX B Bool:=fun a c=>(ga a c).bind fun x=>(iW x.1).bind fun b=>some (b,x.2)
def oO(t u:GX B Bool):GX B Bool:=fun a b=>(t a b).bind fun x=>if x.1=true then some x else u a x.2
def v3(t:GX B Bool):GX B Bool:=fun a b=>(t a b).bind fun x=>some (!x.1,x.2)
def hY(ga gb:GX B D):GX B D:=fun a b=>(ga a b).bind fun x=>(iW x.1).bind fun c=>if c=true then gb a x.2 else some (.bool false,x.2)
def dU:GX B (List D):=fun _ a=>some ([],a)
def cI(ga:GX B D)(gr:GX B (List D)):GX B (List D):=fun a b=>(ga a b).bind fun x=>(gr a x.2).bind fun y=>some (x.1::y.1,y.2)
abbrev GM(B:Type):=List (Option D)->B->Option (D × B)
def bJ(j:Nat)(G:GM B)(gr:aA->Option (List D)):GX B D:=fun c a=>(gr c).bind fun d=>(a[j]?).bind fun b=>(G (none::d.map some) b).bind fun r=>some (r.1,a.set j r.2)
end
def cJ{K:PySem.W.Frag}{B:Type}(k:eG K B)(n:Nat)(G:GM B):Sp:=fun c H Q _=>∃(F:JY->Prop) (p:JY) (b:B) (φ:JY->Prop) (ds:List (Option D)) (r:D) (b':B),ds.length=n/\(∀ a,F a->H a≠none)/\k.At F H p b φ/\Paired (zV (K:=K) F H p) ds c/\G ds b=some (r,b') /\
 ∀ F' H' v φ',bT K φ F F' H H'->(∀ a,φ' a->φ a ∨ H a=none)->k.At F' H' p b' φ'->aR K F' H' r v->Q v H'
theorem tL{a:Type}{m:Str}:∀{fs:List (Str × a)},(fs.map (·.1)).contains m=false->fs.lookup m=none
 | [],_=>rfl
 | (x,v)::fs,h=>by
  rw [Qm,List.contains_cons,Bool.or_eq_false_iff]at h;rw [QN,h.1];exact tL h.2
theorem Bi{K:PySem.W.Frag}{F:JY->Prop}{H:Hp}{p:JY}:∀{ds:List D}{vs:List V},Reps K F H ds vs->Paired (zV (K:=K) F H p) (ds.map some) vs
 | _,_,.nil=>.nil
 | _,_,.cons h r=>.cons h (Bi r)
section
variable {X:Cx}{B:Type}{k:eG X.K B}{τ:List (Nat × Nat)}{a b c e:Expr}{es rest:List Expr}{pos p:Pos}
theorem bY{g:aA->Option D}(h:DE X e g):XE k τ e (xP g):=cY h fun o H Q i=>by
 obtain⟨F,a,b,p,j,d,f,S,q,c⟩:=i;obtain⟨r,l,q⟩:=aG q;cases q
 exact⟨F,a,b,d,S.S,l,fun n m v E R=>c n m v j (bZ.ext S.S.fz E) (S.ext E) R⟩
theorem Kg{g:aA->Option Bool}(h:DT X e g):XT k τ e (xP g):=nV h fun o H Q i=>by
 obtain⟨F,a,b,p,j,d,f,S,q,c⟩:=i;obtain⟨r,l,q⟩:=aG q;cases q
 exact⟨F,a,b,d,S.S,l,fun n m E=>c n m j (bZ.ext S.S.fz E) (S.ext E)⟩
variable {ga gb:GX B D}{t u:GX B Bool}{gr:GX B (List D)}
theorem yP{h:D->D->Option D}{f:L2.St}{H:Hp}{Q:VK}(q:mX k τ (bQ h ga gb) f H Q):oM (cP X.K h) (mX k τ ga) (mX k τ gb) f H Q:=by
 obtain⟨F,a,g,l,m,d,j,S,q,c⟩:=q;obtain⟨x,p,q⟩:=aG q;obtain⟨y,o,q⟩:=aG q;obtain⟨r,n,q⟩:=aG q;cases q
 exact⟨F,a,g,l,m,x.1,x.2,S,p,fun E I v e K1 s R1=>⟨E,a,g,x.2,e,y.1,y.2,s,o,fun B G w b K2 S2 R2=>⟨B,x.1,y.1,d,S2.S.fz,R1.stay K2.k.st,R2,n,fun A u z i t=>c A u z b ((K1.trans K2).trans (bZ.ext S2.S.fz i)) (S2.ext i) t⟩⟩⟩
theorem qC{op:CmpOp}{h:D->D->Option D}(c:bI X (Ze op) (cP X.K h))(f:XE k τ a ga)(e:XE k τ b gb)(d:Zz op b=false):XE k τ (.Compare a [op] [b] pos) (bQ h ga gb):=cY (BE c f e d) fun _ _ _ q=>yP q
theorem GZ{te:TE}{g:GX B D}(m:∀ a H Q,mX k τ g a H Q->te a H Q){a:L2.St}{H:Hp}{Q:Bool->Hp->Prop}(q:vF k τ (xB g) a H Q):CI te a H Q:=by
 obtain⟨F,b,f,i,j,d,h,S,q,c⟩:=q;obtain⟨x,n,q⟩:=aG q;obtain⟨y,l,q⟩:=aG q;cases q;exact m a H _ ⟨F,b,f,i,j,x.1,x.2,S,n,fun t s v e r o p=>⟨d,kN p l,c t s e r o⟩⟩
theorem kS{op:CmpOp}{h:D->D->Option D}(c:bI X (Ze op) (cP X.K h))(f:XE k τ a ga)(e:XE k τ b gb)(d:Zz op b=false):XT k τ (.Compare a [op] [b] pos) (xB (bQ h ga gb)):=nV (CZ c f e d) fun _ _ _ q=>GZ (fun _ _ _=>yP) q
theorem WE(l:XE k τ a ga)(he:∀ whole,isTrue a X.env whole=(do let v <- whole;standAt a.pos;UC [v] (truthy v)):=by intro _;rfl):XT k τ a (xB ga):=nV (wP l he) fun u H Q i=>by
 obtain⟨F,b,f,h,j,d,g,S,q,c⟩:=i;obtain⟨x,n,q⟩:=aG q;obtain⟨y,m,q⟩:=aG q;cases q
 exact⟨F,b,f,h,j,x.1,x.2,S,n,fun t s v e r o p=>⟨d,kN p m,c t s e r o⟩⟩
theorem Ki(b:XT k τ a t):XW k τ (.BoolOp .Or [a] pos) t:=Il b
theorem Kh(v:XT k τ a t)(s:XW k τ (.BoolOp .Or (b::rest) pos) u):XW k τ (.BoolOp .Or (a::b::rest) pos) (oO t u):=C0 (Ik v s) fun G H Q o=>by
 obtain⟨F,e,j,n,p,d,h,S,q,c⟩:=o;obtain⟨x,w,q⟩:=aG q
 refine⟨F,e,j,n,p,x.1,x.2,S,w,fun m B f K1 l=>?_⟩
 obtain⟨r,g⟩:=x
 cases r with
 | false=>simp only [Qj,if_false]at q ⊢;exact⟨m,e,j,g,f,d,h,l,q,fun E A i z y=>c E A i (K1.trans z) y⟩
 | true=>simp only [if_true]at q ⊢;cases q;exact c m B f K1 l
theorem EF(h:XW k τ a t):XT k τ a t:=PW.pt h
theorem WD(l:XT k τ a t):XT k τ (.UnaryOp .Not a pos) (v3 t):=nV (Ig l) fun s H Q i=>by
 obtain⟨F,b,f,h,j,d,g,S,q,c⟩:=i;obtain⟨x,m,q⟩:=aG q;cases q
 exact⟨F,b,f,h,j,x.1,x.2,S,m,fun r p e o n=>c r p e o n⟩
theorem Kc{op:BoolOp}(b:XE k τ a ga):XE k τ (.BoolOp op [a] pos) ga:=IP b
theorem qA(s:XE k τ a ga)(p:XE k τ (.BoolOp .And (b::rest) pos) gb):XE k τ (.BoolOp .And (a::b::rest) pos) (hY ga gb):=cY (IM s p) fun I H Q n=>by
 obtain⟨F,e,i,m,o,d,g,S,q,c⟩:=n;obtain⟨x,u,q⟩:=aG q;obtain⟨r,t,q⟩:=aG q
 refine⟨F,e,i,m,o,x.1,x.2,S,u,fun l E v f K1 j z=>⟨r,kN z t,?_⟩⟩
 cases r with
 | true=>simp only [if_true]at q ⊢;exact⟨l,e,i,x.2,f,d,g,j,q,fun G B w h A y R2=>c G B w h (K1.trans A) y R2⟩
 | false=>simp only [Qj,if_false]at q ⊢;cases q;exact c l E _ f K1 j (.bl false)
theorem jU:XA k τ [] (dU (B:=B)):=xR dC fun g H Q e=>by
 obtain⟨F,a,h,i,f,d,b,S,q,c⟩:=e;cases q;exact c F H [] f (bZ.refl S.S.fz) S .nil
theorem gP(n:XE k τ e ga)(m:XA k τ es gr)(hs:J0 (e::es) X.env=(false,Zh e X.env)::J0 es X.env:=by rfl):XA k τ (e::es) (cI ga gr):=xR (cL n m hs) fun z H Q j=>by
 obtain⟨F,a,g,i,l,d,h,S,q,c⟩:=j;obtain⟨x,p,q⟩:=aG q;obtain⟨y,o,q⟩:=aG q;cases q
 exact⟨F,a,g,i,l,x.1,x.2,S,p,fun w B v f K1 s R1=>⟨w,a,g,x.2,f,y.1,y.2,s,o,fun u t A b K2 r R2=>c u t _ b (K1.trans K2) r (.cons (R1.stay K2.k.st) R2)⟩⟩
theorem jV{i j n kk:Nat}{f:JY}{O:J6}{ps:List Str}{x m:Str}{a:Pos}{pl:Sem Bool}{G:GM B}{z:aA->Option (List D)}(mm:(i,j)∈τ){C:JY}(c:fX X.K C)(hm:kW X.K C m f)(hf:∀ os b r,G os b=some r->k.cl b=C/\(k.fn b).contains m=false)(F:aM X.prog X.w X.K X.mg X.base aO kk f O ps (cJ k (n+1) G))(hr:cM kk X.A)(hb:Binds X.K O ps [])
  (ha:DA X (e::es) z) (s:∀ ρ ds,z ρ=some ds->ds.length=n) (hN:X.N[i]?=some x:=by rfl) (hv:iB X.env.scope x:=by first | exact Zl rfl | exact Zf (Zl rfl) | exact Zf (Zf rfl)) (hd:(x == ("__debug__":Str))=false:=by decide)
  (y:(x == ("__classdict__":Str))=false:=by decide) (l:J0 (e::es) X.env=(false,Zh e X.env)::J0 es X.env:=by rfl) (hpl:(Zn pos (J0 es X.env)).any (·.1)=false:=by rfl)
  (ht:Zh (.Call (.Attribute (.Name x p) m a) (e::es) [] pos) X.env=(do
   let ov <- Zh (.Name x p) X.env
   standAt a.atName
   let(f,first) <- UC [ov] (UP ov m pl)
   callWith pos f first (Zn pos (J0 (e::es) X.env)) (Z5 pos (ZG [] X.env))):=by rfl):
  XE k τ (.Call (.Attribute (.Name x p) m a) (e::es) [] pos) (bJ j G z):=cY (qU (E:=E0) (hW hN hv hd y) c hm F hr hb .nil fP ha l hpl ht) fun σ H Q zz=>by
 obtain⟨F,g,ρ,Ω,os,d,a0,S,q,c⟩:=zz;obtain⟨h,W,q⟩:=aG q;obtain⟨b,U,q⟩:=aG q;obtain⟨r,T,q⟩:=aG q;cases q;obtain⟨o,t,at0⟩:=jQ S.o.at_ U;obtain⟨dx,fs,M,u⟩:=k.ins at0;obtain⟨ec,ef⟩:=hf _ _ _ T;rw [ec]at M
 refine⟨_,S.hd i j mm o t,o.1,dx,fs,rfl,M,tL (by rw [u];exact ef),F,g,ρ,h,S.S,W,fun F1 H1 vs Y R1=>?_⟩
 show cJ k (n+1) G (.ref o.1::(vs++[])) H1 Q E0
 rw [QR];have S1:=S.ext Y;obtain⟨b1,R,I⟩:=tQ S1.o.at_ t;rw [U]at R;cases R
 refine⟨F1,o.1,b,o.2,none::h.map some,r.1,r.2,by rw [Qt,Qi,s ρ h W],S1.S.fz,I,.cons rfl (Bi R1),T,fun F' H' v Z kp sb J R'=>?_⟩
 obtain⟨S2,K2⟩:=S1.turn t kp sb J;exact c F' H' v _ ((bZ.ext S.S.fz Y).trans K2) S2 R'
theorem i8{i j kk:Nat}{f:JY}{s:J6}{ps:List Str}{x m:Str}{a:Pos}{pl:Sem Bool}{G:GM B}(M:(i,j)∈τ){C:JY}(c:fX X.K C)(W:kW X.K C m f)(Y:∀ os b r,G os b=some r->k.cl b=C/\(k.fn b).contains m=false)(F:aM X.prog X.w X.K X.mg X.base aO kk f s ps (cJ k 1 G))(U:cM kk X.A)(hb:Binds X.K s ps [])
  (hN:X.N[i]?=some x:=by rfl) (R:iB X.env.scope x:=by first | exact Zl rfl | exact Zf (Zl rfl) | exact Zf (Zf rfl)) (Z:(x == ("__debug__":Str))=false:=by decide)
  (g:(x == ("__classdict__":Str))=false:=by decide)
  (T:Zh (.Call (.Attribute (.Name x p) m a) [] [] pos) X.env=(do
   let ov <- Zh (.Name x p) X.env
   standAt a.atName
   let(f,first) <- UC [ov] (UP ov m pl)
   callWith pos f first (Zn pos (J0 [] X.env)) (Z5 pos (ZG [] X.env))):=by rfl):
  XE k τ (.Call (.Attribute (.Name x p) m a) [] [] pos) (bJ j G aH):=cY (TF (E:=E0) (hW hN R Z g) c W F U hb .nil fP T) fun σ H Q I=>by
 obtain⟨F,u,ρ,Ω,os,d,z,S,q,c⟩:=I;obtain⟨xs,e1,q⟩:=aG q;cases e1;obtain⟨b,e2,q⟩:=aG q;obtain⟨r,t,q⟩:=aG q;cases q;obtain⟨o,n,at0⟩:=jQ S.o.at_ e2;obtain⟨dx,fs,l,e⟩:=k.ins at0;obtain⟨ec,ef⟩:=Y _ _ _ t;rw [ec]at l
 refine⟨_,S.hd i j M o n,o.1,dx,fs,rfl,l,tL (by rw [e];exact ef),?_⟩
 show cJ k 1 G [.ref o.1] H Q E0
 refine⟨F,o.1,b,o.2,[none],r.1,r.2,rfl,S.S.fz,at0,.cons rfl .nil,t,fun F' H' v y O J h R'=>?_⟩
 obtain⟨S2,K2⟩:=S.turn n O J h;exact c F' H' v _ K2 S2 R'
end
end OB
namespace OB
open PySem PySem.Spec PyProof.Rows L2 DL
inductive jW(B:Type) where
 | nx (ρ:aA) (Ω:List B)
 | rt (d:D) (Ω:List B)
abbrev GS(B:Type):=aA->List B->Option (jW B)
section
variable {X:Cx}{B:Type}(k:eG X.K B)(τ:List (Nat × Nat))
def vD(a:List Oa)(b:JY->Prop)(H₀:Hp)(F:JY->Prop)(H:Hp)(W:jC):jW B->Prop
 | .nx ρ Ω=>∀ F' H' σ os',bZ X.K a os' b F' H₀ H'->bN X.K F F' H H'->SO k τ F' H' H₀ σ ρ Ω os'->W.nx σ H'
 | .rt d Ω=>∀ F' H' v os',bZ X.K a os' b F' H₀ H'->Os k F' H' Ω os'->aR X.K F' H' d v->W.rt v H'
inductive Am(g:GS B)(W:jC)(σ:L2.St)(H:Hp):Prop
 | mk (os₀:List Oa) (F₀:JY->Prop) (H₀:Hp) (F:JY->Prop) (ρ:aA) (Ω:List B) (os:List Oa) (o:jW B) (K0:bZ X.K os₀ os F₀ F H₀ H) (S:SO k τ F H H₀ σ ρ Ω os) (q:g ρ Ω=some o) (c:vD k τ os₀ F₀ H₀ F H W o):Am g W σ H
def XS(a:Zm)(g:GS B):Prop:=PS X a (Am k τ g)
def jZ(a:List Zm)(g:GS B):Prop:=gH X a (Am k τ g)
variable {k τ}
theorem vD.from{a:List Oa}{b F g:JY->Prop}{H₀ H f:Hp}{W:jC}{o:jW B}(T:bN X.K F g H f)(c:vD k τ a b H₀ F H W o):vD k τ a b H₀ g f W o:=by
 cases o with
 | nx ρ Ω=>exact fun n m h e l i j=>c n m h e l (T.trans i) j
 | rt d Ω=>exact c
end
section
variable {B:Type}
def eL:GS B:=fun a b=>some (.nx a b)
def bM(d c:GS B):GS B:=fun a b=>(d a b).bind fun o=>match o with
 | .nx ρ' Ω'=>c ρ' Ω'
 | o=>some o
def eS(i:Nat)(g:GX B D):GS B:=fun a b=>(g a b).bind fun x=>some (.nx (a.set i (.dat x.1)) x.2)
def v5(i:Nat)(g:GX B (List D)):GS B:=fun a b=>(g a b).bind fun x=>if x.1.length<=1000 then some (.nx (a.set i (.own x.1)) x.2)else none
def p8(i:Nat)(g:GX B D):GS B:=fun a b=>match a[i]? with
 | some (.own ds)=>(g a b).bind fun x=>if ds.length<1000 then some (.nx (a.set i (.own (ds++[x.1]))) x.2)else none
 | _=>none
def mF(g:GX B D):GS B:=fun a b=>(g a b).bind fun x=>some (.nx a x.2)
def dM(g:GX B D):GS B:=fun a b=>(g a b).bind fun x=>some (.rt x.1 x.2)
def cR(t:GX B Bool)(d c:GS B):GS B:=fun a b=>(t a b).bind fun x=>if x.1=true then d a x.2 else c a x.2
def A0(i:Nat)(g:GS B):GS B:=fun a b=>g (FY i a) b
def n3(i:Nat)(g:GS B):List D->GS B
 | [],ρ,Ω=>some (.nx ρ Ω)
 | d::ds,ρ,Ω=>(g (ρ.set i (.dat d)) Ω).bind fun o=>match o with
  | .nx ρ' Ω'=>n3 i g ds ρ' Ω'
  | o=>some o
def p9(gi:aA->Option (List D))(i:Nat)(g:GS B):GS B:=fun a b=>(gi a).bind fun c=>n3 i g c a b
end
theorem L7{K:PySem.W.Frag}{F:JY->Prop}{H H₀:Hp}{J:L2.St}{ρ:List Sl}(S:bH K F H H₀ J ρ){i:Nat}{ds:List D}(R:ρ[i]?=some (.own ds)):
  ∃ a,J[i]?=some (some (.ref a))/\H₀ a=none/\bH K (fun b=>F b ∨ b=a) H H₀ J (ρ.set i (.dat (.list ds))):=by
 obtain⟨a,vs,M,A,nf,h0,r⟩:=S.own R;have T:bN K F (fun b=>F b ∨ b=a) H H:=⟨fun _ h=>.inl h,fun _ _ h=>h,fun _ _ _ h=>h,fun _ _ _ h=>h⟩;have O:i<ρ.length:=(Qc.mp R).1
 refine⟨a,M,h0,by simp [S.len],fun j s h=>?_,fun j k b y es Q I G h3=>?_,fun b f=>f.elim (S.fz b) fun z=>by subst z;rw [A];simp⟩
 ·by_cases t:i=j
  ·subst t;rw [Qy O]at h;cases h
   exact⟨_,M,.ref a,rfl,.lst (.inl ⟨.inr rfl,.inl A⟩) (r.stay T)⟩
  ·rw [Qr t]at h;obtain⟨o,q,w⟩:=S.sl j s h
   refine⟨o,q,?_⟩
   cases s with
   | no=>trivial
   | ownM N=>
    obtain⟨b,x,U,p,m⟩:=w
    refine⟨b,x,U,p,m.to T fun c φ X g=>⟨X,fun f=>?_⟩⟩
    rcases f with f | f
    ·exact g f
    ·subst f;rw [X]at A;cases A
   | ownD N=>
    obtain⟨b,x,U,p,E,g,u,n,l,B⟩:=w
    refine⟨b,x,U,p,E,fun f=>?_,u,n,l,B.stay T⟩
    rcases f with f | f
    ·exact g f
    ·subst f;rw [E]at A;cases A
   | dat d=>obtain⟨v,p,B⟩:=w;exact⟨v,p,B.stay T⟩
   | own y=>
    obtain⟨b,Y,p,E,g,u,B⟩:=w
    refine⟨b,Y,p,E,fun f=>?_,u,B.stay T⟩
    rcases f with f | f
    ·exact g f
    ·subst f;exact S.sep i j b ds y t R h M (by rw [q,p])
 ·have nj:i≠j:=by intro e;subst e;rw [Qy O]at I;cases I
  have Z:i≠k:=by intro e;subst e;rw [Qy O]at G;cases G
  rw [Qr nj]at I;rw [Qr Z]at G;exact S.sep j k b y es Q I G h3
theorem IF{e:L2.St}{ρ:aA}{i:Nat}{o:Option V}{s:Sl}(hs:∀ ds,s≠.own ds)(d:∀ ds,s≠.ownD ds){a:JY}(h:eO (e.set i o) (ρ.set i s) a):eO e ρ a:=by
 rcases h with⟨j,ds,b,c⟩ | ⟨j,ds,b,c⟩
 ·by_cases z:i=j
  ·subst z;rw [YB]at b;rw [if_pos rfl]at b
   split at b
   ·exact absurd (QC b) (hs ds)
   ·cases b
  ·rw [Qr z]at b c;exact .inl ⟨j,ds,b,c⟩
 ·by_cases z:i=j
  ·subst z;rw [YB]at b;rw [if_pos rfl]at b
   split at b
   ·exact absurd (QC b) (d ds)
   ·cases b
  ·rw [Qr z]at b c;exact .inr ⟨j,ds,b,c⟩
theorem tO{ρ:aA}{i:Nat}{s:Sl}(hs:∀ kvs,s≠.ownM kvs)(h:∀(i:Nat) (kvs:List (List Int × List D)),ρ[i]?≠some (.ownM kvs)):∀(j:Nat) (kvs:List (List Int × List D)),(ρ.set i s)[j]?≠some (.ownM kvs):=fun j kvs q=>by
 rw [YB]at q
 split at q
 ·split at q
  ·exact hs kvs (QC q)
  ·cases q
 ·exact h j kvs q
section
variable {K:PySem.W.Frag}{B:Type}{k:eG K B}{τ:List (Nat × Nat)}{F:JY->Prop}{H H₀:Hp}{σ:L2.St}{ρ:aA}{Ω:List B}{os:List Oa}
theorem SO.put(S:SO k τ F H H₀ σ ρ Ω os){i:Nat}{d:D}{v:V}(e:∀ ij,ij∈τ->ij.1≠i)(R:aR K F H d v):SO k τ F H H₀ (σ.set i (some v)) (ρ.set i (.dat d)) Ω os:=
 ⟨S.S.put R,S.o,fun a h=>S.sep a (IF (by intro _ z;cases z) (by intro _ z;cases z) h),tO (by intro _ z;cases z) S.nm,fun b j m o c=>by
  rw [Qr (Z2 (e _ m))]
  exact S.hd b j m o c,S.lo⟩
theorem SO.putOwn(S:SO k τ F H H₀ σ ρ Ω os){i:Nat}{ds:List D}{vs:List V}{p:JY}(q:∀ ij,ij∈τ->ij.1≠i)(d:H p=none)(r:Reps K F H ds vs):SO k τ F (aJ H p (.lst vs)) H₀ (σ.set i (some (.ref p))) (ρ.set i (.own ds)) Ω os:=by
 have S1:=S.ext (aN.fresh (o:=.lst vs) d)
 refine⟨S.S.putOwn d (S.lo p d) r,S1.o,fun a h f=>?_,tO (by intro _ z;cases z) S.nm,fun l j m o n=>?_,S1.lo⟩
 ·rcases h with⟨j,e,b,c⟩ | ⟨j,e,b,c⟩
  ·by_cases z:i=j
   ·subst z
    have g:i<ρ.length:=by
     have:=(Qc.mp b).1
     rwa [List.length_set]at this
    rw [Qy (by rw [S.S.len];exact g)]at c;cases c
    exact(S.o.live f).1 d
   ·rw [Qr z]at b c;exact S.sep a (.inl ⟨j,e,b,c⟩) f
  ·by_cases z:i=j
   ·subst z;rw [YB,if_pos rfl]at b
    split at b <;> cases b
   ·rw [Qr z]at b c;exact S.sep a (.inr ⟨j,e,b,c⟩) f
 ·rw [Qr (Z2 (q _ m))];exact S.hd l j m o n
theorem SO.app(S:SO k τ F H H₀ σ ρ Ω os){i:Nat}{ds es:List D}{vs us:List V}{p:JY}(g:ρ[i]?=some (.own ds))(hs:σ[i]?=some (some (.ref p)))(n:H p=some (.lst vs))(r:Reps K F H es us):
  SO k τ F (aJ H p (.lst us)) H₀ σ (ρ.set i (.own es)) Ω os/\bN K F F H (aJ H p (.lst us)):=by
 have e:eO σ ρ p:=.inl ⟨i,ds,g,hs⟩;have m:=BA S.S e;obtain⟨q,T⟩:=S.S.turn g hs n m.2.2 r;have l:∀ a,g9 os a->a≠p:=fun a f z=>S.sep p e (z ▸ f)
 refine⟨⟨q,S.o.keep T (fun a u f h=>by rw [aZ (l a f)];exact h) (fun a f=>(S.o.live f).2),fun a h=>?_,tO (by intro _ z;cases z) S.nm,S.hd,fun a h=>S.lo a ?_⟩,T⟩
 ·rcases h with⟨j,c,b,d⟩ | ⟨j,c,b,d⟩
  ·by_cases z:i=j
   ·subst z;rw [hs]at d;cases d;exact S.sep p e
   ·rw [Qr z]at b;exact S.sep a (.inl ⟨j,c,b,d⟩)
  ·by_cases z:i=j
   ·subst z;rw [YB,if_pos rfl]at b
    split at b <;> cases b
   ·rw [Qr z]at b;exact S.sep a (.inr ⟨j,c,b,d⟩)
 ·by_cases z:a=p
  ·subst z;rw [cS]at h;cases h
  ·rwa [aZ z]at h
end
section
variable {X:Cx}{B:Type}{k:eG X.K B}{τ:List (Nat × Nat)}{a b c e iter:Expr}{es:List Expr}{st:Zm}{rest body orelse:List Zm}{g g1 g2:GS B}{ga:GX B D}{t:GX B Bool}{gr:GX B (List D)}{pos p:Pos}
theorem kR:jZ k τ [] (eL (B:=B)):=tU Ie fun W e H f=>by
 obtain⟨a,d,b,F,i,j,g,o,h,S,q,c⟩:=f;cases q;exact c F H e g h (bN.refl _ F H) S
theorem dB(p:XS k τ st g1)(n:jZ k τ rest g2):jZ k τ (st::rest) (bM g1 g2):=tU (jS p n) fun W x H l=>by
 obtain⟨a,e,b,F,i,j,m,o,u,S,q,c⟩:=l;obtain⟨g,r,q⟩:=aG q
 refine⟨a,e,b,F,i,j,m,g,u,S,r,?_⟩
 cases g with
 | nx ρ' Ω'=>exact fun w y h f v s t=>⟨a,e,b,w,ρ',Ω',f,o,v,t,q,c.from s⟩
 | rt d Ω'=>cases q;exact c
theorem dZ(a:XS k τ st g):jZ k τ [st] g:=kM a
theorem kQ{i:Nat}{x:Str}{a:Pos}(w:X.N.Nodup)(r:∀ ij,ij∈τ->ij.1≠i)(u:XE k τ e ga)(s:X.N[i]?=some x:=by rfl)(p:Loc X.env.scope x:=by first | exact Zl rfl | exact Zf rfl)(hs:Zw e (some (.Name x a)) pos.line X.env=pure false:=by rfl)(t:X.fn x=true ∨ X.env.scope.names.lookup x=some .local:=by first | exact .inl rfl | exact .inr rfl | assumption):
  XS k τ (.Assign [.Name x a] e pos) (eS i ga):=ps_mono (l7 w s p u hs t) fun W E H m=>by
 obtain⟨f,h,b,F,j,l,n,o,K0,S,q,c⟩:=m;obtain⟨d,y,q⟩:=aG q;cases q
 exact⟨F,b,j,l,n,d.1,d.2,S,y,fun B A v g K' S' z=>c B A _ g (K0.trans K') K'.k.st (S'.put r z)⟩
theorem W5{i:Nat}{x:Str}{d a:Pos}(z:X.N.Nodup)(u:∀ ij,ij∈τ->ij.1≠i)(y:XA k τ es gr)(v:X.N[i]?=some x:=by rfl)(t:Loc X.env.scope x:=by first | exact Zl rfl | exact Zf rfl)(hs:Zw (.List es a) (some (.Name x d)) pos.line X.env=pure false:=by rfl)(w:X.fn x=true ∨ X.env.scope.names.lookup x=some .local:=by first | exact .inl rfl | exact .inr rfl | assumption):
  XS k τ (.Assign [.Name x d] (.List es a) pos) (v5 i gr):=ps_mono (l7 z v t (qT y) hs w) fun W E H r=>by
 obtain⟨f,m,e,F,n,p,os,o,K0,S,q,c⟩:=r;obtain⟨h,A,q⟩:=aG q;by_cases g:h.1.length<=1000
 ·rw [if_pos g]at q;cases q
  refine⟨F,e,n,p,os,h.1,h.2,S,A,fun j B s b K' S' R'=>⟨gD (by rw [<- R'.length];exact g),fun G l=>?_⟩⟩
  have K2:bZ X.K b b j j B _:=bZ.ext (os:=b) S'.S.fz (aN.fresh (o:=.lst s) l);exact c j _ _ b (K0.trans (K'.trans K2)) (K'.k.st.trans K2.k.st) (S'.putOwn u l R')
 ·rw [if_neg g]at q;cases q
theorem yX(n:XE k τ e ga)(hs:Zw e none pos.line X.env=pure false:=by rfl):XS k τ (.Expr e pos) (mF ga):=ps_mono (kL n hs) fun W h H l=>by
 obtain⟨b,g,a,F,i,j,m,o,K0,S,q,c⟩:=l;obtain⟨d,p,q⟩:=aG q;cases q
 exact⟨F,a,i,j,m,d.1,d.2,S,p,fun t s v f K' r u=>c t s h f (K0.trans K') K'.k.st r⟩
theorem iS(m:XE k τ e ga):XS k τ (.Return (some e) pos) (dM ga):=ps_mono (qV m) fun W u H j=>by
 obtain⟨b,g,a,F,h,i,l,o,K0,S,q,c⟩:=j;obtain⟨d,n,q⟩:=aG q;cases q
 exact⟨F,a,h,i,l,d.1,d.2,S,n,fun t s v f r S' p=>c t s v f (K0.trans r) S'.o p⟩
theorem i9(n:XT k τ c t)(s:jZ k τ body g1)(p:jZ k τ orelse g2):XS k τ (.If c body orelse pos) (cR t g1 g2):=ps_mono (Id n s p) fun W v H l=>by
 obtain⟨a,d,b,F,g,j,m,o,K0,S,q,c⟩:=l;obtain⟨r,u,q⟩:=aG q;obtain⟨r,e⟩:=r
 refine⟨F,b,g,j,m,r,e,S,u,fun i w f K' h=>?_⟩
 cases r with
 | true=>simp only [if_true]at q ⊢;exact⟨a,d,b,i,g,e,f,o,K0.trans K',h,q,c.from K'.k.st⟩
 | false=>simp only [Qj,if_false]at q ⊢;exact⟨a,d,b,i,g,e,f,o,K0.trans K',h,q,c.from K'.k.st⟩
theorem W3{i:Nat}{x:Str}{f b:Pos}(ha:XE k τ e ga)(hN:X.N[i]?=some x:=by rfl)(hv:iB X.env.scope x:=by first | exact Zl rfl | exact Zf (Zl rfl) | exact Zf (Zf rfl))(hd:(x == ("__debug__":Str))=false:=by decide)
  (G:(x == ("__classdict__":Str))=false:=by decide) (s:J0 [e] X.env=(false,Zh e X.env)::J0 [] X.env:=by rfl)
  (m:ZA (.Name x p) "append" X.env (Zh (.Name x p) X.env)=Zh (.Name x p) X.env:=by rfl)
  (t:((Zn b (J0 [e] X.env)).all (fun x => !x.1) && (Z5 b (ZG [] X.env)).all (fun x=>x.1.isSome)
   && decide ([e].length+([]:List Ud).length+(if([]:List Ud).isEmpty then 0 else 1)<30))=true:=by rfl)
  (j:(f.endLine == b.line)=true:=by rfl) (g:(Zn b (J0 [] X.env)).any (·.1)=false:=by rfl) (E:Zw (.Call (.Attribute (.Name x p) "append" f) [e] [] b) none pos.line X.env=pure false:=by rfl):
  XS k τ (.Expr (.Call (.Attribute (.Name x p) "append" f) [e] [] b) pos) (p8 i ga):=
 ps_mono (kL (xU PySem.F.plainAttrs_list PySem.F.slot_list_append PySem.F.type_list_append xL (hW hN hv hd G) (cL ha dC s) m t j s g) E) fun W U H zz=>by
 obtain⟨A,R,w,F,Y,Z,os,o,K0,S,q,c⟩:=zz;unfold p8 at q
 split at q
 ·rename_i ds I;obtain⟨d,e1,q⟩:=aG q;by_cases J:ds.length<1000
  ·rw [if_pos J]at q;cases q;obtain⟨l,vs,y,q2,q3,q4,q5⟩:=S.S.own I
   refine⟨_,y,.inl ⟨rfl,_,cD.of q2⟩,F,w,Y,Z,os,d.1,d.2,S,e1,fun F' Q v B K' S' R'=>?_⟩
   obtain⟨l',r,O,M,g3,g4,K⟩:=S'.S.own I;rw [y]at O;cases O
   refine⟨l,r,v,rfl,rfl,M,tZ (by rw [<- K.length];lia),?_⟩
   obtain⟨S2,T⟩:=S'.app I y M (K.append (.cons R' .nil));have K1:=K0.trans K';have nz:∀ a,a≠l->aJ Q l (.lst (r++[v])) a=Q a:=fun a h=>aZ h;refine c F' _ U B ⟨⟨K1.k.st.trans T,fun a u h n=>?_,K1.k.new,S2.S.fz,fun a h=>?_⟩,K1.ft,K1.ad⟩ (K'.k.st.trans T) S2
   ·have:a≠l:=fun z=>by rw [z,q4]at h;cases h
    rw [aZ this];exact K1.k.out a u h n
   ·by_cases z:a=l
    ·subst z;rw [cS]at h;cases h
    ·rw [aZ z]at h;exact K1.k.lv a h
  ·rw [if_neg J]at q;cases q
 ·cases q
theorem W8(i:Nat)(h:jZ k τ rest g):jZ k τ rest (A0 i g):=tU h fun W I H v=>by
 obtain⟨e,m,l,F,u,s,r,o,K0,S,q,c⟩:=v;unfold A0 FY at q
 split at q
 ·rename_i G t;obtain⟨a,w,B,S'⟩:=L7 S.S t;have E:∀ x,(F x ∨ x=a)->H x≠none:=S'.fz;have y:¬ g9 r a:=S.sep a (.inl ⟨i,G,t,w⟩);have T:bN X.K F (fun b=>F b ∨ b=a) H H:=⟨fun _ f=>.inl f,fun _ _ f=>f,fun _ _ _ f=>f,fun _ _ _ f=>f⟩
  refine⟨e,m,l,_,_,s,r,o,⟨⟨K0.k.st.trans T,K0.k.out,fun x f=>f.elim (K0.k.new x) fun z=>.inr (z ▸ B),E,K0.k.lv⟩,K0.ft,K0.ad⟩,⟨S',S.o.keep T (fun _ _ _ h=>h) (fun x f z=>z.elim (S.o.live f).2 fun z=>y (z ▸ f)),fun x A=>S.sep x ?_,tO (by intro _ z;cases z) S.nm,S.hd,S.lo⟩,q,c.from T⟩
  rcases A with⟨j,p,d,n⟩ | ⟨j,p,d,n⟩
  ·by_cases z:i=j
   ·subst z;rw [YB,if_pos rfl]at d
    split at d <;> cases d
   ·rw [Qr z]at d;exact .inl ⟨j,p,d,n⟩
  ·by_cases z:i=j
   ·subst z;rw [YB,if_pos rfl]at d
    split at d <;> cases d
   ·rw [Qr z]at d;exact .inr ⟨j,p,d,n⟩
 ·exact⟨e,m,l,F,u,s,r,o,K0,S,q,c⟩
end
end OB
namespace OB
open PySem PySem.Spec PyProof.Rows L2 DL
structure FX{K:PySem.W.Frag}{B:Type}(k:eG K B)(τ:List (Nat × Nat))(i:Nat)(g:GS B)(xs:List D)(o:jW B)(os₀:List Oa)(F₀ F F1:JY->Prop)(H₀ H H1:Hp)(n:Nat)(σ2:L2.St)(H2:Hp)(F2:JY->Prop)(ρ2:aA)(Ω2:List B)(os2:List Oa):Prop where
 K0:bZ K os₀ os2 F₀ F2 H₀ H2
 T0:bN K F F2 H H2
 T1:bN K F1 F2 H1 H2
 S:SO k τ F2 H2 H₀ σ2 ρ2 Ω2 os2
 q:n3 i g (xs.drop n) ρ2 Ω2=some o
section
variable {X:Cx}{B:Type}{k:eG X.K B}{τ:List (Nat × Nat)}{iter e:Expr}{es:List Expr}{body:List Zm}{g:GS B}{pos p tp pos':Pos}
theorem CP{gi:aA->Option (List D)}{i:Nat}{x:Str}(hp:PassesOwn (J3 X.prog X.w) X.A X.env X.xe)(hc:X.calm=true)(hN:X.N.Nodup)(ht:∀ ij,ij∈τ->ij.1≠i)(hi:DI X (.Name x tp) iter gi)(hb:jZ k τ body g)
  (O:X.N[i]?=some x:=by rfl) (hx:Loc X.env.scope x:=by first | exact Zl rfl | exact Zf rfl) (hf:X.fn x=true ∨ X.env.scope.names.lookup x=some .local:=by first | exact .inl rfl | exact .inr rfl | assumption)
  (hs:∀ x,ZD iter X.env x=pure x:=by intro _;rfl):XS k τ (.For (.Name x tp) iter body [] pos) (p9 gi i g):=
 ps_mono (Ic hp hc hi (IV hN O hx hf) hb hs) fun W σ H zz=>by
  obtain⟨a,f,b,F,R,Ω,os,o,K0,S,q,c⟩:=zz;obtain⟨e,e1,q⟩:=aG q
  refine⟨F,b,R,e,S.S,e1,fun Q Z J E1 I1=>?_⟩
  refine⟨fun n m p B=>m=e.length-n/\n<=e.length/\∃ E r s j,FX k τ i g e o a f F Q b H Z n p B E r s j,
   ⟨e.length,rfl,Q9 _,Q,R,Ω,os,K0.trans (bZ.ext S.S.fz E1),E1.stay,bN.refl _ _ _,S.ext E1,q⟩,?_⟩
  rintro n m p B ⟨rfl,a2,E,r,s,j,K2,T0,T1,S2,t⟩;obtain⟨M,K⟩:=I1 E B T1 S2.S.fz n;by_cases l:n<e.length
  ·right
   have v:e[n]?=some e[n]:=by simp [l]
   obtain⟨go,G⟩:=M _ v;rw [Yn l]at t;obtain⟨T,e4,t⟩:=aG t
   refine⟨go,fun u Y=>∃ F4 ρ4 Ω4 os4,FX k τ i g e o a f F Q b H Z (n+1) u Y F4 ρ4 Ω4 os4,fun u Y h=>⟨e.length-(n+1),by lia,rfl,l,h⟩,fun x H3 y=>?_⟩
   obtain⟨F3,E3,R3⟩:=G x H3 y;have TT0:=T0.trans E3.stay;have TT1:=T1.trans E3.stay
   refine⟨a,f,b,F3,r.set i (.dat e[n]),s,j,T,K2.trans (bZ.ext S2.S.fz E3),(S2.ext E3).put ht R3,e4,?_⟩
   cases T with
   | nx ρ6 Ω6=>exact fun F6 H6 a0 I K6 U S6=>⟨F6,ρ6,Ω6,I,K6,TT0.trans U,TT1.trans U,S6,t⟩
   | rt d Ω6=>cases t;exact c
  ·left
   have z:e.length<=n:=YW l
   refine⟨K z,?_⟩
   rw [Jb z]at t;cases t;exact c E B p j K2 T0 S2
end
theorem Nn{K:PySem.W.Frag}{F:JY->Prop}{H H₀:Hp}{g:L2.St}{ρ:List Sl}(S:bH K F H H₀ g ρ){i:Nat}{o:Option V}:bH K F H H₀ (g.set i o) (ρ.set i .no):=by
 refine⟨by simp [S.len],fun j s h=>?_,fun j k a u t f d c m=>?_,S.fz⟩
 ·by_cases b:i=j
  ·subst b
   have l:i<ρ.length:=by
    have:=Qc.mp h
    simpa using this.1
   rw [Qy l]at h;cases h
   exact⟨o,by rw [Qy (by rw [S.len];exact l)],trivial⟩
  ·rw [Qr b]at h;obtain⟨n,q,w⟩:=S.sl j s h
   exact⟨n,by rw [Qr b];exact q,w⟩
 ·have r:i≠j:=by
   intro e;subst e;rw [YB,if_pos rfl]at d
   split at d <;> cases d
  have p:i≠k:=by
   intro e;subst e;rw [YB,if_pos rfl]at c
   split at c <;> cases c
  rw [Qr r]at d m;rw [Qr p]at c ⊢;exact S.sep j k a u t f d c m
theorem tS{b a:Type}{R:b->a->Prop}:∀{l:List b}{m:List a},Paired R l m->l.length=m.length
 | _,_,.nil=>rfl
 | _,_,.cons _ t=>by rw [Qt,Qt,tS t]
section
variable {K:PySem.W.Frag}{B:Type}{k:eG K B}{τ:List (Nat × Nat)}{F F':JY->Prop}{H H' H₀:Hp}{σ:L2.St}{ρ:aA}{Ω:List B}{os:List Oa}
theorem SO.more(S:SO k τ F H H₀ σ ρ Ω os){i:Nat}{x:JY}{b:B}{φ:JY->Prop}(r:∀ ij,ij∈τ->(ij.1=i ↔ ij.2=Ω.length))(E:i<ρ.length)(q:bT K (fun _=>False) F F' H H')(p:k.At F' H' x b φ)(fr:∀ a,φ a->H a=none):
  SO k τ F' H' H₀ (σ.set i (some (.ref x))) (ρ.set i .no) (Ω++[b]) (os++[(x,φ)])/\bZ K os (os++[(x,φ)]) F F' H H':=by
 have A:=tS S.o.at_
 have s:∀ a,g9 (os++[(x,φ)]) a->g9 os a ∨ H a=none:=fun a t=>by
  obtain⟨o,m,h⟩:=t;rcases QD.mp m with m | m
  ·exact .inl ⟨o,m,h⟩
  ·rw [QJ.mp m]at h;exact .inr (fr a h)
 have J:bH K F' H' H₀ σ ρ:=bH.keep S.S (fun a _ f=>f) S.nm q
 have y:Os k F' H' Ω os:=S.o.keep q.st (fun a u _ h=>q.out a u h id) (fun a f I=>by
  rcases q.new a I with z | z
  ·exact(S.o.live f).2 z
  ·exact(S.o.live f).1 z)
 have e:∀(j:Nat) (u:Oa),(os++[(x,φ)])[j]?=some u->os[j]?=some u ∨ j=os.length/\u=(x,φ):=fun j u h=>by
  by_cases z:j<os.length
  ·rw [QQ z]at h;exact .inl h
  ·rw [QI (YW z)]at h
   have:j-os.length=0:=by
    cases w:j-os.length with
    | zero=>rfl
    | succ n=>rw [w]at h;simp at h
   rw [this]at h;exact .inr ⟨by lia,(QC h).symm⟩
 refine⟨⟨Nn J,⟨y.at_.snoc p,fun i' j u v n c d a l g=>?_⟩,fun a h f=>?_,tO (by intro _ z;cases z) S.nm,fun i' j m u c=>?_,fun a h=>S.lo a (q.lv a h)⟩,⟨q.st,fun a u h n=>q.out a u h id,q.new,q.fz,q.lv⟩,s,fun j u h=>⟨u.2,by rw [QQ (Qc.mp h).1];exact h⟩⟩
 ·rcases e i' u c with c | ⟨c,rfl⟩
  ·rcases e j v d with d | ⟨d,rfl⟩
   ·exact S.o.dj i' j u v n c d a l g
   ·exact(S.o.live (j7 c l)).1 (fr a g)
  ·rcases e j v d with d | ⟨d,rfl⟩
   ·exact(S.o.live (j7 d g)).1 (fr a l)
   ·lia
 ·have h:=IF (by intro _ z;cases z) (by intro _ z;cases z) h;rcases s a f with f | f
  ·exact S.sep a h f
  ·exact(BA S.S h).1 f
 ·rcases e j u c with c | ⟨G,rfl⟩
  ·have:i≠i':=fun z=>by
    have:=((r _ m).mp z.symm)
    have:=(Qc.mp c).1
    lia
   rw [Qr this];exact S.hd i' j m u c
  ·have z:i'=i:=(r _ m).mpr (by rw [A];exact G);rw [z,Qy (by rw [S.S.len];exact E)]
end
section
variable {B:Type}
def v4(i n:Nat)(G:List D->Option B)(gr:aA->Option (List D)):GS B:=fun a c=>(gr a).bind fun d=>(G d).bind fun b=>if c.length=n/\i<a.length then some (.nx (a.set i .no) (c++[b]))else none
end
def lE{K:PySem.W.Frag}{B:Type}(k:eG K B)(C:JY)(n:Nat)(G:List D->Option B):Sp:=fun c H Q _=>∃(F:JY->Prop) (x dx:JY) (us:List V) (ds:List D) (b:B),c=.ref x::us/\ds.length=n/\(∀ a,F a->H a≠none)/\H x=some (.ins C dx [])/\¬ F x/\Reps K F H ds us/\G ds=some b /\
 ∀ F' H' φ',bT K (fun a=>a=x) F F' H H'->(∀ a,φ' a->a=x ∨ H a=none)->k.At F' H' x b φ'->Q .non H'
section
variable {X:Cx}{B:Type}{k:eG X.K B}{τ:List (Nat × Nat)}{e:Expr}{es:List Expr}{pos p tp pos':Pos}
theorem Kf{i n m kk:Nat}{f:JY}{U:J6}{ps:List Str}{x y:Str}{G:List D->Option B}{gr:aA->Option (List D)}(hN:X.N.Nodup)(ht:∀ ij,ij∈τ->(ij.1=i ↔ ij.2=n)){C:JY}(M:Mk X.K C f)(F:aM X.prog X.w X.K X.mg X.base aO kk f U ps (lE k C m G))(hr:cM (kk+1) X.A)(hg:Gl X y)(hm:X.mg y=some (.ref C))(hb:Binds X.K U ps [])
  (ha:DA X (e::es) gr) (J:∀ ρ ds,gr ρ=some ds->ds.length=m) (Q:(y == ("__debug__":Str))=false:=by decide) (he:J0 (e::es) X.env=(false,Zh e X.env)::J0 es X.env:=by rfl) (hpl:(Zn pos' (J0 es X.env)).any (·.1)=false:=by rfl)
  (hi:X.N[i]?=some x:=by rfl) (hx:Loc X.env.scope x:=by first | exact Zl rfl | exact Zf rfl) (hs:Zw (.Call (.Name y p) (e::es) [] pos') (some (.Name x tp)) pos.line X.env=pure false:=by rfl) (hf:X.fn x=true ∨ X.env.scope.names.lookup x=some .local:=by first | exact .inl rfl | exact .inr rfl | assumption):
  XS k τ (.Assign [.Name x tp] (.Call (.Name y p) (e::es) [] pos') pos) (v4 i n G gr):=
 ps_mono (l7 hN hi hx (TD (E:=E0) M F hr hg hm hb .nil fP ha Q he hpl) hs hf) fun W σ H zz=>by
  obtain⟨v,Z,r,F,ρ,Ω,os,o,K0,S,q,c⟩:=zz;obtain⟨ds,Y,q⟩:=aG q;obtain⟨b,e2,q⟩:=aG q;by_cases t:Ω.length=n/\i<ρ.length
  ·rw [if_pos t]at q;cases q
   refine⟨F,r,ρ,ds,S.S,Y,fun j g T E1 R1=>fun z d s O ne=>?_⟩
   show lE k C m G (.ref z::(T++[])) _ _ E0
   rw [QR];have S1:=S.ext E1;have Ea:aN j j g (aJ g d (.own z)):=aN.fresh O
   have I:aJ g d (.own z) z=none:=by rw [aZ ne.symm];exact s
   have Eb:aN j j (aJ g d (.own z)) (aJ (aJ g d (.own z)) z (.ins C d [])):=aN.fresh I;have Ec:=Ea.trans Eb
   refine⟨j,z,d,T,ds,b,rfl,J ρ ds Y,Ec.fz S1.S.fz,cS,fun f=>S1.S.fz z f s,R1.stay Ec.stay,e2,fun F' H' a0 l fr R=>⟨rfl,?_⟩⟩
   have q1:bT X.K (fun _=>False) j F' g H':=⟨Ec.stay.trans l.st,fun a u h _=>l.out a u (Ec.same a u h) (fun w=>by rw [w,s]at h;cases h),fun a f=>(l.new a f).imp_right fun w=>Ec.same.free w,l.fz,fun a h=>Ec.same.free (l.lv a h)⟩
   obtain⟨S2,K2⟩:=S1.more (i:=i) (by rw [t.1];exact ht) t.2 q1 R fun a h=>by
    rcases fr a h with w | w
    ·rw [w];exact s
    ·exact Ec.same.free w
   exact c F' H' _ _ (K0.trans ((bZ.ext S.S.fz E1).trans K2)) (E1.stay.trans K2.k.st) S2
  ·rw [if_neg t]at q;cases q
end
def NG:Option D->Sl
 | some d=>.dat d
 | none=>.no
def iN(n:Nat)(ds:List (Option D)):aA:=ds.map NG++List.replicate (n-ds.length) .no
def jF{B:Type}(j n:Nat)(g:GS B):GM B:=fun a b=>match a[j]? with
 | some none=>match g (iN n a) [b]with
  | some (.rt d (b'::_))=>some (d,b')
  | some (.nx _ (b'::_))=>some (.none,b')
  | _=>none
 | _=>none
def vK{B:Type}(n:Nat)(g:GS B):List D->Option D:=fun a=>match g (c7 n a) []with
 | some (.rt d _)=>some d
 | some (.nx _ _)=>some .none
 | _=>none
theorem Dj{n:Nat}{ds:List (Option D)}{i:Nat}{s:Sl}(h:(iN n ds)[i]?=some s):(∃ d,s=.dat d) ∨ s=.no:=by
 unfold iN at h;have m:=QP h;rcases QD.mp m with m | m
 ·obtain⟨a,_,rfl⟩:=QO.mp m
  cases a with
  | none=>exact .inr rfl
  | some d=>exact .inl ⟨d,rfl⟩
 ·exact .inr (List.eq_of_mem_replicate m)
theorem V9{K:PySem.W.Frag}{F:JY->Prop}{H:Hp}{p:JY}{N:List Str}{ds:List (Option D)}{vs:List V}(z:∀ a,F a->H a≠none)(r:Paired (zV (K:=K) F H p) ds vs):bH K F H H (L2.start N vs) (iN N.length ds):=by
 have k:=tS r
 refine⟨by simp [L2.start,iN,k],fun i s h=>?_,fun i j a t n l m=>?_,z⟩
 ·unfold iN at h;by_cases c:i<ds.length
  ·rw [QQ (by simpa using c),QF]at h
   cases e:ds[i]? with
   | none=>rw [e]at h;cases h
   | some g=>
    rw [e]at h;cases h;obtain⟨v,o,f⟩:=jQ r e
    refine⟨some v,?_,?_⟩
    ·unfold L2.start;rw [QQ (by simpa using(by lia:i<vs.length)),QF,o];rfl
    ·cases g with
     | none=>trivial
     | some d=>exact⟨v,rfl,f⟩
  ·rw [QI (by simpa using c),YJ]at h
   split at h
   ·rename_i b;cases h
    refine⟨none,?_,trivial⟩
    unfold L2.start;rw [QI (by simpa using(by lia:vs.length<=i)),YJ,if_pos (by simp at b ⊢;lia)]
   ·cases h
 ·rcases Dj m with⟨d,q⟩ | q <;> cases q
section
variable {P:J2}{w:J5}{K:PySem.W.Frag}{mg:Str->Option YP}{base:Heap}{x qual:Str}{st:Zm}{f:JY}{fd:J6}{N ps:List Str}{kk:Nat}{B:Type}{k:eG K B}{g:GS B}
theorem pS{j n m:Nat}{G:GM B}(hG:G=jF j m g)(hn:ps.length=n)(hm:N.length=m)(F:dR K x qual st f fd)(S:bR N ps (aS st))
  (hb:∀(cdv:YP) (A:Around) (outer:List Env) (s:JZ) (H:Hp) (E:XK),cM kk (A.deeper (UL qual (aS st) s.heap.objs.size f cdv))->
   jZ (X:=(kY aO P w K mg base N qual (aS st) f cdv A outer s H E).nox) k [(j,0)] (dN st) g):aM P w K mg base aO (kk+1) f fd ps (cJ k n G):=by
 subst hG hn hm;refine F.ok S (fun R H Q E h=>?_) (fun cdv A outer s H R Q E hr h=>?_)
 ·obtain⟨F,p,b,y,ds,r,b',hl,_,_,J,_⟩:=h;rw [<- tS J,hl]
 ·obtain⟨F,p,b,y,ds,r,b',hl,z,at0,J,q,c⟩:=h
  refine⟨_,hb cdv A outer s H E hr,?_⟩
  unfold jF at q
  split at q
  ·rename_i ej;obtain⟨v,ev,T⟩:=jQ J ej;have jl:j<R.length:=(Qc.mp ev).1;have T:v=.ref p:=T
   have SS:SO k [(j,0)] F H H (L2.start N R) (iN N.length ds) [b] [(p,y)]:=by
    refine⟨V9 z J,⟨.cons at0 .nil,fun i i' o u n h1 h2=>?_⟩,fun a h=>?_,fun i a4 I=>?_,fun i i' m o ho=>?_,fun _ h=>h⟩
    ·have a1:i<1:=(Qc.mp h1).1;have a2:i'<1:=(Qc.mp h2).1;lia
    ·rcases h with⟨i,W,I,_⟩ | ⟨i,W,I,_⟩ <;> rcases Dj I with⟨d,q⟩ | q <;> cases q
    ·rcases Dj I with⟨d,q⟩ | q <;> cases q
    ·rw [QJ]at m;cases m;cases ho;unfold L2.start;rw [QQ (by simpa using jl),QF,ev,T];rfl
   have fin:∀{t:JY->Prop}{H':Hp}{l:List Oa}{Ω':List B}{v:V},bZ K [(p,y)] l F t H H'->Os k t H' (b'::Ω') l->aR K t H' r v->Q v H':=fun{t H' l Ω' v} K' U Z=>by
    obtain⟨M,h0⟩:=K'.ad 0 (p,y) rfl;obtain⟨b1,e1,Y⟩:=tQ U.at_ h0;cases e1;refine c t H' v M ⟨K'.k.st,fun a u h n=>K'.k.out a u h fun⟨o,m,h'⟩=>n ?_,K'.k.new,K'.k.fz,K'.k.lv⟩ (fun a h=>(K'.ft a (j7 h0 h)).imp_left fun⟨o,m,h'⟩=>?_) Y Z
    ·rw [QJ.mp m]at h';exact h'
    ·rw [QJ.mp m]at h';exact h'
   split at q
   ·rename_i d b1 O e;cases q
    exact⟨[(p,y)],F,H,F,_,_,_,_,bZ.refl z,SS,e,fun t H' v l K' U Z=>fin K' U Z⟩
   ·rename_i a3 b1 O e;cases q
    exact⟨[(p,y)],F,H,F,_,_,_,_,bZ.refl z,SS,e,fun t H' a0 l K' T' S'=>fin K' S'.o .non⟩
   ·cases q
  ·cases q
theorem L5{n m:Nat}{τ:List (Nat × Nat)}{G:List D->Option D}(hG:G=vK m g)(Z:ps.length=n)(hm:N.length=m)(F:dR K x qual st f fd)(S:bR N ps (aS st))
  (hb:∀(cdv:YP) (A:Around) (outer:List Env) (s:JZ) (H:Hp) (E:XK),cM kk (A.deeper (UL qual (aS st) s.heap.objs.size f cdv))->
   jZ (X:=(kY aO P w K mg base N qual (aS st) f cdv A outer s H E).nox) k τ (dN st) g):aM P w K mg base aO (kk+1) f fd ps (aU K n G):=by
 subst hG Z hm;refine F.ok S (fun I H Q E h=>?_) (fun cdv A outer s H I Q E W h=>?_)
 ·obtain⟨F,y,d,J,_,r,_⟩:=h;rw [<- r.length,J]
 ·obtain⟨F,y,d,J,z,r,q,c⟩:=h
  refine⟨_,hb cdv A outer s H E W,?_⟩
  have no:∀(i:Nat) (s:Sl),(c7 N.length y)[i]?=some s->(∃ d,s=.dat d) ∨ s=.no:=fun i s h=>by
   have m:=QP h;rcases QD.mp m with m | m
   ·obtain⟨d,_,rfl⟩:=QO.mp m;exact .inl ⟨d,rfl⟩
   ·exact .inr (List.eq_of_mem_replicate m)
  have M:SO k τ F H H (L2.start N I) (c7 N.length y) [] []:=by
   refine⟨zK z r,⟨.nil,fun i U o u n h1 h2=>?_⟩,fun a h=>?_,fun i T l=>?_,fun i U m o Y=>?_,fun _ h=>h⟩
   ·simp at h1
   ·rcases h with⟨i,t,l,_⟩ | ⟨i,t,l,_⟩ <;> rcases no i _ l with⟨d,q⟩ | q <;> cases q
   ·rcases no i _ l with⟨d,q⟩ | q <;> cases q
   ·simp at Y
  have fin:∀{j:JY->Prop}{H':Hp}{b:List Oa}{v:V},bZ K [] b F j H H'->aR K j H' d v->Q v H':=fun{j H' b v} K' B=>
   c j H' v ⟨fun a u h=>K'.k.out a u h (fun⟨o,m,_⟩=>by cases m),K'.k.st.up,fun a f=>(K'.k.new a f).imp_right fun h=>⟨h,K'.k.fz a f⟩⟩ B
  unfold vK at q
  split at q
  ·rename_i d' p e;cases q
   exact⟨[],F,H,F,_,_,_,_,bZ.refl z,M,e,fun j H' v b K' o' B=>fin K' B⟩
  ·rename_i R p e;cases q
   exact⟨[],F,H,F,_,_,_,_,bZ.refl z,M,e,fun j H' O b K' T' S'=>fin K' .non⟩
  ·cases q
end
end OB
namespace OB
open PySem PySem.Spec PyProof.Rows L2 DL
section
variable {X:Cx}{tg:Expr}
end
end OB
namespace OB
open PySem PySem.Spec PyProof.Rows L2 DL
theorem jL{K:PySem.W.Frag}{φ F:JY->Prop}{H:Hp}{p:JY}{b o:HO}(z:∀ a,F a->H a≠none)(d:H p=some b)(i:∀ xs,b≠.tup xs)(g:∀ ob xs,b≠.frz ob (.tup xs))(e:¬ F p)(m:φ p):bT K φ F F H (aJ H p o):=by
 have c:∀ a,F a->a≠p:=fun a f h=>e (h ▸ f)
 refine⟨⟨fun _ h=>h,fun a xs h=>?_,fun a xs f h=>?_,fun a φ f h=>by rw [aZ (c a f)];exact h⟩,fun a u h n=>by rw [aZ (fun w=>n (by rw [w];exact m))];exact h,fun _ h=>.inl h,fun a f=>by rw [aZ (c a f)];exact z a f,fun a h=>?_⟩
 ·rcases h with(h | ⟨ob,h⟩) | h
  ·exact .inl (.inl (by rw [aZ (by intro w;subst w;rw [d]at h;exact i xs (QC h))];exact h))
  ·exact .inl (.inr ⟨ob,by rw [aZ (by intro w;subst w;rw [d]at h;exact g ob xs (QC h))];exact h⟩)
  ·exact .inr h
 ·rcases h with h | ⟨ob,h⟩
  ·exact .inl (by rw [aZ (c a f)];exact h)
  ·exact .inr ⟨ob,by rw [aZ (c a f)];exact h⟩
 ·by_cases w:a=p
  ·subst w;rw [cS]at h;cases h
  ·rwa [aZ w]at h
theorem GL{xs:List V}:(∀ ys,HO.lst xs≠.tup ys)/\∀ ob ys,HO.lst xs≠.frz ob (.tup ys):=⟨(by intro _ h;cases h),(by intro _ _ h;cases h)⟩
theorem fO{C a:JY}{fs:List (Str × V)}:(∀ ys,HO.ins C a fs≠.tup ys)/\∀ ob ys,HO.ins C a fs≠.frz ob (.tup ys):=⟨(by intro _ h;cases h),(by intro _ _ h;cases h)⟩
theorem GK{φ:Heap->Prop}:(∀ ys,HO.ext φ≠.tup ys)/\∀ ob ys,HO.ext φ≠.frz ob (.tup ys):=⟨(by intro _ h;cases h),(by intro _ _ h;cases h)⟩
section
variable {B:Type}
def iQ(j:Nat)(get:B->Option D):GX B D:=fun _ a=>(a[j]?).bind fun b=>(get b).bind fun d=>some (d,a)
def eK(G:List D->Option D)(gr:GX B (List D)):GX B D:=fun a b=>(gr a b).bind fun x=>(G x.1).bind fun d=>some (d,x.2)
def t9(j:Nat)(G:GM B)(gr:GX B (List D)):GX B D:=fun c a=>(a[j]?).bind fun _=>(gr c a).bind fun x=>(x.2[j]?).bind fun b=>(G (none::x.1.map some) b).bind fun r=>some (r.1,x.2.set j r.2)
def qD(j:Nat)(d:B->D->Option B)(ga:GX B D):GS B:=fun a c=>(ga a c).bind fun x=>(x.2[j]?).bind fun b=>(d b x.1).bind fun e=>some (.nx a (x.2.set j e))
end
def Bd{K:PySem.W.Frag}{B:Type}(k:eG K B)(C:JY)(f:Str)(get:B->Option D):Prop:=∀{F:JY->Prop}{H:Hp}{p:JY}{b:B}{φ:JY->Prop}{d:D},k.At F H p b φ->get b=some d->∃ dx fs v,H p=some (.ins C dx fs)/\fs.lookup f=some v/\aR K F H d v
def Bh{K:PySem.W.Frag}{B:Type}(k:eG K B)(C:JY)(f:Str)(c:B->D->Option B):Prop:=∀{F:JY->Prop}{H:Hp}{p:JY}{b b':B}{φ:JY->Prop}{d:D}{v:V},k.At F H p b φ->aR K F H d v->c b d=some b'->(∀ a,F a->H a≠none)->∃ dx fs,H p=some (.ins C dx fs)/\fs.length<1000/\k.At F (aJ H p (.ins C dx (bL f v fs))) p b' φ
section
variable {X:Cx}{B:Type}{k:eG X.K B}{τ:List (Nat × Nat)}{a b c e:Expr}{es:List Expr}{ga gb:GX B D}{gr:GX B (List D)}{pos p:Pos}
theorem qB{i j:Nat}{x f:Str}{C:JY}{get:B->Option D}(s:(i,j)∈τ)(M:fX X.K C)(n:gU X.K C f)(g:Bd k C f get)(E:X.N[i]?=some x:=by rfl)(t:iB X.env.scope x:=by first | exact Zl rfl | exact Zf (Zl rfl) | exact Zf (Zf rfl))(z:(x == ("__debug__":Str))=false:=by decide)
  (a:(x == ("__classdict__":Str))=false:=by decide) (A:ZA (.Name x p) f X.env (Zh (.Name x p) X.env)=Zh (.Name x p) X.env:=by rfl):XE k τ (.Attribute (.Name x p) f pos) (iQ j get):=cY (gN (hW E t z a) A) fun O H Q l=>by
 obtain⟨F,e,R,T,m,d,h,S,q,c⟩:=l;obtain⟨b,I,q⟩:=aG q;obtain⟨U,G,q⟩:=aG q;cases q;obtain⟨o,y,at0⟩:=jQ S.o.at_ I;obtain⟨J,fs,v,u,w,r⟩:=g at0 G
 exact⟨_,S.hd i j s o y,o.1,C,J,fs,v,rfl,u,M,n,w,c F H v m (bZ.refl S.S.fz) S r⟩
theorem Ke{i j:Nat}{x f:Str}{C:JY}{u:B->D->Option B}{A:Pos}(U:(i,j)∈τ)(cl:fX X.K C)(T:gU X.K C f)(g:Bh k C f u)(ha:XE k τ e ga)(hN:X.N[i]?=some x:=by rfl)(Z:iB X.env.scope x:=by first | exact Zl rfl | exact Zf (Zl rfl) | exact Zf (Zf rfl))(hd:(x == ("__debug__":Str))=false:=by decide)
  (n:(x == ("__classdict__":Str))=false:=by decide) (hs:Zw e (some (.Attribute (.Name x p) f A)) pos.line X.env=pure false:=by rfl):XS k τ (.Assign [.Attribute (.Name x p) f A] e pos) (qD j u ga):=ps_mono (l6 (hW hN Z hd n) ha hs) fun W I H O=>by
 obtain⟨m,G,d,F,J,M,R,o,K0,S,q,c⟩:=O;obtain⟨t,e1,q⟩:=aG q;obtain⟨b,e2,q⟩:=aG q;obtain⟨b',e3,q⟩:=aG q;cases q
 refine⟨F,d,J,M,R,t.1,t.2,S,e1,fun s E v Q K1 S1 R1=>?_⟩
 obtain⟨o,y,at0⟩:=jQ S1.o.at_ e2;obtain⟨z,fs,w,hl,r⟩:=g at0 R1 e3 S1.S.fz
 refine⟨_,S1.hd i j U o y,o.1,C,z,fs,rfl,w,cl,T,hl,?_⟩
 have l:=k.own at0;have Y:bT X.K o.2 s s E (aJ E o.1 (.ins C z (bL f v fs))):=jL S1.S.fz w fO.1 fO.2 (l.2 _ l.1).2 l.1;obtain⟨S2,K2⟩:=S1.turn y Y (fun a h=>.inl h) r;exact c s _ I _ (K0.trans (K1.trans K2)) (K1.k.st.trans K2.k.st) S2
theorem Kd{op:Operator}{h:D->D->Option D}(c:bI X (Zv op) (cP X.K h))(e:XE k τ a ga)(d:XE k τ b gb):XE k τ (.BinOp a op b pos) (bQ h ga gb):=cY (IQ c e d) fun _ _ _ q=>yP q
theorem OC{h:D->D->Option D}(c:jD X (cP X.K h))(e:XE k τ a ga)(d:XE k τ b gb)(hs:Bg b:=by exact fun _ _=>rfl):XE k τ (.Subscript a b pos) (bQ h ga gb):=cY (IO c e d hs) fun _ _ _ q=>yP q
theorem uA{n kk:Nat}{f:JY}{j:J6}{ps:List Str}{x:Str}{G:List D->Option D}(F:aM X.prog X.w X.K X.mg X.base aO kk f j ps (aU X.K n G))(u:cM kk X.A)(B:Gl X x)(y:X.mg x=some (.ref f))(z:PySem.W.keepIn X.K (.ref f)=true)(I:Binds X.K j ps [])
  (J:XA k τ (e::es) gr) (h:∀ ρ Ω x,gr ρ Ω=some x->x.1.length=n) (i:(x == ("__debug__":Str))=false:=by decide) (he:J0 (e::es) X.env=(false,Zh e X.env)::J0 es X.env:=by rfl) (hpl:(Zn pos (J0 es X.env)).any (·.1)=false:=by rfl):
  XE k τ (.Call (.Name x p) (e::es) [] pos) (eK G gr):=cY (jR (E:=E0) F u B y z I .nil fP J i he hpl) fun Y H Q r=>by
 obtain⟨F,a,ρ,Ω,t,d,o,S,q,c⟩:=r;obtain⟨b,l,q⟩:=aG q;obtain⟨Z,M,q⟩:=aG q;cases q
 refine⟨F,a,ρ,Ω,t,b.1,b.2,S,l,fun U R s g K1 S1 N=>?_⟩
 show aU X.K n G (s++[]) R Q E0
 rw [QR]
 exact⟨U,b.1,d,h ρ Ω b l,S1.S.fz,N,M,fun T O v m R2=>c T O v g (K1.trans (bZ.ext S1.S.fz m)) (S1.ext m) R2⟩
theorem SZ{h:List D->Option D}{f:L2.St}{H:Hp}{Q:VK}(q:mX k τ (eK h gr) f H Q):An k τ gr f H fun vs H1=>lC X.K h vs H1 Q:=by
 obtain⟨F,a,i,l,m,d,j,S,q,c⟩:=q;obtain⟨b,o,q⟩:=aG q;obtain⟨u,n,q⟩:=aG q;cases q
 exact⟨F,a,i,l,m,b.1,b.2,S,o,fun t H1 vs e K1 S1 p=>⟨t,b.1,d,S1.S.fz,p,n,fun s r v g R2=>c s r v e (K1.trans (bZ.ext S1.S.fz g)) (S1.ext g) R2⟩⟩
theorem yW{id:String}{x:Str}{h:List D->Option D}(g:fV X (.builtin id) (lC X.K h))(f:Gl X x)(d:X.mg x=none)(b:Zs x=some (.builtin id))(i:XA k τ (e::es) gr)(c:x≠"__name__":=by decide)(a:(x == ("__debug__":Str))=false:=by decide)
  (he:J0 (e::es) X.env=(false,Zh e X.env)::J0 es X.env:=by rfl) (hpl:(Zn pos (J0 es X.env)).any (·.1)=false:=by rfl):XE k τ (.Call (.Name x p) (e::es) [] pos) (eK h gr):=
 cY (xV g f d b i c a he hpl) fun _ _ _ q=>SZ q
theorem Kb{i j n kk:Nat}{f:JY}{R:J6}{ps:List Str}{x m:Str}{a:Pos}{pl:Sem Bool}{G:GM B}(mm:(i,j)∈τ){C:JY}(c:fX X.K C)(hm:kW X.K C m f)(hf:∀ b,k.cl b=C/\(k.fn b).contains m=false)(F:aM X.prog X.w X.K X.mg X.base aO kk f R ps (cJ k (n+1) G))(hr:cM kk X.A)(hb:Binds X.K R ps [])
  (ha:XA k τ (e::es) gr) (u:∀ ρ Ω x,gr ρ Ω=some x->x.1.length=n) (hN:X.N[i]?=some x:=by rfl) (hv:iB X.env.scope x:=by first | exact Zl rfl | exact Zf (Zl rfl) | exact Zf (Zf rfl)) (hd:(x == ("__debug__":Str))=false:=by decide)
  (z:(x == ("__classdict__":Str))=false:=by decide) (t:J0 (e::es) X.env=(false,Zh e X.env)::J0 es X.env:=by rfl) (hpl:(Zn pos (J0 es X.env)).any (·.1)=false:=by rfl)
  (ht:Zh (.Call (.Attribute (.Name x p) m a) (e::es) [] pos) X.env=(do
   let ov <- Zh (.Name x p) X.env
   standAt a.atName
   let(f,first) <- UC [ov] (UP ov m pl)
   callWith pos f first (Zn pos (J0 (e::es) X.env)) (Z5 pos (ZG [] X.env))):=by rfl):
  XE k τ (.Call (.Attribute (.Name x p) m a) (e::es) [] pos) (t9 j G gr):=cY (qU (E:=E0) (hW hN hv hd z) c hm F hr hb .nil fP ha t hpl ht) fun σ H Q Z=>by
 obtain⟨F,h,ρ,Ω,os,d,Y,S,q,c⟩:=Z;obtain⟨b0,e0,q⟩:=aG q;obtain⟨l,U,q⟩:=aG q;obtain⟨b,e2,q⟩:=aG q;obtain⟨r,e3,q⟩:=aG q;cases q;obtain⟨o,O,at0⟩:=jQ S.o.at_ e0;obtain⟨dx,fs,M,y⟩:=k.ins at0;obtain⟨ec,ef⟩:=hf b0;rw [ec]at M
 refine⟨_,S.hd i j mm o O,o.1,dx,fs,rfl,M,tL (by rw [y];exact ef),F,h,ρ,Ω,os,l.1,l.2,S,U,fun F1 H1 vs a0 K1 S1 R1=>?_⟩
 show cJ k (n+1) G (.ref o.1::(vs++[])) H1 Q E0
 rw [QR];obtain⟨s,g⟩:=K1.ad j o O;obtain⟨b1,T,I⟩:=tQ S1.o.at_ g;rw [e2]at T;cases T
 refine⟨F1,o.1,b,s,none::l.1.map some,r.1,r.2,by rw [Qt,Qi,u ρ Ω l U],S1.S.fz,I,.cons rfl (Bi R1),e3,fun F' H' v W kp sb J R'=>?_⟩
 obtain⟨S2,K2⟩:=S1.turn g kp sb J;exact c F' H' v _ (K1.trans K2) S2 R'
end
end OB
namespace KP
open PySem PySem.Spec PyProof.Rows L2 DL DC
section
variable {P:J2}{w:J5}
abbrev CK:=List (List Int)
def g7(P:J2)(w:J5)(h:Heap)(c:CK)(a:JY):Prop:=∃ o items n,h.get? a=some o/\o.cls=.type "tuple"/\o.data=.seq items n/\∃ bs:List JY,items.toList=bs.map J4/\Paired (fun d b=>(dF P w).is h d b) c bs
theorem H7{h:Heap}:∀{x y:CK}{bs:List JY},Paired (fun ks b=>(dF P w).is h ks b) x bs->Paired (fun ks b=>(dF P w).is h ks b) y bs->x=y
 | _,_,_,.nil,.nil=>rfl
 | _,_,_,.cons a r,.cons b t=>by rw [(dF P w).inj a b,H7 r t]
theorem Is:∀{x y:List JY},x.map J4=y.map J4->x=y
 | [],[],_=>rfl
 | [],_::_,h=>by cases h
 | _::_,[],h=>by cases h
 | a::x,b::y,h=>by
  injection h with h1 h2
  injection h1 with h1
  rw [h1,Is h2]
theorem g7.inj{h:Heap}{a:JY}{x y:CK}(k:g7 P w h x a)(j:g7 P w h y a):x=y:=by
 obtain⟨o,d,n,l,_,m,bs,e,r⟩:=k;obtain⟨o',c,q,f,_,b,p,g,i⟩:=j
 obtain rfl:o=o':=QC (l.symm.trans f)
 rw [m]at b
 injection b with h1 _
 subst h1;rw [e]at g;rw [Is g]at r;exact H7 r i
theorem g7.keeps{h h':Heap}{k:CK}{a d:JY}{o:Obj}{es ep}(x:g7 P w h k a)(j:h.get? d=some o)(l:o.data=.dict es ep)(hs:Zk d h h'):g7 P w h' k a:=by
 obtain⟨i,b,n,f,m,c,bs,e,r⟩:=x
 have g:a≠d:=by
  rintro rfl
  obtain rfl:i=o:=QC (f.symm.trans j)
  rw [l]at c;exact nomatch c
 exact⟨i,b,n,(hs.2 a g).trans f,m,c,bs,e,Paired.mapP r fun _ _ q=>(dF P w).keeps q j l hs⟩
theorem g7.typeIs{s:JZ}{k:CK}{a:JY}(x:g7 P w s.heap k a):s.TypeIs (.ref a) "tuple":=let⟨o,_,_,ho,hc,_⟩:=x;⟨o,ho,hc⟩
def Br(P:J2)(w:J5)(a:CK):Int:=reduceHash (Zg (a.map (dF P w).hash))
def kH:CK->Nat
 | []=>0
 | k::r=>(k.length+1)+kH r
theorem GE:∀(l:CK) (k:List Int),kH (l++[k])=kH l+(k.length+1)
 | [],k=>by simp [kH]
 | x::l,k=>by show(x.length+1)+kH (l++[k])=(x.length+1)+kH l+(k.length+1);rw [GE l k];lia
variable {A:Around}{E:YP->JZ->Prop}{s:JZ}
theorem OR{f:CK}{a:JY}{Q:Int->JZ->Prop}(B:A.units+4<Zc)(r:g7 P w s.heap f a)(h:Q (Br P w f) { s with toks:=s.toks+(kH f+1) }):
  J1 (J3 P w) A (pyHash (.ref a)) Q E s:=by
 have l:=r.typeIs;obtain⟨o,p,n,u,_,y,bs,z,v⟩:=r;unfold pyHash
 first | unfold pyHashByItsType | skip
 first | refine Qa (wpAny_cRoomFor_or (.inr (by lia)) ?_) | skip
 refine Qa (JG l F.slot_tuple_hash.lookup ?_)
 show J1 _ _ (if(some (Value.builtin "tuple.__hash__") == some Zp)=true then _ else _) Q E s
 rw [if_neg (by rw [beq_builtin_none];exact Qq)];refine Qa (JG l F.slot_tuple_hash.lookup ?_)
 show J1 _ _ (callSpecialIfBoundUnlessNone? (.ref a) "__hash__" _ >>= _) Q E s
 refine Qa (wpAny_callSpecialIfBoundUnlessNone?_slot l F.slot_tuple_hash (Yc F.slot_tuple_hash l F.entry_tuple_hash ?_ (F.args_tuple_hash_1 _)))
 show J1 _ _ (ZZ (.ref a) >>= _) _ _ s
 refine Qa (wpAny_tupleItemsOf u y ?_);refine Qa ?_;rw [<- YZ,z]
 refine Yw _
  (fun e (b:Array Int) m=>∃(done c:CK) (d:List JY),f=done++c/\e=d.map J4/\Paired (fun f b=>(dF P w).is s.heap f b) c d/\b.toList=done.map (dF P w).hash/\m={ s with toks:=s.toks+kH done })
  _ ?_ ?_ _ _ ⟨[],f,bs,rfl,rfl,v,rfl,rfl⟩
 ·rintro x e b m ⟨done,c,d,rfl,g,q,j,rfl⟩
  cases q with
  | nil=>cases g
  | @cons k b0 ks' bs'' h1 hl'=>
   rw [Qm]at g
   injection g with er1 er2
   subst er1;refine Qa ((dF P w).pyHash (show Around.units _<Zc from by first | (show A.units+1<Zc;lia) | (show A.units+2<Zc;lia)) h1 ?_);have t:kH (done++[k])=kH done+(k.length+1):=GE done k
   first
    | exact Qb ⟨done++[k],ks',bs'',by simp,er2,hl',by simp [j],by rw [t];simp [JI,tupleKind]⟩
    | exact Qa (Qb (Qb ⟨done++[k],ks',bs'',by simp,er2,hl',by simp [j],by rw [t];simp [JI,tupleKind]⟩))
 ·rintro b m ⟨done,c,d,rfl,g,q,j,rfl⟩
  cases q with
  | cons _ _=>cases g
  | nil=>
  rw [QR]at h
  show J1 _ _ (retInt (Zg b.toList)) _ _ _
  rw [j];refine wpAny_ret_mkInt ?_
  show J1 _ _ (if(decide (-(2:Int) ^ 63<=Zg (done.map (dF P w).hash)) && decide (Zg (done.map (dF P w).hash)<2 ^ 63))=true then _ else _) Q E _
  unfold Br reduceHash at h;by_cases i:(decide (-(2:Int) ^ 63<=Zg (done.map (dF P w).hash)) && decide (Zg (done.map (dF P w).hash)<2 ^ 63))=true
  ·rw [if_pos i];rw [if_pos i]at h;exact Qb (by simpa [JI]using h)
  ·rw [if_neg i];rw [if_neg i]at h;exact Qa (Y7 (Qb (by simpa [JI]using h)))
theorem OQ{x y:CK}{a b:JY}{R:Fin->JZ->Prop}(hu:A.units+4<Zc)(W:g7 P w s.heap x a)(T:g7 P w s.heap y b)(h:R (.done (.ret (.bool (decide (x=y))))) s):
  J1 (J3 P w) A (Builtin.«tuple.__eq__» ⟨[.ref a,.ref b],[]⟩) R E s:=by
 have S:=T.typeIs;obtain⟨oa,q,na,J,_,Q,U,m,N⟩:=W;obtain⟨ob,o,nb,I,_,O,n,l,M⟩:=T
 show J1 _ _ (isInstance (.ref b) (.type "tuple") >>= _) _ _ s
 refine Qa (Y0 S Uw ?_);simp only [Yf,Qj,if_false];refine Qa (wpAny_tupleItemsOf J Q ?_);refine Qa (wpAny_tupleItemsOf I O ?_);refine Qa ?_
 refine Yw _
  (fun f r z=>r.1=none/\z=s/\∃(t p:CK) (bx' by'':List JY),f=List.zip (bx'.map J4) (by''.map J4)/\Paired (fun G b=>(dF P w).is s.heap G b) t bx'/\Paired (fun G b=>(dF P w).is s.heap G b) p by''/\decide (t=p)=decide (x=y)/\(bx'.length == by''.length)=(q.size == o.size))
  _ ?_ ?_ _ _ ⟨rfl,rfl,x,y,U,n,by rw [m,l],N,M,rfl,by
   have Z:q.size=U.length:=by rw [<- Qg,m,Qi]
   have Y:o.size=n.length:=by rw [<- Qg,l,Qi]
   rw [Z,Y]⟩
 ·rintro⟨u,v⟩ f r z ⟨H,rfl,t,p,F,B,i,g,e,c,d⟩
  cases g with
  | nil=>simp at i
  | @cons k1 u' x'' xs'' h1 hx''=>
   cases e with
   | nil=>simp at i
   | @cons k2 v' y'' ys'' h2 hy''=>
    simp only [Qm,JB,List.cons.injEq,Prod.mk.injEq]at i;obtain⟨⟨rfl,rfl⟩,rfl⟩:=i;refine Qa ((dF P w).eqBool (x:=k1) (y:=k2) (show Around.units _<Zc from by first | (show A.units<Zc;lia) | (show A.units+1<Zc;lia) | (show A.units+2<Zc;lia)) h1 h2 ?_);by_cases K:k1=k2
    ·subst K;rw [decide_eq_true rfl];simp only [Yf,Qj,if_false];refine Qb ⟨rfl,rfl,x'',y'',xs'',ys'',rfl,hx'',hy'',?_,by simpa using d⟩;rw [<- c];by_cases j:x''=y''
     ·simp [j]
     ·simp [j]
    ·rw [decide_eq_false K];simp only [Jr,if_true]
     have X:decide (x=y)=false:=by rw [<- c];simp [K]
     rw [X]at h;exact Qa (Qb (Qb (Qb h)))
 ·rintro⟨r1,r2⟩ z ⟨H,rfl,t,p,F,B,i,g,e,c,d⟩
  simp only at H
  subst H;refine Qb ?_
  have k:(q.size == o.size)=decide (x=y):=by
   rw [<- c,<- d]
   cases g with
   | nil=>
    cases e with
    | nil=>simp
    | cons _ _=>simp
   | cons _ _=>
    cases e with
    | nil=>simp
    | cons _ _=>simp at i
  show R (.done (.ret (.bool (q.size == o.size)))) z
  rw [k];exact h
theorem LK{x y:CK}{a b:JY}{Q:Bool->JZ->Prop}(g:A.units+6<Zc)(d:g7 P w s.heap x a)(f:g7 P w s.heap y b)(h:Q (decide (x=y)) s):
  J1 (J3 P w) A (eqBool (.ref a) (.ref b)) Q E s:=by
 unfold eqBool
 try with_reducible refine Yg ?_
 show J1 _ _ (if(J4 a == J4 b)=true then _ else _) Q E s
 by_cases c:(J4 a == J4 b)=true
 ·rw [if_pos c]
  have e:a=b:=by have:=Yv c;injection this
  subst e
  obtain rfl:=d.inj f
  exact Qa (Y7 (Qb (by simpa using h)))
 ·rw [if_neg c]
  exact Qa (wpAny_richCompare_same_room (op:=.Eq) d.typeIs f.typeIs F.slot_tuple_eq
   (Yc F.slot_tuple_eq d.typeIs F.entry_tuple_eq (OQ (by first | (show A.units+4<Zc;lia) | (show A.units+1+4<Zc;lia) | (show A.units+2+4<Zc;lia)) d f ⟨_,rfl,(fun e=>nomatch e),YN h⟩) (F.args_tuple_eq_2 _ _)) (by lia))
theorem WI(n:Nat){j:List Int}{a:JY}{Q:Bool->JZ->Prop}(e:(dF P w).is s.heap j a)(h:Q true s):J1 (J3 P w) A (eqIsQuiet (n+1) (.ref a)) Q E s:=by
 have e:IsTupleKey (UT P w) s.heap j a:=e;have k:=e.typeIs;obtain⟨o,d,x,l,_,p,m⟩:=e;unfold eqIsQuiet;refine Qa (JG k F.slot_tuple_eq.lookup ?_)
 show J1 _ _ (isInstance (.ref a) (.type "tuple") >>= _) _ _ s
 refine Qa (Y0 k Uw ?_);simp only [Yf,Qj,if_false];refine Qa (Js l p ?_);refine Qa ?_
 show J1 _ _ (forIn d _ _) _ _ s
 rw [<- YZ];refine Yw _ (fun b r f=>r.1=none/\f=s/\∀ v∈b,carriedByValue v=true) _ ?_ ?_ _ _ ⟨rfl,rfl,m.byValue⟩
 ·rintro v b r f ⟨i,rfl,c⟩;rw [eqIsQuiet_byValue _ (c v Qo)];refine Qa (Qb ?_);simp only [Yf,Qj,if_false];exact Qb ⟨rfl,rfl,fun u g=>c u (Qf _ g)⟩
 ·rintro⟨t,q⟩ f ⟨i,rfl,_⟩
  simp only at i
  subst i;exact Qb h
theorem OT{g:CK}{a:JY}{Q:Bool->JZ->Prop}(m:g7 P w s.heap g a)(h:Q true s):J1 (J3 P w) A (eqIsQuiet 8 (.ref a)) Q E s:=by
 have p:=m.typeIs;obtain⟨o,d,n,q,_,x,bs,y,u⟩:=m;unfold eqIsQuiet;refine Qa (JG p F.slot_tuple_eq.lookup ?_)
 show J1 _ _ (isInstance (.ref a) (.type "tuple") >>= _) _ _ s
 refine Qa (Y0 p Uw ?_);simp only [Yf,Qj,if_false];refine Qa (Js q x ?_);refine Qa ?_
 show J1 _ _ (forIn d _ _) _ _ s
 rw [<- YZ,y];refine Yw _ (fun c r i=>r.1=none/\i=s/\∃(f:CK) (e:List JY),c=e.map J4/\Paired (fun g b=>(dF P w).is s.heap g b) f e) _ ?_ ?_ _ _ ⟨rfl,rfl,g,bs,rfl,u⟩
 ·rintro v c r i ⟨j,rfl,f,e,l,t⟩
  cases t with
  | nil=>cases l
  | @cons k b0 ks'' bs'' h1 hl'=>
   rw [Qm]at l
   injection l with er1 er2
   subst er1;refine Qa (WI 6 h1 ?_);simp only [Yf,Qj,if_false];exact Qb ⟨rfl,rfl,ks'',bs'',er2,hl'⟩
 ·rintro⟨B,z⟩ i ⟨j,rfl,_⟩
  simp only at j
  subst j;exact Qb h
end
def gZ(P:J2)(w:J5):HeapKind P w CK where
 is:=g7 P w
 hash:=Br P w
 draws:=fun e=>kH e+1
 room:=fun A=>A.units+6<Zc
 inj:=fun b a=>b.inj a
 keeps:=fun x g i f=>x.keeps g i f
 pyHash:=fun d c h=>OR (by lia) c h
 eqBool:=fun d b a h=>LK d b a h
 quiet:=fun c h=>OT c h
end KP
namespace KP
open PySem PySem.Spec PyProof.Rows L2 DL DC ST SL
theorem yB{a b:Type}(f:a->b):∀(l:List a) (j:Nat),(l.map f).eraseIdx j=(l.eraseIdx j).map f
 | [],_=>rfl
 | _::_,0=>rfl
 | x::l,j+1=>by
  show f x::(l.map f).eraseIdx j=f x::(l.eraseIdx j).map f
  rw [yB f l j]
section
variable {P:J2}{w:J5}{κ:Type}[DecidableEq κ]{knd:HeapKind P w κ}{A:Around}{E:YP->JZ->Prop}{s:JZ}{d b:JY}{k:κ}{xs:List (κ × JY × YP)}
theorem VF{j:Nat}{p:JY × YP}{Q:Option ZV->JZ->Prop}(y:knd.room A)(a:knd.is s.heap k b)(F:s.heap.DictOfH knd d xs)(n:xs[j]?=some (k,p))(hsz:xs.length<=sizeLine)
  (h:∀ e h',e.val=p.2->h'.DictOfH knd d (xs.eraseIdx j)->Zk d s.heap h'->Q (some e) { s with heap:=h',toks:=s.toks+knd.draws k }):J1 (J3 P w) A (Builtin.Dict.takeOut d (.ref b)) Q E s:=by
 obtain⟨o,u,M,g,I,f,c,m,t⟩:=F
 have H:u.size=xs.length:=by rw [<- Qg,c,Qi]
 unfold Builtin.Dict.takeOut
 try with_reducible refine Yg ?_
 refine Qa (knd.pyHash y a ?_);refine Qa (wpAny_dictFind_heap (s:={ s with toks:=s.toks+knd.draws k }) y a g f c m t (fun q=>absurd n (q j p)) fun r N i=>?_)
 have v:r=j:=by
  have O:=(Qc.mp n).1;have z:=(Qc.mp i).1
  have K:(xs.map (·.1))[j]?=some k:=by rw [QF,n];rfl
  have J:(xs.map (·.1))[r]?=some k:=by rw [QF,i];rfl
  exact(List.getElem?_inj (by simpa using z) t).mp (J.trans K.symm)
 subst v;refine Qa (JN (s:={ s with toks:=s.toks+knd.draws k }) g f ?_)
 have G:u[r]?=some (UQ knd (k,p)):=by rw [<- QE,c,QF,n];rfl
 rw [G];refine Qa (wpAny_updateDictKeys (hz:=by lia) (s:={ s with toks:=s.toks+knd.draws k }) g f (Qb (h (UQ knd (k,p)) _ rfl ⟨_,_,M+1,Yh _ g (Obj.isFreed_of_dict (Obj.data_mapDictKeys f _)),I.mapDictKeys _,Obj.data_mapDictKeys f _,?_,fun x B=>?_,?_⟩ (Q2 ..))))
 ·obtain⟨l⟩:=u;simp only [List.eraseIdxIfInBounds_toArray];have c:l=xs.map (UQ knd):=c;rw [c,yB]
 ·exact knd.keeps (m x (List.mem_of_mem_eraseIdx B)) g f (Q2 ..)
 ·rw [<- yB];exact t.eraseIdx _
theorem U2{j:Nat}{p:JY × YP}{Q:YP->JZ->Prop}(n:∀ B:Around,B.units<=A.units+2->knd.room B)(a:knd.is s.heap k b)(c:s.heap.DictOfH knd d xs)(g:xs[j]?=some (k,p))(hsz:xs.length<=sizeLine)
  (h:∀ h',h'.DictOfH knd d (xs.eraseIdx j)->Zk d s.heap h'->Q p.2 { s with heap:=h',toks:=s.toks+knd.draws k }):J1 (J3 P w) A (call (.builtin "dict.pop") [.ref d,.ref b]) Q E s:=by
 have i:=c.typeIs;refine Yc PySem.F.slot_dict_pop i PySem.F.entry_dict_pop ?_ (PySem.F.args_dict_pop_2 _ _);unfold Builtin.«dict.pop»;refine Qa ?_;unfold Builtin.Dict.keyAndDefault;refine Qa (Uv i ?_)
 show J1 _ _ (pure (d,J4 b,none)) _ _ s
 refine Qb ?_;obtain⟨o,l,H,q,G,u,t,r,y⟩:=id c
 have f:l.isEmpty=false:=by
  have:l.size=xs.length:=by rw [<- Qg,t,Qi]
  have x:=(Qc.mp g).1;rw [Array.isEmpty_eq_false_iff];intro z;rw [z]at this
  simp at this
  lia
 simp only [show(keyPart (J4 b)).isSome=false from rfl,Qj,if_false];refine Qa (JN q u ?_);refine Qa (Qb ?_);rw [f];simp only [Qj,if_false];refine Qa (VF (n _ (by first | (show A.units+1<=_;lia) | (show A.units<=_;lia) | (show A.units+2<=_;lia))) a c g hsz fun e h' v dd m=>?_);simp only [Option.isNone_some,Qj,if_false];exact Qa (wpAny_letGo (Qb ⟨e.val,rfl,by rw [v];exact h h' dd m⟩))
end
abbrev CB:=CK × JY
def dI(l:List CB):List fD:=l.map fun p=>(.inr p.1,p.2,.bl true)
def eQ(l:List CB):List (CK × JY × YP):=l.map fun p=>(p.1,p.2,.bool true)
structure Cd(K:PySem.W.Frag)(H:Hp)(a:JY)(l:List CB)(ep:Nat):Prop where
 at_:H a=some (cN a (dI l) ep)
 ky:∀ p∈l,gL K H (.inr p.1) p.2
 nd:(l.map (·.1)).Nodup
 ln:l.length<=1000
section
variable {X:Cx}{pins:List (JY × Obj)}{σ:L2.St}{H:Hp}{s:JZ}
theorem uG{k:CK}{b:JY}(I:L2.Inv X pins σ H s)(h:gL X.K H (.inr k) b):(gZ X.prog X.w).is s.heap k b:=by
 obtain⟨_,bs,g,f⟩:=h;obtain⟨c,a,⟨o,p,j,n,i⟩,_⟩:=I.tuple g
 have e:∀{l:List JY}{m:List YP},Vals (l.map V.ref) m->m=l.map J4:=by
  intro l
  induction l with
  | nil=>intro m h;cases h;rfl
  | cons x l d=>
   intro m h
   cases h with
   | cons r t=>cases r;rw [d t];rfl
 exact⟨o,_,n,p,j,i,bs,by simpa using e a,Paired.mapP f fun u b q=>mD I q⟩
theorem Bq{a:JY}{l:List CB}{ep:Nat}(I:L2.Inv X pins σ H s)(h:Cd X.K H a l ep):(a == ZM)=false/\s.heap.DictOfH (gZ X.prog X.w) a (eQ l):=by
 obtain⟨⟨i,o,c,y,v,u,n⟩,_⟩:=(show e9 X.prog X.w H s.heap a (cN a (dI l) ep)from I.hok a _ h.at_)
 have mk:∀{l:List CB}{r:List ZV},Paired (fun(e:fC × JY × V) (r:ZV)=>r.hash=BQ e.1/\r.key=.ref e.2.1/\RelV e.2.2 r.val) (dI l) r->r=(eQ l).map (UQ (gZ X.prog X.w)):=by
  intro l
  induction l with
  | nil=>intro r q;cases q;rfl
  | cons p l j=>
   intro r q
   cases q with
   | @cons _ x _ xs z t=>
    rw [j t];obtain⟨f,d,b⟩:=z;obtain⟨B,A,g⟩:=x;have b:g=ZQ true:=b;dsimp only at f d;subst f d b;rfl
 refine⟨i,o,c,ep,y,v,u,mk n,fun x k=>?_,?_⟩
 ·obtain⟨p,m,rfl⟩:=QO.mp k;exact uG I (h.ky p m)
 ·unfold eQ;rw [Yo];exact h.nd
theorem Bp{P:J2}{w:J5}{h:Heap}{a:JY}{l:List CB}(c:(a == ZM)=false)(d:h.DictOfH (gZ P w) a (eQ l)):∃ ep,e9 P w H h a (cN a (dI l) ep):=by
 obtain⟨o,b,ep,e,i,g,f,h5,m⟩:=d;clear h5 m
 refine⟨ep,⟨c,o,b,e,i,g,?_⟩,⟨o,e⟩,fun q n ⟨c,o,b,s,r⟩ k=>⟨c,o,b,k _ s,r⟩⟩
 rw [f];clear e i g f
 induction l with
 | nil=>exact .nil
 | cons p l j=>exact .cons ⟨rfl,rfl,rfl⟩ j
theorem v6{k:CK}:∀{l:List CB},(U0 (eQ l) k).isSome=decide (k∈l.map (·.1))
 | []=>rfl
 | p::l=>by
  have a:=v6 (k:=k) (l:=l);by_cases c:p.1=k
  ·have:U0 (eQ (p::l)) k=some (p.2,.bool true):=by simp [U0,eQ,List.find?_cons,c]
   rw [this]
   simp [c]
  ·have:U0 (eQ (p::l)) k=U0 (eQ l) k:=by simp [U0,eQ,List.find?_cons,c]
   rw [this,a]
   simp [Z2 c]
def Et(K:PySem.W.Frag):R2:=fun x y H Q=>∃(a b:JY) (l:List CB) (ep:Nat) (k:CK),x=.ref b/\y=.ref a/\gL K H (.inr k) b/\Cd K H a l ep/\Q (.bl (decide (k∈l.map (·.1)))) H
theorem GT(o:X.A.units+65<Zc):bI X (Ze .In) (Et X.K):=fun c s n H x y v u Q I f e d=>by
 obtain⟨a,b,l,p,k,m,j,h,i,q⟩:=d;subst m j;cases f;cases e;obtain⟨g,dd⟩:=Bq I i;refine wpAny_in_heap (knd:=gZ X.prog X.w) (k:=k) (show X.A.in1.units+6<Zc from by show X.A.units+1+6<Zc;lia) (uG I h) g dd ?_;rw [v6]
 exact⟨.bl _,H,I.tok _,rfl,q⟩
def NA(K:PySem.W.Frag):V->List V->Hp->VK->Prop:=fun x d H Q=>∃(a b:JY) (l:List CB) (ep:Nat) (k:CK) (j:Nat) (c:JY),x=.ref a/\d=[.ref b]/\gL K H (.inr k) b/\Cd K H a l ep/\l[j]?=some (k,c)/\∀ ep',Q (.bl true) (aJ H a (cN a (dI (l.eraseIdx j)) ep'))
theorem R8(U:X.A.units+65<Zc):Aa X "dict.pop" (NA X.K):=fun f s n H x R v S Q I r t o=>by
 obtain⟨a,b,l,Y,k,j,c,N,m,F,i,G,q⟩:=o;subst N m;cases r;obtain⟨u,rfl,y⟩:=kP t;cases y;obtain⟨E,dd⟩:=Bq I i
 have h:(eQ l)[j]?=some (k,c,ZQ true):=by unfold eQ;rw [QF,G];rfl
 refine U2 (knd:=gZ X.prog X.w) (fun B W=>show B.units+6<Zc by lia) (uG I F) dd h (by unfold eQ;rw [Qi];exact QL i.ln (by rw [Yj];lia)) fun M d p=>?_
 have e:(eQ l).eraseIdx j=eQ (l.eraseIdx j):=by unfold eQ;rw [yB]
 rw [e]at d;obtain⟨g,oo⟩:=Bp (H:=H) E d;have O:L2.Inv X f n (aJ H a (cN a (dI (l.eraseIdx j)) g)) { s with heap:=M,toks:=s.toks+(gZ X.prog X.w).draws k }:=I.write (x:=a) (e:=a) (t':=s.toks+(gZ X.prog X.w).draws k) (by rw [i.at_];exact Uf) (.inl rfl) (fun c T J z=>(p.2 c J).trans z) (let⟨o2,_,_,hq,_⟩:=d;⟨o2,hq⟩) oo
 exact⟨.bl true,_,O,rfl,q g⟩
def NH(K:PySem.W.Frag)(e tk:TE):TS:=fun W c H=>e c H fun x f=>tk c f fun y d=>∃(a b:JY) (l:List CB) (ep:Nat) (k:CK),x=.ref a/\y=.ref b/\gL K d (.inr k) b/\Cd K d a l ep/\k∉l.map (·.1)/\∀ ep',W.nx c (aJ d a (cN a (dI (l++[(k,b)])) ep'))
theorem U5{o k:Expr}{j:Nat}{G tk:TE}{m F pos:Pos}(hu:X.A.units+65<Zc)(U:PE X o G)(Z:PE X k tk)(hs:Zw (.Constant (.bool true) j m) (some (.Subscript o k F)) pos.line X.env=pure false:=by rfl):
  PS X (.Assign [.Subscript o k F] (.Constant (.bool true) j m) pos) (NH X.K G tk):=by
 intro d s g H W I q;refine wpAny_Assign_Subscript (bC (IN (X:=X) (b:=true) (j:=j) (pos:=m) d s g H (fun v E=>v=.bl true/\E=H) I ⟨rfl,rfl⟩) fun u N ⟨z,E,I1,p,ez,eh⟩=>?_) hs;subst ez eh;have p:u=ZQ true:=p;subst p;refine bC (U d N g E _ I1 q) fun u2 M i=>?_;obtain⟨x,H2,I2,Q,S⟩:=i;refine bC (Z d M g H2 _ I2 S) fun u3 n i=>?_;obtain⟨y,J,I3,O,R⟩:=i;obtain⟨a,b,l,ep,k,ex,ey,t,B,Y,q⟩:=R;subst ex ey;cases Q;cases O;obtain⟨T,dd⟩:=Bq I3 B;refine wpAny_setItem_heap (knd:=gZ X.prog X.w) (k:=k) (show X.A.in1.units+6<Zc from by show X.A.units+1+6<Zc;lia) (uG I3 t) dd (fun h' f r=>?_) (by unfold eQ;rw [Qi];exact QL B.ln (by rw [Yj];lia))
 have e:UW (eQ l) k b (ZQ true)=eQ (l++[(k,b)]):=by
  unfold UW;rw [v6,decide_eq_false Y,if_neg Qq];unfold eQ;rw [Yi];rfl
 rw [e]at f;obtain⟨h,oo⟩:=Bp (H:=J) T f;have I4:L2.Inv X d g (aJ J a (cN a (dI (l++[(k,b)])) h)) { n with heap:=h',toks:=n.toks+(gZ X.prog X.w).draws k }:=I3.write (x:=a) (e:=a) (t':=n.toks+(gZ X.prog X.w).draws k) (by rw [B.at_];exact Uf) (.inl rfl) (fun c ob hc z=>(r.2 c hc).trans z) (let⟨o2,_,_,hq,_⟩:=f;⟨o2,hq⟩) oo
 exact⟨g,_,I4,q h⟩
end
end KP
namespace KP
open PySem PySem.Spec PyProof.Rows L2 DL DC ST SL
section
variable {P:J2}{w:J5}
theorem Ro{d:JY}{a:Array ZV}{ep:Nat}:PySem.W.KdlSrc P w "dict" d d a.size (fun i v=>∃ h:i<a.size,v=a[i].key) (fun h=>mU h d a ep) where
 type:=fun s h=>h.ty
 there:=fun h ⟨g,o,f,j⟩=>⟨Qs f,Qs f⟩
 keep:=fun h q ⟨g,o,f,j⟩ t=>⟨g,o,t d (.inl rfl) o f,j⟩
 notList:=by decide
 notTuple:=by decide
 hint:=fun _ _ _ _ n x=>PySem.W.kdl_hint_dict n.ty x
 iter:=fun A s G n=>by
  have y:d<s.heap.objs.size:=let⟨_,o,f,_⟩:=n;Qs f
  refine⟨_,fun i h=>h.IsKeyIter s.heap.objs.size d i a.size ep/\mU h d a ep,fun _ _ x=>Ri n x,⟨?_,?_,?_,?_,?_⟩,⟨_,Qz _ rfl,rfl,by simp [Uy]⟩,?_⟩
  ·intro b l;simp at l;simp [l]
  ·rintro i h q ⟨⟨o,e,c⟩,g,k,f,j⟩ t
   exact⟨⟨o,t _ (by simp) o e,c⟩,g,k,t d (by simp) k f,j⟩
  ·rintro i r Q E F ⟨m,rd⟩ p;refine Sy m rd F fun q u B=>p _ q r.toks ⟨F,rfl⟩ ⟨u,?_⟩ fun b o l e=>(B.2 b (fun h=>l (by simp [h]))).trans e;obtain⟨g,k,f,j⟩:=rd
   exact⟨g,k,(B.2 d (QB y)).trans f,j⟩
  ·rintro r Q E ⟨m,rd⟩ p;exact RA G m rd (Ql _) fun q z=>p q r.toks fun b o l e=>z b o (fun h=>l (by simp [h])) e
  ·rintro i r Q E ⟨m,rd⟩ p;exact wpAny_pyIter_keyiter m p
  ·obtain⟨g,k,f,j⟩:=n
   exact⟨g,k,Qh _ f,j⟩
end
section
variable {X:Cx}
def We:List V->Hp->VK->Prop:=fun b H Q=>∃(a:JY) (es:List fD) (ep:Nat),b=[.ref a]/\H a=some (cN a es ep)/\es.length<=1000/\∀ p,H p=none->Q (.ref p) (aJ H p (.lst (es.map fun e=>V.ref e.2.1)))
theorem Pu(B:X.calm=true):fV X (.type "list") We:=fun j s M H N O Q I r p=>by
 obtain⟨a,f,ep,G,h,g,k⟩:=p;subst G;obtain⟨u,rfl,t⟩:=kP r;cases t;obtain⟨v,rd,sz,l⟩:=Wh I h;refine PySem.W.kdl_call (Ro (ep:=ep)) (I.ok.hd B) rd (by rw [sz];exact QL g (by rw [Yj];lia)) fun F R b K keep E d=>?_;have A:H s.heap.objs.size=none:=I.hok.fresh (Ql _)
 have q:Vals (f.map fun e=>V.ref e.2.1) b.toList:=by
  have:b.toList=f.map fun e=>J4 e.2.1:=by
   refine List.ext_getElem? fun i=>?_;rw [QF];by_cases c:i<f.length
   ·have m:i<b.size:=by rw [d.1,sz];exact c
    have J:b.toList[i]?=some b[i]:=by simp [m]
    obtain⟨y,x⟩:=d.2 i b[i] (by simp [m])
    have n:f[i]?=some f[i]:=by simp [c]
    rw [J,n,x,l i y _ n];rfl
   ·rw [YU (by rw [Qg,d.1,sz];lia),YU (YW c)];rfl
  rw [this];clear this l sz k h g
  induction f with
  | nil=>exact .nil
  | cons e f z=>exact .cons rfl z
 refine⟨.ref s.heap.objs.size,_,I.laid (o:=.lst (f.map fun e=>V.ref e.2.1)) keep (Ql _) ?_,rfl,k _ A⟩
 exact(show e9 X.prog X.w _ F _ (.lst (f.map fun e=>V.ref e.2.1))from⟨by rw [Qi];exact QL g (by rw [Yj];lia),b.toList,K,q,by rw [Array.toArray_toList];exact E⟩)
end
end KP
namespace KP
open PySem PySem.Spec PyProof.Rows L2 DL DC ST SL
def vH:List D->Option CK
 | []=>some []
 | d::r=>(gJ d).bind fun k=>(vH r).bind fun a=>some (k::a)
def k5:D->Option CK
 | .tuple (d::r)=>vH (d::r)
 | _=>none
theorem GB{K:PySem.W.Frag}{F:JY->Prop}{H:Hp}:∀{ds:List D}{vs:List V}{ks:CK},Reps K F H ds vs->vH ds=some ks->∃ bs:List JY,vs=bs.map V.ref/\Paired (fun(ks:List Int) (b:JY)=>bP K H b (ks.map V.int)) ks bs
 | _,_,_,.nil,h=>by cases h;exact⟨[],rfl,.nil⟩
 | _,_,_,.cons r t,h=>by
  obtain⟨k,e,h⟩:=aG h;obtain⟨ks,d,h⟩:=aG h;cases h;obtain⟨b,rfl,c⟩:=y4 r e;obtain⟨bs,rfl,a⟩:=GB t d
  exact⟨b::bs,rfl,.cons c a⟩
theorem x5{K:PySem.W.Frag}{F:JY->Prop}{H:Hp}{d:D}{v:V}{ks:CK}(r:aR K F H d v)(h:k5 d=some ks):∃ b,v=.ref b/\gL K H (.inr ks) b:=by
 cases r with
 | @tup a vs c h1 r1=>
  cases c with
  | nil=>cases h
  | cons d c=>
   have h:vH (d::c)=some ks:=h;obtain⟨bs,rfl,e⟩:=GB r1 h
   refine⟨a,rfl,?_,bs,h1,e⟩
   intro z;subst z;cases e;cases r1
 | _=>cases h
theorem OS{P:J2}{w:J5}(h h':Heap)(k:CK)(b:JY)(x:(gZ P w).is h k b)(e:∀ b o,h.get? b=some o->h'.get? b=some o):(gZ P w).is h' k b:=by
 obtain⟨o,a,n,d,g,f,bs,i,r⟩:=x
 exact⟨o,a,n,e _ _ d,g,f,bs,i,Paired.mapP r fun c b q=>Kn h h' c b q e⟩
theorem ES{l:List CB}{b:Nat->CK}{d:Nat->JY}{a:Nat->YP}(k:(l.map (·.1)).Nodup)(m:∀ i p,l[i]?=some p->b i=p.1/\d i=p.2/\a i=.bool true):∀ i,i<=l.length->iE b d a i=eQ (l.take i)
 | 0,_=>rfl
 | i+1,hi=>by
  have g:i<l.length:=hi
  have e:l[i]?=some l[i]:=by simp [g]
  obtain⟨s,r,q⟩:=m i _ e;unfold iE;rw [ES k m i (by lia),s,r,q];unfold UW
  have n:l[i].1∉(l.take i).map (·.1):=fun o=>by
   obtain⟨j,f⟩:=Q0 o;rw [QF]at f
   have h:j<i:=by
    by_cases c:j<i
    ·exact c
    ·rw [YU (by simp;lia)]at f;cases f
   rw [JD,if_pos h]at f
   have t:(l.map (·.1))[j]?=(l.map (·.1))[i]?:=by
    rw [QF,QF,f,e];rfl
   have:=(List.getElem?_inj (by simp;lia) k).mp t
   lia
  rw [v6,decide_eq_false n,if_neg Qq,List.take_succ,e];unfold eQ;rw [Yi];rfl
def Ny(K:PySem.W.Frag):List V->Hp->VK->Prop:=fun b H Q=>∃(F:JY->Prop) (ds:List D) (cs:List CK),(∀ a,F a->H a≠none)/\Reps K F H [.list (ds.map fun d=>.tuple [d,.bool true])] b/\Paired (fun d k=>k5 d=some k) ds cs/\cs.Nodup/\cs.length<=1000 /\
 ∀ p l ep,H p=none->l.map (·.1)=cs->(∀ q∈l,gL K H (.inr q.1) q.2)->Q (.ref p) (aJ H p (cN p (dI l) ep))
theorem II{K:PySem.W.Frag}{F:JY->Prop}{H:Hp}:∀{ds:List D}{cs:List CK}{vs:List V},Paired (fun d k=>k5 d=some k) ds cs->Reps K F H (ds.map fun d=>.tuple [d,.bool true]) vs->∃ l:List CB,l.map (·.1)=cs/\Paired (fun(p:CB) (v:V)=>∃ t,v=.ref t/\bP K H t [.ref p.2,.bl true]/\gL K H (.inr p.1) p.2) l vs
 | _,_,_,.nil,h=>by cases h;exact⟨[],rfl,.nil⟩
 | _,_,_,.cons e t,h=>by
  cases h with
  | cons r f=>
   obtain⟨l,n,m⟩:=II t f
   cases r with
   | @tup a us _ sq c=>
    cases c with
    | cons i c=>
     cases c with
     | cons g c=>
      cases c;cases g;obtain⟨b,rfl,j⟩:=x5 i e
      exact⟨(_,b)::l,by rw [Qm,n],.cons ⟨a,rfl,sq,j⟩ m⟩
section
variable {X:Cx}
theorem O1(hc:X.calm=true)(hu:X.A.units+66<Zc):fV X (.type "dict") (Ny X.K):=fun W s σ H xs us Q I rv zz=>by
 obtain⟨F,ds,cs,z,R,pd,hn,hl,k⟩:=zz
 cases R with
 | cons R1 R2=>
  cases R2
  cases R1 with
  | @lst a vs _ h1 y=>
   obtain⟨u,rfl,ru⟩:=kP rv;cases ru;obtain⟨c,e,⟨o,nl,g1,g2,Z,Y⟩,_⟩:=I.list h1.sq;obtain⟨l,U,j⟩:=II pd y
   have ll:l.length=cs.length:=by rw [<- U,Qi]
   have b:c.length=l.length:=by rw [<- e.length];exact(Paired.length j).symm
   obtain⟨oc,od,a0,E⟩:=o
   have O:s.heap.get? a=some { cls:=.type "list",dict:=none,data:=.seq c.toArray nl,slots:=E }:=by
    rw [g1];simp only at g2 Z Y;rw [g2,Z,Y]
   refine Ge (knd:=gZ X.prog X.w) (fun i=>(l.getD i ([],0)).1) (fun i=>(l.getD i ([],0)).2) (fun _=>.bool true) OS (I.ok.hd hc) (fun B hB=>show B.units+6<Zc by lia) O (fun i v hv=>?_) (fun i d=>?_) (by rw [QK,b,ll];exact hl) fun h' tk dd keep=>?_
   ·have f:c[i]?=some v:=by simpa using hv
    have d:i<l.length:=by rw [<- b];exact(Qc.mp f).1
    have S:l[i]?=some l[i]:=by simp [d]
    have T:l.getD i ([],0)=l[i]:=by simp [List.getD,d]
    obtain⟨x,J,t,rfl,m,h⟩:=Paired.at j S;obtain⟨a2,rj,G,_⟩:=I.tuple m;obtain⟨u1,u2,rfl,y,r⟩:=Vals.two rj;cases y;have r:u2=ZQ true:=r;subst r;obtain⟨w',ew,n⟩:=e.get J;rw [f]at ew;cases ew;cases n
    exact⟨t,rfl,by rw [T];exact G⟩
   ·have g:i<l.length:=by rw [<- b];simpa using d
    have S:l[i]?=some l[i]:=by simp [g]
    have T:l.getD i ([],0)=l[i]:=by simp [List.getD,g]
    obtain⟨x,J,t,_,m,h⟩:=Paired.at j S
    show(gZ X.prog X.w).is s.heap (l.getD i ([],0)).1 (l.getD i ([],0)).2
    rw [T];exact uG I h
   ·have M:c.toArray.size=l.length:=by rw [QK,b]
    rw [M,ES (by rw [U];exact hn) (fun i p N=>by
     have:l.getD i ([],0)=p:=by simp [List.getD,N]
     rw [this]
     exact⟨rfl,rfl,rfl⟩) l.length (Ql _),YR (Ql _)]at dd
    have lo:(s.heap.objs.size == ZM)=false:=beq_eq_false_iff_ne.mpr (Z2 (QB (EJ I)));have N:H s.heap.objs.size=none:=I.hok.fresh (Ql _);obtain⟨ep,oo⟩:=Bp (H:=H) lo dd
    refine⟨.ref s.heap.objs.size,aJ H s.heap.objs.size (cN s.heap.objs.size (dI l) ep),I.laid keep (Ql _) ?_,rfl,k _ l ep N U fun q hq=>?_⟩
    ·exact oo
    ·obtain⟨i,d⟩:=List.mem_iff_getElem?.mp hq;obtain⟨x,J,t,_,m,h⟩:=Paired.at j d;exact h
end
end KP
namespace KP
open PySem PySem.Spec PyProof.Rows L2 DL DC ST SL OB SD EL
abbrev K3:=D × List CK × Int
def gS(b:V)(a:JY)(n:Int):List (Str × V):=[("floor",b),("sights",.ref a),("looks",.int n)]
structure KA(K:PySem.W.Frag)(C:JY)(F:JY->Prop)(H:Hp)(p a dx:JY)(vf:V)(l:List CB)(ep:Nat)(b:K3):Prop where
 hp:H p=some (.ins C dx (gS vf a b.2.2))
 rf:aR K F H b.1 vf
 cd:Cd K H a l ep
 el:l.map (·.1)=b.2.1
 np:¬ F p
 na:¬ F a
def Lz(K:PySem.W.Frag)(C:JY)(F:JY->Prop)(H:Hp)(p:JY)(b:K3)(φ:JY->Prop):Prop:=∃ a dx vf l ep,KA K C F H p a dx vf l ep b/\∀ x,φ x ↔ x=p ∨ x=a
theorem Cd.stay{K:PySem.W.Frag}{F d:JY->Prop}{H b:Hp}{a:JY}{l:List CB}{ep:Nat}(h:Cd K H a l ep)(T:bN K F d H b)(s:b a=some (cN a (dI l) ep)):Cd K b a l ep:=⟨s,fun p c=>(h.ky p c).stay T,h.nd,h.ln⟩
def kK(K:PySem.W.Frag)(C:JY):eG K K3 where
 cl:=fun _=>C
 fn:=fun _=>["floor","sights","looks"]
 At:=Lz K C
 own:=fun⟨a,dx,vf,l,ep,h,hφ⟩=>⟨(hφ _).mpr (.inl rfl),fun x b=>by
  rcases(hφ x).mp b with rfl | rfl
  ·exact⟨by rw [h.hp];simp,h.np⟩
  ·exact⟨by rw [h.cd.at_];simp,h.na⟩⟩
 ins:=fun⟨a,dx,vf,l,ep,h,hφ⟩=>⟨dx,_,h.hp,rfl⟩
 keep:=fun⟨a,dx,vf,l,ep,h,hφ⟩ T s n=>⟨a,dx,vf,l,ep,⟨s _ _ ((hφ _).mpr (.inl rfl)) h.hp,h.rf.stay T,h.cd.stay T (s _ _ ((hφ _).mpr (.inr rfl)) h.cd.at_),h.el,n _ ((hφ _).mpr (.inl rfl)),n _ ((hφ _).mpr (.inr rfl))⟩,hφ⟩
section
variable {K:PySem.W.Frag}{C:JY}
theorem Mt(vf:V)(a:JY)(n:Int):(gS vf a n).lookup ("floor":Str)=some vf:=rfl
theorem vM(b:V)(a:JY)(n:Int):(gS b a n).lookup ("sights":Str)=some (.ref a):=by
 unfold gS;rw [QN,show(("sights":Str) == ("floor":Str))=false from by decide,QN,show(("sights":Str) == ("sights":Str))=true from by decide]
theorem Mu(b:V)(a:JY)(n:Int):(gS b a n).lookup ("looks":Str)=some (.int n):=by
 unfold gS;rw [QN,show(("looks":Str) == ("floor":Str))=false from by decide,QN,show(("looks":Str) == ("sights":Str))=false from by decide,QN,show(("looks":Str) == ("looks":Str))=true from by decide]
theorem Nl(b v:V)(a:JY)(n:Int):bL "floor" v (gS b a n)=gS v a n:=by
 unfold gS bL;rw [if_pos rfl]
theorem Nm(b:V)(a:JY)(n m:Int):bL "looks" (.int m) (gS b a n)=gS b a m:=by
 unfold gS bL;rw [if_neg (by decide)];unfold bL;rw [if_neg (by decide)];unfold bL;rw [if_pos rfl]
def lM:K3->Option D:=fun b=>some b.1
def BX:K3->Option D:=fun b=>some (.int b.2.2)
def HB:K3->D->Option K3:=fun b d=>some (d,b.2)
def BY:K3->D->Option K3:=fun b d=>match d with
 | .int n=>some (b.1,b.2.1,n)
 | _=>none
theorem uW:Bd (kK K C) C "floor" lM:=fun b q=>by
 obtain⟨a,e,c,l,f,h,d⟩:=b;cases q
 exact⟨e,_,c,h.hp,Mt _ _ _,h.rf⟩
theorem Mc:Bd (kK K C) C "looks" BX:=fun b q=>by
 obtain⟨a,d,e,l,f,h,c⟩:=b;cases q
 exact⟨d,_,_,h.hp,Mu _ _ _,.int _⟩
theorem HD{F:JY->Prop}{H:Hp}{p a d:JY}{f c:V}{l:List CB}{ep:Nat}{b b':K3}(h:KA K C F H p a d f l ep b)(z:∀ a,F a->H a≠none)(e:b'.2.1=b.2.1)(r:aR K F H b'.1 c):KA K C F (aJ H p (.ins C d (gS c a b'.2.2))) p a d c l ep b':=by
 have T:bN K F F H (aJ H p (.ins C d (gS c a b'.2.2))):=(jL (φ:=fun _=>True) z h.hp fO.1 fO.2 h.np trivial).st;have g:a≠p:=qM h.cd.at_ h.hp (by intro w;cases w)
 exact⟨cS,r.stay T,h.cd.stay T (by rw [aZ g];exact h.cd.at_),h.el.trans e.symm,h.np,h.na⟩
theorem NV:Bh (kK K C) C "floor" HB:=fun{F H p b b' φ d v} zz r q z=>by
 obtain⟨a,e,g,l,f,h,c⟩:=zz;cases q
 exact⟨e,_,h.hp,(show 3<1000 by decide),a,e,_,l,f,by rw [Nl];exact HD (b':=(d,b.2)) h z rfl r,c⟩
theorem NW:Bh (kK K C) C "looks" BY:=fun{F H p b b' φ d v} zz r q z=>by
 obtain⟨a,e,f,l,g,h,c⟩:=zz
 cases d with
 | int n=>
  cases q;cases r
  exact⟨e,_,h.hp,(show 3<1000 by decide),a,e,f,l,g,by rw [Nm];exact HD (b':=(b.1,b.2.1,n)) h z rfl h.rf,c⟩
 | _=>cases q
end
def l4(j:Nat)(ge:aA->Option D):GX K3 D:=fun c a=>(ge c).bind fun d=>(k5 d).bind fun k=>(a[j]?).bind fun b=>some (.bool (decide (k∈b.2.1)),a)
def CQ(j:Nat)(ge:aA->Option D):GS K3:=fun a c=>(ge a).bind fun d=>(k5 d).bind fun k=>(c[j]?).bind fun b=>if k∈b.2.1 then some (.nx a (c.set j (b.1,b.2.1.erase k,b.2.2)))else none
def CT(j:Nat)(ge:aA->Option D):GS K3:=fun a c=>(ge a).bind fun d=>(k5 d).bind fun k=>(c[j]?).bind fun b=>if k∉b.2.1/\b.2.1.length<1000 then some (.nx a (c.set j (b.1,b.2.1++[k],b.2.2)))else none
def KQ(j:Nat):GX K3 D:=fun _ a=>(a[j]?).bind fun b=>(iF [.list (b.2.1.map fun k=>lW (.inr k))]).bind fun d=>some (d,a)
theorem RE{l:List CB}{k:CK}(b:(l.map (·.1)).Nodup)(h:k∈l.map (·.1)):∃ j c,l[j]?=some (k,c)/\(l.eraseIdx j).map (·.1)=(l.map (·.1)).erase k:=by
 induction l with
 | nil=>cases h
 | cons p l a=>
  by_cases e:p.1=k
  ·refine⟨0,p.2,by rw [<- e];rfl,?_⟩
   rw [Qm,e,List.erase_cons_head];rfl
  ·have g:k∈l.map (·.1):=by
    rcases Qp.mp h with h | h
    ·exact absurd h.symm e
    ·exact h
   obtain⟨j,c,f,d⟩:=a (Ye.mp b).2 g
   refine⟨j+1,c,f,?_⟩
   rw [Qm,List.erase_cons_tail (by simpa using e),List.eraseIdx_cons_succ,Qm,d]
section
variable {X:Cx}{C:JY}{τ:List (Nat × Nat)}{e:Expr}{ge:aA->Option D}{pos p:Pos}
theorem G0{i j:Nat}(s:(i,j)∈τ)(I:fX X.K C)(r:gU X.K C "sights"){f:L2.St}{H:Hp}{Q:VK}(q:mX (kK X.K C) τ (l4 j ge) f H Q):oM (Et X.K) (tD X.K ge) (EA X.K (AV i) "sights") f H Q:=by
 obtain⟨F,e,m,O,p,d,n,S,q,c⟩:=q;obtain⟨G,B,q⟩:=aG q;obtain⟨k,A,q⟩:=aG q;obtain⟨b,z,q⟩:=aG q;cases q
 refine⟨F,e,m,G,S.S,B,fun N M v g J=>?_⟩
 have S1:=S.ext g;obtain⟨o,x,a,E,R,l,y,h,u⟩:=jQ S1.o.at_ z;obtain⟨t,rfl,w⟩:=x5 J A
 refine⟨_,S1.hd i j s o x,o.1,C,E,_,_,rfl,h.hp,I,r,vM _ _ _,a,t,l,y,k,rfl,rfl,w,h.cd,?_⟩
 rw [h.el];exact c N M _ p (bZ.ext S.S.fz g) S1 (.bl _)
variable {i j:Nat}{x:Str}{ap:Pos}(hu:X.A.units+65<Zc)(mm:(i,j)∈τ)(cl:fX X.K C)(nf:gU X.K C "sights")(he:DE X e ge)(hN:X.N[i]?=some x)(hv:iB X.env.scope x)(hd:(x == ("__debug__":Str))=false)(hcd:(x == ("__classdict__":Str))=false)(hb:ZA (.Name x p) "sights" X.env (Zh (.Name x p) X.env)=Zh (.Name x p) X.env)
include hu mm cl nf he hN hv hd hcd hb
theorem W1(a:Zz .In (.Attribute (.Name x p) "sights" ap)=false):XE (kK X.K C) τ (.Compare e [.In] [.Attribute (.Name x p) "sights" ap] pos) (l4 j ge):=
 cY (BE (GT hu) he (gN (hW hN hv hd hcd) hb) a) fun _ _ _ q=>G0 mm cl nf q
theorem WC(a:Zz .In (.Attribute (.Name x p) "sights" ap)=false):XT (kK X.K C) τ (.Compare e [.In] [.Attribute (.Name x p) "sights" ap] pos) (xB (l4 j ge)):=
 nV (CZ (GT hu) he (gN (hW hN hv hd hcd) hb) a) fun _ _ _ q=>GZ (fun _ _ _=>G0 mm cl nf) q
omit hu he hN hv hd hcd hb in
theorem HC{F:JY->Prop}{H H₀:Hp}{e:L2.St}{ρ:aA}{Ω:List K3}{os:List Oa}{o:Oa}{a g:JY}{f:V}{l l':List CB}{ep ep':Nat}{b:K3}(S:SO (kK X.K C) τ F H H₀ e ρ Ω os)(s:os[j]?=some o)(h:KA X.K C F H o.1 a g f l ep b)(c:∀ x,o.2 x ↔ x=o.1 ∨ x=a)
  (n:∀ p∈l',gL X.K H (.inr p.1) p.2) (k:(l'.map (·.1)).Nodup) (m:l'.length<=1000):SO (kK X.K C) τ F (aJ H a (cN a (dI l') ep')) H₀ e ρ (Ω.set j (b.1,l'.map (·.1),b.2.2)) (os.set j (o.1,o.2))/\bZ X.K os (os.set j (o.1,o.2)) F F H (aJ H a (cN a (dI l') ep')):=by
 have d:bT X.K o.2 F F H (aJ H a (cN a (dI l') ep')):=jL S.S.fz h.cd.at_ GK.1 GK.2 h.na ((c a).mpr (.inr rfl));have i:o.1≠a:=qM h.hp h.cd.at_ (by intro w;cases w);exact S.turn s d (fun x q=>.inl q) ⟨a,g,f,l',ep',⟨by rw [aZ i];exact h.hp,h.rf.stay d.st,⟨cS,fun p r=>(n p r).stay d.st,k,m⟩,rfl,h.np,h.na⟩,c⟩
theorem W6{s g:Pos}(hs:J0 [e] X.env=(false,Zh e X.env)::J0 [] X.env)(B:ZA (.Attribute (.Name x p) "sights" ap) "pop" X.env (Zh (.Attribute (.Name x p) "sights" ap) X.env)=Zh (.Attribute (.Name x p) "sights" ap) X.env)
  (m:((Zn g (J0 [e] X.env)).all (fun x => !x.1) && (Z5 g (ZG [] X.env)).all (fun x=>x.1.isSome) && decide ([e].length+([]:List Ud).length+(if([]:List Ud).isEmpty then 0 else 1)<30))=true)
  (hl:(s.endLine == g.line)=true) (w:(Zn g (J0 [] X.env)).any (·.1)=false) (u:Zw (.Call (.Attribute (.Attribute (.Name x p) "sights" ap) "pop" s) [e] [] g) none pos.line X.env=pure false):
  XS (kK X.K C) τ (.Expr (.Call (.Attribute (.Attribute (.Name x p) "sights" ap) "pop" s) [e] [] g) pos) (CQ j ge):=
 ps_mono (kL (Ty PySem.F.slot_dict_pop PySem.F.type_dict_pop (R8 hu) (gN (hW hN hv hd hcd) hb) (cL he dC hs) B m hl hs w) u) fun W R H U=>by
  obtain⟨r,O,n,F,T,Ω,os,o,K0,S,q,c⟩:=U;obtain⟨d1,e1,q⟩:=aG q;obtain⟨k,e2,q⟩:=aG q;obtain⟨b,e3,q⟩:=aG q;by_cases A:k∈b.2.1
  ·rw [if_pos A]at q;cases q;obtain⟨o,I,a,M,Y,l,E,h,t⟩:=jQ S.o.at_ e3
   refine⟨_,S.hd i j mm o I,o.1,C,M,_,_,rfl,h.hp,cl,nf,vM _ _ _,⟨a,_,E,rfl,h.cd.at_⟩,F,n,T,d1,S.S,e1,fun Q H1 v E1 R1=>?_⟩
   have S1:=S.ext E1;have d:KA X.K C Q H1 o.1 a M Y l E b:=⟨E1.same _ _ h.hp,h.rf.stay E1.stay,h.cd.stay E1.stay (E1.same _ _ h.cd.at_),h.el,(fun f=>(E1.new _ f).elim h.np fun z=>by rw [h.hp]at z;cases z.1),(fun f=>(E1.new _ f).elim h.na fun z=>by rw [h.cd.at_]at z;cases z.1)⟩;obtain⟨Z,rfl,y⟩:=x5 R1 e2;obtain⟨G,cc,g1,J⟩:=RE d.cd.nd (by rw [d.el];exact A)
   refine⟨a,Z,l,E,k,G,cc,rfl,rfl,y,d.cd,g1,fun ep'=>?_⟩
   obtain⟨N,K2⟩:=HC (X:=X) mm cl nf (ep':=ep') (l':=l.eraseIdx G) S1 I d t (fun p w=>d.cd.ky p (List.mem_of_mem_eraseIdx w)) (by rw [J];exact d.cd.nd.erase _) (QL (List.length_eraseIdx_le _ _) d.cd.ln);rw [J,d.el]at N;exact c Q _ R _ (K0.trans ((bZ.ext S.S.fz E1).trans K2)) (E1.stay.trans K2.k.st) N
  ·rw [if_neg A]at q;cases q
theorem W7{B:Nat}{w A:Pos}(hs:Zw (.Constant (.bool true) B w) (some (.Subscript (.Attribute (.Name x p) "sights" ap) e A)) pos.line X.env=pure false):
  XS (kK X.K C) τ (.Assign [.Subscript (.Attribute (.Name x p) "sights" ap) e A] (.Constant (.bool true) B w) pos) (CT j ge):=
 ps_mono (U5 hu (gN (hW hN hv hd hcd) hb) he hs) fun W Q H T=>by
  obtain⟨s,N,n,F,R,Ω,os,o,K0,S,q,c⟩:=T;obtain⟨d1,e1,q⟩:=aG q;obtain⟨k,e2,q⟩:=aG q;obtain⟨b,e3,q⟩:=aG q;by_cases r:k∉b.2.1/\b.2.1.length<1000
  ·rw [if_pos r]at q;cases q;obtain⟨o,E,a,J,U,l,G,h,u⟩:=jQ S.o.at_ e3
   refine⟨_,S.hd i j mm o E,o.1,C,J,_,_,rfl,h.hp,cl,nf,vM _ _ _,F,n,R,d1,S.S,e1,fun O H1 v E1 R1=>?_⟩
   have S1:=S.ext E1;have d:KA X.K C O H1 o.1 a J U l G b:=⟨E1.same _ _ h.hp,h.rf.stay E1.stay,h.cd.stay E1.stay (E1.same _ _ h.cd.at_),h.el,(fun f=>(E1.new _ f).elim h.np fun z=>by rw [h.hp]at z;cases z.1),(fun f=>(E1.new _ f).elim h.na fun z=>by rw [h.cd.at_]at z;cases z.1)⟩;obtain⟨t,rfl,m⟩:=x5 R1 e2
   refine⟨a,t,l,G,k,rfl,rfl,m,d.cd,by rw [d.el];exact r.1,fun ep'=>?_⟩
   have I:(l++[(k,t)]).map (·.1)=b.2.1++[k]:=by rw [Yi,d.el];rfl
   obtain⟨M,K2⟩:=HC (X:=X) mm cl nf (ep':=ep') (l':=l++[(k,t)]) S1 E d u (fun p g=>by
    rcases QD.mp g with g | g
    ·exact d.cd.ky p g
    ·rw [QJ.mp g];exact m) (by
    rw [I,List.nodup_append]
    refine⟨by rw [<- d.el];exact d.cd.nd,by simp,fun x Z y Y z=>?_⟩
    rw [QJ.mp Y]at z
    exact r.1 (z ▸ Z)) (by
    rw [Qd,Qx,<- Qi (f:=(·.1)),d.el]
    lia)
   rw [I]at M;exact c O _ Q _ (K0.trans ((bZ.ext S.S.fz E1).trans K2)) (E1.stay.trans K2.k.st) M
  ·rw [if_neg r]at q;cases q
omit he in
theorem W2{sp n m:Pos}(Y:X.calm=true)(s:X.A.units+66<Zc)(z:Gl X "sorted")(u:X.mg "sorted"=none)(B:Gl X "list")(w:X.mg "list"=none)
  (G:J0 [.Call (.Name "list" n) [.Attribute (.Name x p) "sights" ap] [] m] X.env=(false,Zh (.Call (.Name "list" n) [.Attribute (.Name x p) "sights" ap] [] m) X.env)::J0 [] X.env) (E:J0 [.Attribute (.Name x p) "sights" ap] X.env=(false,Zh (.Attribute (.Name x p) "sights" ap) X.env)::J0 [] X.env)
  (h3:(Zn pos (J0 [] X.env)).any (·.1)=false) (Z:(Zn m (J0 [] X.env)).any (·.1)=false):
  XE (kK X.K C) τ (.Call (.Name "sorted" sp) [.Call (.Name "list" n) [.Attribute (.Name x p) "sights" ap] [] m] [] pos) (KQ j):=
 cY (xV (wE s) z u UJ (cL (BD (Pu Y) B w boot_list (cL (gN (hW hN hv hd hcd) hb) dC E) (by decide) (by decide) E Z) dC G) (by decide) (by decide) G h3) fun σ H Q N=>by
  obtain⟨F,I,ρ,Ω,R,d,M,S,q,c⟩:=N;obtain⟨b,e1,q⟩:=aG q;obtain⟨d',e2,q⟩:=aG q;cases q;obtain⟨o,W,a,dx,vf,l,ep,h,r⟩:=jQ S.o.at_ e1
  refine⟨_,S.hd i j mm o W,o.1,C,dx,_,_,rfl,h.hp,cl,nf,vM _ _ _,a,_,ep,rfl,h.cd.at_,by unfold dI;rw [Qi];exact h.cd.ln,fun f U=>?_⟩
  have E1:aN F (fun y=>F y ∨ y=f) H (aJ H f (.lst ((dI l).map fun e=>V.ref e.2.1))):=aN.frozen U;have S1:=S.ext E1
  have O:Reps X.K (fun y=>F y ∨ y=f) (aJ H f (.lst ((dI l).map fun e=>V.ref e.2.1))) (b.2.1.map fun k=>lW (.inr k)) ((dI l).map fun e=>V.ref e.2.1):=by
   rw [<- h.el];have g:=fun q t=>(h.cd.ky q t).stay E1.stay
   revert g
   generalize (fun y=>F y ∨ y=f)=F1;generalize aJ H f (.lst ((dI l).map fun e=>V.ref e.2.1))=H1;intro g;clear h r S1 E1
   induction l with
   | nil=>exact .nil
   | cons p l T=>exact .cons (Wk (g p Qo)) (T fun q t=>g q (Qf _ t))
  refine⟨fun y=>F y ∨ y=f,[.list (b.2.1.map fun k=>lW (.inr k))],d,S1.S.fz,.cons (.lst (.inl ⟨.inr rfl,.inl cS⟩) O) .nil,e2,fun F2 H2 v J R2=>?_⟩
  exact c F2 H2 v R (bZ.ext S.S.fz (E1.trans J)) (S1.ext J) R2
end
end KP
namespace My
open PySem PySem.Spec PySem.SeqAt PyProof.Rows L2 CL DL OB SD ZL SL EL DC
def top(i:Nat):Zm:=PySem.Challenge.pw_lampfloor_k43_whole_builders.main.body.getD i (.Pass ⟨0,0,0,0⟩)
structure Fo(K:PySem.W.Frag)(mg:Str->Option YP)(n:Str)(st:Zm)(ps:List Str)(a:JY)(d:J6):Prop where
 F:dR K n n st a d
 m:mg n=some (.ref a)
 b:L2.Binds K d ps []
theorem cA{N P:List Str}{sc:ZX}(h:(sc.kind,sc.isCoroutine,sc.isGenerator,N.take P.length)=(.function,false,false,P))(q:N.Nodup/\(∀ x∈P,sc.names.lookup x=some .local ∨ sc.names.lookup x=some .cell)/\∀ y∈sc.names,y.2≠.free):bR N P sc:=by
 injection h with h1 h
 injection h with h2 h
 injection h with h3 h4
 exact⟨h1,h2,h3,q.1,h4,q.2.1,q.2.2⟩
theorem aI{X:Cx}{e:Expr}{es:List Expr}{ga:aA->Option D}{gr:aA->Option (List D)}(b:DE X e ga)(a:DA X es gr)(h:CW e=true):DA X (e::es) (aD ga gr):=Pa b a h
theorem fY{X:Cx}{es:List Expr}{gr:aA->Option (List D)}{x1 pos}(h:DA X es gr):DE X (.Tuple es x1 pos) (cO gr):=OE h
theorem bW{X:Cx}{e:Expr}{es:List Expr}{gr:aA->Option (List D)}{p pos:Pos}{k m n:Nat}{f:JY}{g:J6}{ps:List Str}{h:Zm}{x:Str}{G:List D->Option D}(F:Fo X.K X.mg x h ps f g)(o:aM X.prog X.w X.K X.mg X.base aO k f g ps (aU X.K n G))(i:cM m X.A)(j:Gl X x)
  (l:DA X (e::es) gr) (a:∀ ρ ds,gr ρ=some ds->ds.length=n) (c:k<=m:=by decide) (d:(x == ("__debug__":Str))=false:=by decide) (he:J0 (e::es) X.env=(false,Zh e X.env)::J0 es X.env:=by rfl) (hpl:(Zn pos (J0 es X.env)).any (·.1)=false:=by rfl):DE X (.Call (.Name x p) (e::es) [] pos) (aV G gr):=Pc o (i.mono c) j F.m F.F.kp F.b l a d he hpl
theorem Mv:∀(ρ:aA) (ds:List D),aH ρ=some ds->ds.length=0:=fun _ _ h=>Rz h
section
variable {a b c d e f:aA->Option D}
theorem c4:∀(ρ:aA) (ds:List D),aD a aH ρ=some ds->ds.length=1:=x8 Mv
theorem k9:∀(ρ:aA) (ds:List D),aD a (aD b aH) ρ=some ds->ds.length=2:=x8 c4
theorem fL:∀(ρ:aA) (ds:List D),aD a (aD b (aD c aH)) ρ=some ds->ds.length=3:=x8 k9
theorem ln4:∀(ρ:aA) (ds:List D),aD a (aD b (aD c (aD d aH))) ρ=some ds->ds.length=4:=x8 fL
end
abbrev AN:Zm:=top 7
abbrev vU:Zm:=top 13
abbrev sV:Zm:=top 15
abbrev sT:Zm:=top 18
abbrev sU:Zm:=top 19
abbrev AQ:Zm:=top 21
abbrev AH:Zm:=top 22
abbrev AL:Zm:=top 23
abbrev vQ:Zm:=top 28
abbrev AM:Zm:=top 36
abbrev AF:Zm:=top 8
abbrev AK:Zm:=top 14
abbrev AS:Zm:=top 24
abbrev AO:Zm:=top 26
abbrev AJ:Zm:=top 37
abbrev AR:Zm:=top 9
abbrev AI:Zm:=top 27
abbrev vT:Zm:=top 29
abbrev vS:Zm:=top 38
abbrev AE:Zm:=top 10
abbrev sS:Zm:=top 11
abbrev vR:Zm:=top 16
abbrev sR:Zm:=top 17
abbrev AG:Zm:=top 12
abbrev nC:Zm:=top 31
abbrev AT:Zm:=top 39
def DH:List Str:=["thing"]
theorem NS:bR DH ["thing"] (aS AN):=cA rfl (by decide +kernel)
def Fr:aA->Option aW:=
  (cQ (mN (vI "int" (eV 0)) (FB (vI "bool" (eV 0)))))
def rL:List D->Option D:=cX 1 Fr
def Af:List Str:=["floor","cells","x"]
theorem Dd:bR Af ["floor"] (aS vU):=cA rfl (by decide +kernel)
def Fb:List Str:=["y","x"]
theorem Sq:Fb.Nodup:=by decide +kernel
def Cu:aA->Option aW:=
  (bO (p4 1 aH)
  (bO (lD (j8 (aD (aF aQ (eV 0) (eC (.int 0))) aH)) (cW 2) (oJ 1 (fQ (fW (j8 (aD (aF aQ (eV 0) (eC (.int 1))) aH)) (cW 0) eT (cO (aD (eV 1) (aD (eV 0) aH))) [none,some 2]))))
  (cQ (eV 1))))
def oS:List D->Option D:=cX 3 Cu
def vC:List Str:=["things"]
theorem HY:bR vC ["things"] (aS sV):=cA rfl (by decide +kernel)
def Be:List Str:=["thing"]
theorem Hg:Be.Nodup:=by decide +kernel
def Fv:aA->Option aW:=
  (cQ (aV A3 (aD (fQ (fW (eW (eV 0)) (cW 0) eT (cO (aD (eV 0) (aD (eC (.bool true)) aH))) [none])) aH)))
def hJ:List D->Option D:=cX 1 Fv
def Ag:List Str:=["floor","walls"]
theorem HW:bR Ag ["floor"] (aS sT):=cA rfl (by decide +kernel)
def Fc:List Str:=["x","y","floor"]
theorem He:Fc.Nodup:=by decide +kernel
def CG:aA->Option aW:=
  (bO (c5 1 (fQ (fW (eW (aF aQ (eV 0) (eC (.int 2)))) (nG 2 (iO (cW 0) (iO (cW 1) nE))) eT (cO (aD (aF g8 (aF g8 (aF aQ (eV 2) (eC (.int 0))) (eC (.int 1))) (eV 0)) (aD (eV 1) aH))) [none,none,some 0])))
  (cQ (cO (aD (aF aQ (eV 0) (eC (.int 0))) (aD (aF aQ (eV 0) (eC (.int 1))) (aD (aV nN (aD (aV iF (aD (eV 1) aH)) aH)) aH))))))
def uC:List D->Option D:=cX 2 CG
def Ah:List Str:=["floor","walls"]
theorem HX:bR Ah ["floor"] (aS sU):=cA rfl (by decide +kernel)
def Fd:List Str:=["x","y"]
theorem Hf:Fd.Nodup:=by decide +kernel
def CA:aA->Option aW:=
  (bO (c5 1 (fQ (fW (eW (aF aQ (eV 0) (eC (.int 2)))) (nG 2 (iO (cW 0) (iO (cW 1) nE))) eT (cO (aD (eV 1) (aD (eV 0) aH))) [none,none])))
  (cQ (cO (aD (aF aQ (eV 0) (eC (.int 1))) (aD (aF aQ (eV 0) (eC (.int 0))) (aD (aV nN (aD (aV iF (aD (eV 1) aH)) aH)) aH))))))
def tJ:List D->Option D:=cX 2 CA
def DM:List Str:=["one","other","far_x","far_y","way_x","way_y","gone_x","gone_y","cells","border_x","border_y"]
theorem jT:bR DM ["one","other"] (aS AQ):=cA rfl (by decide +kernel)
def Cz:aA->Option aW:=
  (bO (c5 2 (aV oC (aD (aF g8 (aF aQ (eV 1) (eC (.int 0))) (aF aQ (eV 0) (eC (.int 0)))) aH)))
  (bO (c5 3 (aV oC (aD (aF g8 (aF aQ (eV 1) (eC (.int 1))) (aF aQ (eV 0) (eC (.int 1)))) aH)))
  (bO (c5 4 (As (eB (aF Ar (aF aQ (eV 1) (eC (.int 0))) (aF aQ (eV 0) (eC (.int 0))))) (eC (.int 1)) (sE pP (eC (.int 1)))))
  (bO (c5 5 (As (eB (aF Ar (aF aQ (eV 1) (eC (.int 1))) (aF aQ (eV 0) (eC (.int 1))))) (eC (.int 1)) (sE pP (eC (.int 1)))))
  (bO (c5 6 (eC (.int 0)))
  (bO (c5 7 (eC (.int 0)))
  (bO (p4 8 (aD (eV 0) aH))
  (bO (n0 (m8 (eB (aF pO (eV 6) (eV 2))) (eB (aF pO (eV 7) (eV 3)))) (bO (c5 9 (aF cK (aF cG (aF cK (eC (.int 2)) (eV 6)) (eC (.int 1))) (eV 3)))
  (bO (c5 10 (aF cK (aF cG (aF cK (eC (.int 2)) (eV 7)) (eC (.int 1))) (eV 2)))
  (bO (fR (eB (aF kZ (eV 9) (eV 10))) (c5 6 (aF cG (eV 6) (eC (.int 1)))) hX)
  (bO (fR (eB (aF kZ (eV 10) (eV 9))) (c5 7 (aF cG (eV 7) (eC (.int 1)))) hX)
  (p3 8 (cO (aD (aF cG (aF aQ (eV 0) (eC (.int 0))) (aF cK (eV 4) (eV 6))) (aD (aF cG (aF aQ (eV 0) (eC (.int 1))) (aF cK (eV 5) (eV 7))) aH)))))))) 900)
  (cQ (eV 8))))))))))
def tI:List D->Option D:=cX 11 Cz
def Dw:List Str:=["cells","couples","here","there"]
theorem zB:bR Dw ["cells"] (aS AH):=cA rfl (by decide +kernel)
def Cw:aA->Option aW:=
  (bO (p4 1 aH)
  (bO (lD (sI (aD (eV 0) (aD (pQ (eV 0) (oE (eC (.int 1))) pV) aH))) (nG 2 (iO (cW 2) (iO (cW 3) nE))) (fR (lU (eB (aF cU (aF aQ (eV 2) (eC (.int 0))) (aF aQ (eV 3) (eC (.int 0))))) (eB (aF cU (aF aQ (eV 2) (eC (.int 1))) (aF aQ (eV 3) (eC (.int 1)))))) (p3 1 (aV nN (aD (aV iF (aD (vJ (aD (cO (aD (aF aQ (eV 2) (eC (.int 0))) (aD (aF aQ (eV 3) (eC (.int 1))) aH))) (aD (cO (aD (aF aQ (eV 3) (eC (.int 0))) (aD (aF aQ (eV 2) (eC (.int 1))) aH))) aH))) aH)) aH))) hX))
  (cQ (eV 1))))
def rJ:List D->Option D:=cX 4 Cw
def DD:List Str:=["one_end","middle","other_end"]
theorem NQ:bR DD ["one_end","middle","other_end"] (aS AL):=cA rfl (by decide +kernel)
def Fn:aA->Option aW:=
  (cQ (D7 (rZ kZ kZ (eV 0) (eV 1) (eV 2)) (rZ kZ kZ (eV 2) (eV 1) (eV 0))))
def rK:List D->Option D:=cX 3 Fn
def Ac:List Str:=["cells","couples","number","one"]
theorem zC:bR Ac ["cells"] (aS vQ):=cA rfl (by decide +kernel)
def E5:List Str:=["other","one"]
theorem Sk:E5.Nodup:=by decide +kernel
def Cv:aA->Option aW:=
  (bO (p4 1 aH)
  (bO (lD (uX (aD (eV 0) aH)) (nG 2 (iO (cW 2) (iO (cW 3) nE))) (oJ 1 (fQ (fW (eW (pQ (eV 0) (oE (aF cG (eV 2) (eC (.int 1)))) pV)) (cW 0) eT (cO (aD (eV 1) (aD (eV 0) aH))) [none,some 3]))))
  (cQ (eV 1))))
def lH:List D->Option D:=cX 4 Cv
def DF:List Str:=["_law_script","_law_k"]
theorem NR:bR DF ["_law_script","_law_k"] (aS AM):=cA rfl (by decide +kernel)
def FZ:aA->Option aW:=
  (bO (fR (eB (aF eA (eV 0) (vJ aH))) (cQ (aF cK (eC (.int 7)) (eV 1))) hX)
  (cQ (aF cG (aF aQ (eV 0) (aF j0 (eV 1) (aV eU (aD (eV 0) aH)))) (aF cK (eC (.int 6553)) (aF oY (eV 1) (aV eU (aD (eV 0) aH)))))))
def tG:List D->Option D:=cX 2 FZ
def Du:List Str:=["thing"]
theorem NK:bR Du ["thing"] (aS AF):=cA rfl (by decide +kernel)
def Fu:aA->Option aW:=
  (bO (fR (m8 (lV (eB (vI "tuple" (eV 0)))) (eB (aF cU (aV eU (aD (eV 0) aH)) (eC (.int 2))))) (cQ (eC (.bool false))) hX)
  (cQ (mN (aV rL (aD (aF aQ (eV 0) (eC (.int 0))) aH)) (aV rL (aD (aF aQ (eV 0) (eC (.int 1))) aH)))))
def uB:List D->Option D:=cX 1 Fu
def DB:List Str:=["floor"]
theorem NP:bR DB ["floor"] (aS AK):=cA rfl (by decide +kernel)
def Fy:aA->Option aW:=
  (cQ (o0 (Ci (m9 (aD (aV oS (aD (eV 0) aH)) aH)) (m9 (aD (aF aQ (eV 0) (eC (.int 2))) aH)))))
def nJ:List D->Option D:=cX 1 Fy
def DP:List Str:=["one","other","cell","way_x","way_y","aside"]
theorem zD:bR DP ["one","other","cell"] (aS AS):=cA rfl (by decide +kernel)
def CF:aA->Option aW:=
  (bO (fR (m8 (lV (eB (aV rK (aD (aF aQ (eV 0) (eC (.int 0))) (aD (aF aQ (eV 2) (eC (.int 0))) (aD (aF aQ (eV 1) (eC (.int 0))) aH)))))) (lV (eB (aV rK (aD (aF aQ (eV 0) (eC (.int 1))) (aD (aF aQ (eV 2) (eC (.int 1))) (aD (aF aQ (eV 1) (eC (.int 1))) aH))))))) (cQ (eC (.bool false))) hX)
  (bO (c5 3 (aF g8 (aF aQ (eV 1) (eC (.int 0))) (aF aQ (eV 0) (eC (.int 0)))))
  (bO (c5 4 (aF g8 (aF aQ (eV 1) (eC (.int 1))) (aF aQ (eV 0) (eC (.int 1)))))
  (bO (c5 5 (aV oC (aD (aF g8 (aF cK (eV 3) (aF g8 (aF aQ (eV 2) (eC (.int 1))) (aF aQ (eV 0) (eC (.int 1))))) (aF cK (eV 4) (aF g8 (aF aQ (eV 2) (eC (.int 0))) (aF aQ (eV 0) (eC (.int 0)))))) aH)))
  (cQ (aF kZ (aF cK (eC (.int 2)) (eV 5)) (aF cG (aV oC (aD (eV 3) aH)) (aV oC (aD (eV 4) aH)))))))))
def nI:List D->Option D:=cX 6 CF
def DK:List Str:=["solids","one","other","cells","cell","first","second"]
theorem tX:bR DK ["solids","one","other"] (aS AO):=cA rfl (by decide +kernel)
def CD:aA->Option aW:=
  (bO (c5 3 (aV tI (aD (eV 1) (aD (eV 2) aH))))
  (bO (lD (eW (pQ (eV 3) pV (oE (sE pP (eC (.int 1)))))) (cW 4) (fR (eB (aF (iX false) (eV 4) (eV 0))) (cQ (eC (.bool false))) hX))
  (bO (lD (eW (aV rJ (aD (eV 3) aH))) (nG 2 (iO (cW 5) (iO (cW 6) nE))) (fR (lU (eB (aF (iX false) (eV 5) (eV 0))) (eB (aF (iX false) (eV 6) (eV 0)))) (cQ (eC (.bool false))) hX))
  (cQ (eC (.bool true))))))
def oU:List D->Option D:=cX 7 CD
def Dz:List Str:=["_law_script","_law_k","_law_many","_law_cell_here"]
theorem Dc:bR Dz ["_law_script","_law_k","_law_many"] (aS AJ):=cA rfl (by decide +kernel)
def Ga:aA->Option aW:=
  (bO (c5 3 (aF j0 (aF cG (aF cK (aF j0 (aV tG (aD (eV 0) (aD (eV 1) aH))) (eC (.int 2147483563))) (eC (.int 69069))) (aF cK (eC (.int 104723)) (aF cG (eV 1) (eC (.int 1))))) (eC (.int 2147483563))))
  (bO (c5 3 (aF j0 (aF cG (aF cK (eV 3) (eV 3)) (aF oY (eV 3) (eC (.int 3)))) (eC (.int 2147483399))))
  (cQ (aF j0 (aF oY (aF j0 (aF cG (aF cK (eV 3) (eV 3)) (aF oY (eV 3) (eC (.int 7)))) (eC (.int 2147483647))) (eC (.int 11))) (eV 2)))))
def e8:List D->Option D:=cX 4 Ga
def DN:List Str:=["floor","thing"]
theorem NU:bR DN ["floor","thing"] (aS AR):=cA rfl (by decide +kernel)
def Fp:aA->Option aW:=
  (bO (fR (lV (eB (aV uB (aD (eV 1) aH)))) (cQ (eC (.bool false))) hX)
  (cQ (mN (rZ kZ pO (eC (.int 0)) (aF aQ (eV 1) (eC (.int 0))) (aF aQ (eV 0) (eC (.int 0)))) (rZ kZ pO (eC (.int 0)) (aF aQ (eV 1) (eC (.int 1))) (aF aQ (eV 0) (eC (.int 1)))))))
def tK:List D->Option D:=cX 2 Fp
def Dx:List Str:=["solids","one","other"]
theorem NM:bR Dx ["solids","one","other"] (aS AI):=cA rfl (by decide +kernel)
def Hm:aA->Option aW:=
  (cQ (mN (aF (iX true) (eV 2) (eV 0)) (aV oU (aD (eV 0) (aD (eV 1) (aD (eV 2) aH))))))
def lI:List D->Option D:=cX 3 Hm
def Ae:List Str:=["floor","solids"]
theorem HV:bR Ae ["floor"] (aS vT):=cA rfl (by decide +kernel)
def Fa:List Str:=["couple","solids"]
theorem So:Fa.Nodup:=by decide +kernel
def Cy:aA->Option aW:=
  (bO (c5 1 (aV hJ (aD (aF aQ (eV 0) (eC (.int 2))) aH)))
  (cQ (fQ (fW (eW (aV lH (aD (aV nJ (aD (eV 0) aH)) aH))) (cW 0) (eB (aV oU (aD (eV 1) (aD (aF aQ (eV 0) (eC (.int 0))) (aD (aF aQ (eV 0) (eC (.int 1))) aH))))) (eV 0) [none,some 1]))))
def kF:List D->Option D:=cX 2 Cy
def Ad:List Str:=["_law_script","_law_at","_law_most","_law_wide","_law_high","_law_rate","_law_shuts","_law_x"]
theorem q8:bR Ad ["_law_script","_law_at","_law_most"] (aS vS):=cA rfl (by decide +kernel)
def E9:List Str:=["_law_y","_law_x","_law_script","_law_rate","_law_at"]
theorem Sn:E9.Nodup:=by decide +kernel
def Ct:aA->Option aW:=
  (bO (c5 3 (aF cG (eC (.int 1)) (aV e8 (aD (eV 0) (aD (eV 1) (aD (eV 2) aH))))))
  (bO (c5 4 (aF cG (eC (.int 1)) (aV e8 (aD (eV 0) (aD (aF cG (eV 1) (eC (.int 1))) (aD (eV 2) aH))))))
  (bO (c5 5 (aF aQ (vJ (aD (eC (.int 2)) (aD (eC (.int 3)) (aD (eC (.int 3)) (aD (eC (.int 5)) (aD (eC (.int 9)) aH)))))) (aV e8 (aD (eV 0) (aD (aF cG (eV 1) (eC (.int 2))) (aD (eC (.int 5)) aH))))))
  (bO (p4 6 aH)
  (bO (lD (j8 (aD (eV 3) aH)) (cW 7) (oJ 6 (fQ (fW (j8 (aD (eV 4) aH)) (cW 0) (eB (aF eA (aV e8 (aD (eV 2) (aD (aF cG (aF cG (aF cG (eV 4) (eC (.int 3))) (aF cK (eC (.int 8)) (eV 1))) (eV 0)) (aD (eV 3) aH)))) (eC (.int 0)))) (cO (aD (eV 1) (aD (eV 0) aH))) [none,some 7,some 0,some 5,some 1]))))
  (cQ (cO (aD (eV 3) (aD (eV 4) (aD (aV nN (aD (eV 6) aH)) aH))))))))))
def tH:List D->Option D:=cX 8 Ct
def Dt:List Str:=["floor","cell"]
theorem NJ:bR Dt ["floor","cell"] (aS AE):=cA rfl (by decide +kernel)
def FA:aA->Option aW:=
  (fR (lV (eB (aV tK (aD (eV 0) (aD (eV 1) aH))))) (fun _=>none) hX)
def mI:List D->Option D:=cX 2 FA
def DJ:List Str:=["floor","cell"]
theorem NT:bR DJ ["floor","cell"] (aS sS):=cA rfl (by decide +kernel)
def Fq:aA->Option aW:=
  (bO (qY (aV mI (aD (eV 0) (aD (eV 1) aH))))
  (cQ (aF (jE false) (eV 1) (aF aQ (eV 0) (eC (.int 2))))))
def kG:List D->Option D:=cX 2 Fq
def Dy:List Str:=["floor","cell"]
theorem NO:bR Dy ["floor","cell"] (aS vR):=cA rfl (by decide +kernel)
def BJ:aA->Option aW:=
  (bO (qY (aV mI (aD (eV 0) (aD (eV 1) aH))))
  (cQ (cO (aD (aF aQ (eV 0) (eC (.int 0))) (aD (aF aQ (eV 0) (eC (.int 1))) (aD (aV nN (aD (o0 (m9 (aD (aF cG (aF aQ (eV 0) (eC (.int 2))) (cO (aD (eV 1) aH))) aH))) aH)) aH))))))
def iC:List D->Option D:=cX 2 BJ
def Ab:List Str:=["floor","cell"]
theorem NN:bR Ab ["floor","cell"] (aS sR):=cA rfl (by decide +kernel)
def EZ:List Str:=["wall","cell"]
theorem Sj:EZ.Nodup:=by decide +kernel
def BL:aA->Option aW:=
  (bO (qY (aV mI (aD (eV 0) (aD (eV 1) aH))))
  (cQ (cO (aD (aF aQ (eV 0) (eC (.int 0))) (aD (aF aQ (eV 0) (eC (.int 1))) (aD (aV nN (aD (fQ (fW (eW (aF aQ (eV 0) (eC (.int 2)))) (cW 0) (eB (aF cU (eV 0) (eV 1))) (eV 0) [none,some 1])) aH)) aH))))))
def iD:List D->Option D:=cX 2 BL
def Dv:List Str:=["floor","cell"]
theorem NL:bR Dv ["floor","cell"] (aS AG):=cA rfl (by decide +kernel)
def Fz:aA->Option aW:=
  (fR (eB (aV kG (aD (eV 0) (aD (eV 1) aH)))) (fun _=>none) hX)
def uD:List D->Option D:=cX 2 Fz
def r8:List Str:=["floor","cell","freed","met","before","seeing","after"]
theorem qZ:bR r8 ["floor","cell"] (aS nC):=cA rfl (by decide +kernel)
def EV:List Str:=["couple","cell"]
theorem Sf:EV.Nodup:=by decide +kernel
def EW:List Str:=["couple","before"]
theorem Sg:EW.Nodup:=by decide +kernel
def EY:List Str:=["couple","after"]
theorem Si:EY.Nodup:=by decide +kernel
def BI:aA->Option aW:=
  (bO (c5 2 (aV iD (aD (eV 0) (aD (eV 1) aH))))
  (bO (c5 3 (fQ (fW (eW (aV lH (aD (aV nJ (aD (eV 2) aH)) aH))) (cW 0) (eB (aV nI (aD (aF aQ (eV 0) (eC (.int 0))) (aD (aF aQ (eV 0) (eC (.int 1))) (aD (eV 1) aH))))) (eV 0) [none,some 1])))
  (bO (c5 4 (aV hJ (aD (aF aQ (eV 2) (eC (.int 2))) aH)))
  (bO (c5 5 (fQ (fW (eW (eV 3)) (cW 0) (eB (aV lI (aD (eV 1) (aD (aF aQ (eV 0) (eC (.int 0))) (aD (aF aQ (eV 0) (eC (.int 1))) aH))))) (eV 0) [none,some 4])))
  (bO (c5 6 (aV hJ (aD (aF aQ (aV iC (aD (eV 0) (aD (eV 1) aH))) (eC (.int 2))) aH)))
  (cQ (aV eU (aD (fQ (fW (eW (eV 5)) (cW 0) (lV (eB (aV lI (aD (eV 1) (aD (aF aQ (eV 0) (eC (.int 0))) (aD (aF aQ (eV 0) (eC (.int 1))) aH)))))) (eV 0) [none,some 6])) aH))))))))
def oV:List D->Option D:=cX 7 BI
structure n9(K:PySem.W.Frag)(mg:Str->Option YP)(a:Nat->JY)(d:Nat->J6):Prop where
 F_qg:Fo K mg "is_whole" AN ["thing"] (a 0) (d 0)
 F_qf:Fo K mg "all_cells" vU ["floor"] (a 1) (d 1)
 F_qn:Fo K mg "marked" sV ["things"] (a 2) (d 2)
 F_qj:Fo K mg "mirrored" sT ["floor"] (a 3) (d 3)
 F_ql:Fo K mg "flipped" sU ["floor"] (a 4) (d 4)
 F_qk:Fo K mg "crossed" AQ ["one","other"] (a 5) (d 5)
 F_q3:Fo K mg "couples_beside" AH ["cells"] (a 6) (d 6)
 F_qd:Fo K mg "is_between" AL ["one_end","middle","other_end"] (a 7) (d 7)
 F_q7:Fo K mg "all_couples" vQ ["cells"] (a 8) (d 8)
 F_qe:Fo K mg "_law_cell" AM ["_law_script","_law_k"] (a 9) (d 9)
 F_q1:Fo K mg "is_whole_couple" AF ["thing"] (a 10) (d 10)
 F_qc:Fo K mg "open_cells" AK ["floor"] (a 11) (d 11)
 F_qo:Fo K mg "meets" AS ["one","other","cell"] (a 12) (d 12)
 F_qi:Fo K mg "lets_see" AO ["solids","one","other"] (a 13) (d 13)
 F_q9:Fo K mg "_law_drawn" AJ ["_law_script","_law_k","_law_many"] (a 14) (d 14)
 F_qm:Fo K mg "is_cell" AR ["floor","thing"] (a 15) (d 15)
 F_q5:Fo K mg "see_each_other" AI ["solids","one","other"] (a 16) (d 16)
 F_qb:Fo K mg "couples_of" vT ["floor"] (a 17) (d 17)
 F_qa:Fo K mg "_law_floor" vS ["_law_script","_law_at","_law_most"] (a 18) (d 18)
 F_q0:Fo K mg "refuse_off_floor" AE ["floor","cell"] (a 19) (d 19)
 F_qh:Fo K mg "is_solid" sS ["floor","cell"] (a 20) (d 20)
 F_q8:Fo K mg "with_solid" vR ["floor","cell"] (a 21) (d 21)
 F_q6:Fo K mg "without_solid" sR ["floor","cell"] (a 22) (d 22)
 F_q2:Fo K mg "refuse_not_open" AG ["floor","cell"] (a 23) (d 23)
 F_q4:Fo K mg "sights_through" nC ["floor","cell"] (a 24) (d 24)
 F_qp:Fo K mg "law" AT ["_law_script"] (a 25) (d 25)
 z_isinstance:mg "isinstance"=none
 z_int:mg "int"=none
 z_bool:mg "bool"=none
 z_range:mg "range"=none
 z_dict:mg "dict"=none
 z_sorted:mg "sorted"=none
 z_tuple:mg "tuple"=none
 z_abs:mg "abs"=none
 z_zip:mg "zip"=none
 z_enumerate:mg "enumerate"=none
 z_len:mg "len"=none
 z_set:mg "set"=none
 z_list:mg "list"=none
section
variable {P:J2}{w:J5}{K:PySem.W.Frag}{mg:Str->Option YP}{base:Heap}{a:Nat->JY}{d:Nat->J6}(T:n9 K mg a d)
include T
theorem M3:aM P w K mg base aO 1 (a 0) (d 0) ["thing"] (aU K 1 rL):=by
 refine dV (g:=Fr) (G:=rL) (N:=DH) (k:=0) rfl rfl rfl T.F_qg.F NS fun c A b s H E e=>?_
 exact(bX (dA (x3 (A5 (T:="int") (.inr (.inr (.inl rfl))) rfl T.z_isinstance rfl T.z_int boot_int (by decide) (aC 0)) (uK (Pe (A5 (T:="bool") (.inr (.inr (.inr (.inl rfl)))) rfl T.z_isinstance rfl T.z_bool boot_bool (by decide) (aC 0)))))))
theorem M1:aM P w K mg base aO 1 (a 1) (d 1) ["floor"] (aU K 1 oS):=by
 refine dV (g:=Cu) (G:=oS) (N:=Af) (k:=0) rfl rfl rfl T.F_qf.F Dd fun c A b s H E e=>?_
 exact(bU (uQ (i:=1) Dd.nd aP)
  (bU (rV YG rfl (uO rfl T.z_range (aI (aY aX (aC 0) aK) aP rfl)) (eI (i:=2) Dd.nd) (bX (Ce (i:=1) (nO rfl (jJ (N':=Fb) (inner:=[none,some 2]) (aS vU) Af rfl rfl (by decide +kernel)) (iI 0) (uO rfl T.z_range (aI (aY aX (aC 0) aK) aP rfl)) (fun _ _ _ _ _=>(eI (i:=0) Sq)) (fun _ _ _ _ _=>rX) (fun _ _ _ _ _=>(fY (aI (aC 1) (aI (aC 0) aP rfl) rfl)))))))
  (bX (dA (aC 1)))))
theorem Na:aM P w K mg base aO 1 (a 2) (d 2) ["things"] (aU K 1 hJ):=by
 refine dV (g:=Fv) (G:=hJ) (N:=vC) (k:=0) rfl rfl rfl T.F_qn.F HY fun e A b s H E c=>?_
 exact(bX (dA (oZ (PC rfl (l0 c)) rfl T.z_dict DC.boot_dict (aI (nO rfl (jJ (N':=Be) (inner:=[none]) (aS sV) vC rfl rfl (by decide +kernel)) (iI 0) (iG (aC 0)) (fun _ _ _ _ _=>(eI (i:=0) Hg)) (fun _ _ _ _ _=>rX) (fun _ _ _ _ _=>(fY (aI (aC 0) (aI hO aP rfl) rfl)))) aP rfl))))
theorem M6:aM P w K mg base aO 1 (a 3) (d 3) ["floor"] (aU K 1 uC):=by
 refine dV (g:=CG) (G:=uC) (N:=Ag) (k:=0) rfl rfl rfl T.F_qj.F HW fun e A b s H E c=>?_
 exact(bU (x6 (i:=1) HW.nd rfl (jJ (N':=Fc) (inner:=[none,none,some 0]) (aS sT) Ag rfl rfl (by decide +kernel)) (HH (yK (iI 0) (yK (iI 1) HG))) (iG (aY aX (aC 0) aK)) (fun _ _ _ _ _=>(uM rfl (lJ (eI (i:=0) He) (lJ (eI (i:=1) He) uN)))) (fun _ _ _ _ _=>rX) (fun _ _ _ _ _=>(fY (aI (bE kD (bE kD (aY aX (aC 2) aK) aK) (aC 0)) (aI (aC 1) aP rfl) rfl))))
  (bX (dA (fY (aI (aY aX (aC 0) aK) (aI (aY aX (aC 0) aK) (aI (oZ rS rfl T.z_tuple UB (aI (i0 (wE (l0 c)) rfl T.z_sorted UJ (aI (aC 1) aP rfl)) aP rfl)) aP rfl) rfl) rfl)))))
theorem M8:aM P w K mg base aO 1 (a 4) (d 4) ["floor"] (aU K 1 tJ):=by
 refine dV (g:=CA) (G:=tJ) (N:=Ah) (k:=0) rfl rfl rfl T.F_ql.F HX fun e A b s H E c=>?_
 exact(bU (x6 (i:=1) HX.nd rfl (jJ (N':=Fd) (inner:=[none,none]) (aS sU) Ah rfl rfl (by decide +kernel)) (HH (yK (iI 0) (yK (iI 1) HG))) (iG (aY aX (aC 0) aK)) (fun _ _ _ _ _=>(uM rfl (lJ (eI (i:=0) Hf) (lJ (eI (i:=1) Hf) uN)))) (fun _ _ _ _ _=>rX) (fun _ _ _ _ _=>(fY (aI (aC 1) (aI (aC 0) aP rfl) rfl))))
  (bX (dA (fY (aI (aY aX (aC 0) aK) (aI (aY aX (aC 0) aK) (aI (oZ rS rfl T.z_tuple UB (aI (i0 (wE (l0 c)) rfl T.z_sorted UJ (aI (aC 1) aP rfl)) aP rfl)) aP rfl) rfl) rfl)))))
theorem M7:aM P w K mg base aO 1 (a 5) (d 5) ["one","other"] (aU K 2 tI):=by
 refine dV (g:=Cz) (G:=tI) (N:=DM) (k:=0) rfl rfl rfl T.F_qk.F jT fun e A b s H E c=>?_
 exact(bU (eJ (i:=2) jT.nd (i0 uF rfl T.z_abs boot_abs (aI (bE kD (aY aX (aC 1) aK) (aY aX (aC 0) aK)) aP rfl)))
  (bU (eJ (i:=3) jT.nd (i0 uF rfl T.z_abs boot_abs (aI (bE kD (aY aX (aC 1) aK) (aY aX (aC 0) aK)) aP rfl)))
  (bU (eJ (i:=4) jT.nd (Gu (gW IA (aY aX (aC 1) aK) (aY aX (aC 0) aK) (c6 _)) aK (A9 CM aK)))
  (bU (eJ (i:=5) jT.nd (Gu (gW IA (aY aX (aC 1) aK) (aY aX (aC 0) aK) (c6 _)) aK (A9 CM aK)))
  (bU (eJ (i:=6) jT.nd aK)
  (bU (eJ (i:=7) jT.nd aK)
  (bU (uQ (i:=8) jT.nd (aI (aC 0) aP rfl))
  (bU (Rw 900 YG (sD (Cg (gW (xO (dG c)) (aC 6) (aC 2) (c6 _)) (Ch (gW (xO (dG c)) (aC 7) (aC 3) (c6 _))))) (bU (eJ (i:=9) jT.nd (bE gG (bE dQ (bE gG aK (aC 6)) aK) (aC 3)))
  (bU (eJ (i:=10) jT.nd (bE gG (bE dQ (bE gG aK (aC 7)) aK) (aC 2)))
  (bU (kI (gW l5 (aC 9) (aC 10) (c6 _)) (bX (eJ (i:=6) jT.nd (bE dQ (aC 6) aK))) kJ)
  (bU (kI (gW l5 (aC 10) (aC 9) (c6 _)) (bX (eJ (i:=7) jT.nd (bE dQ (aC 7) aK))) kJ)
  (bX (GF (i:=8) (fY (aI (bE dQ (aY aX (aC 0) aK) (bE gG (aC 4) (aC 6))) (aI (bE dQ (aY aX (aC 0) aK) (bE gG (aC 5) (aC 7))) aP rfl) rfl)))))))))
  (bX (dA (aC 8)))))))))))
theorem MN:aM P w K mg base aO 1 (a 6) (d 6) ["cells"] (aU K 1 rJ):=by
 refine dV (g:=Cw) (G:=rJ) (N:=Dw) (k:=0) rfl rfl rfl T.F_q3.F zB fun e A b s H E c=>?_
 exact(bU (uQ (i:=1) zB.nd aP)
  (bU (rV YG rfl (OJ rfl T.z_zip (aI (aC 0) (aI (A8 (aC 0) (Bc aK) Bb) aP rfl) rfl)) (uM rfl (lJ (eI (i:=2) zB.nd) (lJ (eI (i:=3) zB.nd) uN))) (bX (kI (sD (GH (gW (jP (dG c)) (aY aX (aC 2) aK) (aY aX (aC 3) aK) (c6 _)) (GI (gW (jP (dG c)) (aY aX (aC 2) aK) (aY aX (aC 3) aK) (c6 _))))) (bX (GF (i:=1) (oZ rS rfl T.z_tuple UB (aI (i0 (wE (l0 c)) rfl T.z_sorted UJ (aI (@A6 _ _ _ _ (aI (fY (aI (aY aX (aC 2) aK) (aI (aY aX (aC 3) aK) aP rfl) rfl)) (aI (fY (aI (aY aX (aC 3) aK) (aI (aY aX (aC 2) aK) aP rfl) rfl)) aP rfl) rfl)) aP rfl)) aP rfl)))) kJ)))
  (bX (dA (aC 1)))))
theorem MY:aM P w K mg base aO 1 (a 7) (d 7) ["one_end","middle","other_end"] (aU K 3 rK):=by
 refine dV (g:=Fn) (G:=rK) (N:=DD) (k:=0) rfl rfl rfl T.F_qd.F NQ fun c A b s H E e=>?_
 exact(bX (dA (LV (x4 l5 l5 (aC 0) (aC 1) (aC 2)) (uK (x4 l5 l5 (aC 2) (aC 1) (aC 0))))))
theorem MS:aM P w K mg base aO 1 (a 8) (d 8) ["cells"] (aU K 1 lH):=by
 refine dV (g:=Cv) (G:=lH) (N:=Ac) (k:=0) rfl rfl rfl T.F_q7.F zC fun c A b s H E e=>?_
 exact(bU (uQ (i:=1) zC.nd aP)
  (bU (rV YG rfl (OI rfl T.z_enumerate (aI (aC 0) aP rfl)) (uM rfl (lJ (eI (i:=2) zC.nd) (lJ (eI (i:=3) zC.nd) uN))) (bX (Ce (i:=1) (nO rfl (jJ (N':=E5) (inner:=[none,some 3]) (aS vQ) Ac rfl rfl (by decide +kernel)) (iI 0) (iG (A8 (aC 0) (Bc (bE dQ (aC 2) aK)) Bb)) (fun _ _ _ _ _=>(eI (i:=0) Sk)) (fun _ _ _ _ _=>rX) (fun _ _ _ _ _=>(fY (aI (aC 1) (aI (aC 0) aP rfl) rfl)))))))
  (bX (dA (aC 1)))))
theorem M0:aM P w K mg base aO 1 (a 9) (d 9) ["_law_script","_law_k"] (aU K 2 tG):=by
 refine dV (g:=FZ) (G:=tG) (N:=DF) (k:=0) rfl rfl rfl T.F_qe.F NR fun e A b s H E c=>?_
 exact(bU (kI (gW (nR (dG c)) (aC 0) (@A6 _ _ _ _ aP) (c6 _)) (bX (dA (bE gG aK (aC 1)))) kJ)
  (bX (dA (bE dQ (aY aX (aC 0) (bE qO (aC 1) (i0 mK rfl T.z_len PySem.boot_len (aI (aC 0) aP rfl)))) (bE gG aK (bE xN (aC 1) (i0 mK rfl T.z_len PySem.boot_len (aI (aC 0) aP rfl))))))))
theorem MK(b:aM P w K mg base aO 1 (a 0) (d 0) ["thing"] (aU K 1 rL)):aM P w K mg base aO 2 (a 10) (d 10) ["thing"] (aU K 1 uB):=by
 refine dV (g:=Fu) (G:=uB) (N:=Du) (k:=1) rfl rfl rfl T.F_q1.F NK fun f A c s H E e=>?_
 exact(bU (kI (sD (Cg (rW (j5 (A5 (T:="tuple") (.inr (.inl rfl)) rfl T.z_isinstance rfl T.z_tuple UB (by decide) (aC 0)))) (Ch (gW (jP (dG e)) (i0 mK rfl T.z_len PySem.boot_len (aI (aC 0) aP rfl)) aK (c6 _))))) (bX (dA hO)) kJ)
  (bX (dA (x3 (bW T.F_qg b e rfl (aI (aY aX (aC 0) aK) aP rfl) c4) (uK (bW T.F_qg b e rfl (aI (aY aX (aC 0) aK) aP rfl) c4))))))
theorem MX(c:aM P w K mg base aO 1 (a 1) (d 1) ["floor"] (aU K 1 oS)):aM P w K mg base aO 2 (a 11) (d 11) ["floor"] (aU K 1 nJ):=by
 refine dV (g:=Fy) (G:=nJ) (N:=DB) (k:=1) rfl rfl rfl T.F_qc.F NP fun f A e s H E b=>?_
 exact(bX (dA (Gx rfl (l0 b) rfl T.z_sorted UJ (Rx rfl (l0 b) (Cf rfl (dG b) rfl T.z_set boot_set (aI (bW T.F_qf c b rfl (aI (aC 0) aP rfl) c4) aP rfl)) (Cf rfl (dG b) rfl T.z_set boot_set (aI (aY aX (aC 0) aK) aP rfl))))))
theorem Nb(b:aM P w K mg base aO 1 (a 7) (d 7) ["one_end","middle","other_end"] (aU K 3 rK)):aM P w K mg base aO 2 (a 12) (d 12) ["one","other","cell"] (aU K 3 nI):=by
 refine dV (g:=CF) (G:=nI) (N:=DP) (k:=1) rfl rfl rfl T.F_qo.F zD fun f A c s H E e=>?_
 exact(bU (kI (sD (Cg (rW (j5 (bW T.F_qd b e rfl (aI (aY aX (aC 0) aK) (aI (aY aX (aC 2) aK) (aI (aY aX (aC 1) aK) aP rfl) rfl) rfl) fL))) (Ch (rW (j5 (bW T.F_qd b e rfl (aI (aY aX (aC 0) aK) (aI (aY aX (aC 2) aK) (aI (aY aX (aC 1) aK) aP rfl) rfl) rfl) fL)))))) (bX (dA hO)) kJ)
  (bU (eJ (i:=3) zD.nd (bE kD (aY aX (aC 1) aK) (aY aX (aC 0) aK)))
  (bU (eJ (i:=4) zD.nd (bE kD (aY aX (aC 1) aK) (aY aX (aC 0) aK)))
  (bU (eJ (i:=5) zD.nd (i0 uF rfl T.z_abs boot_abs (aI (bE kD (bE gG (aC 3) (bE kD (aY aX (aC 2) aK) (aY aX (aC 0) aK))) (bE gG (aC 4) (bE kD (aY aX (aC 2) aK) (aY aX (aC 0) aK)))) aP rfl)))
  (bX (dA (uJ l5 (bE gG aK (aC 5)) (bE dQ (i0 uF rfl T.z_abs boot_abs (aI (aC 3) aP rfl)) (i0 uF rfl T.z_abs boot_abs (aI (aC 4) aP rfl))) (c6 _))))))))
theorem M5(c:aM P w K mg base aO 1 (a 5) (d 5) ["one","other"] (aU K 2 tI))(e:aM P w K mg base aO 1 (a 6) (d 6) ["cells"] (aU K 1 rJ)):aM P w K mg base aO 2 (a 13) (d 13) ["solids","one","other"] (aU K 3 oU):=by
 refine dV (g:=CD) (G:=oU) (N:=DK) (k:=1) rfl rfl rfl T.F_qi.F tX fun h A f s H E b=>?_
 exact(bU (eJ (i:=3) tX.nd (bW T.F_qk c b rfl (aI (aC 1) (aI (aC 2) aP rfl) rfl) k9))
  (bU (rV YG rfl (iG (A8 (aC 3) Bb (Bc (A9 CM aK)))) (eI (i:=4) tX.nd) (bX (kI (gW (Bz (jI b)) (aC 4) (aC 0) (by with_unfolding_all rfl)) (bX (dA hO)) kJ)))
  (bU (rV YG rfl (iG (bW T.F_q3 e b rfl (aI (aC 3) aP rfl) c4)) (uM rfl (lJ (eI (i:=5) tX.nd) (lJ (eI (i:=6) tX.nd) uN))) (bX (kI (sD (GH (gW (Bz (jI b)) (aC 5) (aC 0) (by with_unfolding_all rfl)) (GI (gW (Bz (jI b)) (aC 6) (aC 0) (by with_unfolding_all rfl))))) (bX (dA hO)) kJ)))
  (bX (dA hO)))))
theorem MU(b:aM P w K mg base aO 1 (a 9) (d 9) ["_law_script","_law_k"] (aU K 2 tG)):aM P w K mg base aO 2 (a 14) (d 14) ["_law_script","_law_k","_law_many"] (aU K 3 e8):=by
 refine dV (g:=Ga) (G:=e8) (N:=Dz) (k:=1) rfl rfl rfl T.F_q9.F Dc fun f A c s H E e=>?_
 exact(bU (eJ (i:=3) Dc.nd (bE qO (bE dQ (bE gG (bE qO (bW T.F_qe b e rfl (aI (aC 0) (aI (aC 1) aP rfl) rfl) k9) aK) aK) (bE gG aK (bE dQ (aC 1) aK))) aK))
  (bU (eJ (i:=3) Dc.nd (bE qO (bE dQ (bE gG (aC 3) (aC 3)) (bE xN (aC 3) aK)) aK))
  (bX (dA (bE qO (bE xN (bE qO (bE dQ (bE gG (aC 3) (aC 3)) (bE xN (aC 3) aK)) aK) aK) (aC 2))))))
theorem M9(b:aM P w K mg base aO 2 (a 10) (d 10) ["thing"] (aU K 1 uB)):aM P w K mg base aO 3 (a 15) (d 15) ["floor","thing"] (aU K 2 tK):=by
 refine dV (g:=Fp) (G:=tK) (N:=DN) (k:=2) rfl rfl rfl T.F_qm.F NU fun f A c s H E e=>?_
 exact(bU (kI (rW (j5 (bW T.F_q1 b e rfl (aI (aC 1) aP rfl) c4))) (bX (dA hO)) kJ)
  (bX (dA (x3 (x4 l5 (xO (dG e)) aK (aY aX (aC 1) aK) (aY aX (aC 0) aK)) (uK (x4 l5 (xO (dG e)) aK (aY aX (aC 1) aK) (aY aX (aC 0) aK)))))))
theorem MP(b:aM P w K mg base aO 2 (a 13) (d 13) ["solids","one","other"] (aU K 3 oU)):aM P w K mg base aO 3 (a 16) (d 16) ["solids","one","other"] (aU K 3 lI):=by
 refine dV (g:=Hm) (G:=lI) (N:=Dx) (k:=2) rfl rfl rfl T.F_q5.F NM fun f A c s H E e=>?_
 exact(bX (dA (x3 (uJ (Vs (jI e)) (aC 2) (aC 0) (by with_unfolding_all rfl)) (uK (bW T.F_qi b e rfl (aI (aC 0) (aI (aC 1) (aI (aC 2) aP rfl) rfl) rfl) fL)))))
theorem MW(b:aM P w K mg base aO 1 (a 2) (d 2) ["things"] (aU K 1 hJ))(f:aM P w K mg base aO 1 (a 8) (d 8) ["cells"] (aU K 1 lH))(c:aM P w K mg base aO 2 (a 13) (d 13) ["solids","one","other"] (aU K 3 oU))(e:aM P w K mg base aO 2 (a 11) (d 11) ["floor"] (aU K 1 nJ)):aM P w K mg base aO 3 (a 17) (d 17) ["floor"] (aU K 1 kF):=by
 refine dV (g:=Cy) (G:=kF) (N:=Ae) (k:=2) rfl rfl rfl T.F_qb.F HV fun l A j s H E h=>?_
 exact(bU (eJ (i:=1) HV.nd (bW T.F_qn b h rfl (aI (aY aX (aC 0) aK) aP rfl) c4))
  (bX (dA (nO rfl (jJ (N':=Fa) (inner:=[none,some 1]) (aS vT) Ae rfl rfl (by decide +kernel)) (iI 0) (iG (bW T.F_q7 f h rfl (aI (bW T.F_qc e h rfl (aI (aC 0) aP rfl) c4) aP rfl) c4)) (fun _ _ _ _ _=>(eI (i:=0) So)) (fun _ _ _ _ _=>(rY (j5 (bW T.F_qi c h rfl (aI (aC 1) (aI (aY aX (aC 0) aK) (aI (aY aX (aC 0) aK) aP rfl) rfl) rfl) fL)))) (fun _ _ _ _ _=>(aC 0))))))
theorem MV(b:aM P w K mg base aO 2 (a 14) (d 14) ["_law_script","_law_k","_law_many"] (aU K 3 e8)):aM P w K mg base aO 3 (a 18) (d 18) ["_law_script","_law_at","_law_most"] (aU K 3 tH):=by
 refine dV (g:=Ct) (G:=tH) (N:=Ad) (k:=2) rfl rfl rfl T.F_qa.F q8 fun f A e s H E c=>?_
 exact(bU (eJ (i:=3) q8.nd (bE dQ aK (bW T.F_q9 b c rfl (aI (aC 0) (aI (aC 1) (aI (aC 2) aP rfl) rfl) rfl) fL)))
  (bU (eJ (i:=4) q8.nd (bE dQ aK (bW T.F_q9 b c rfl (aI (aC 0) (aI (bE dQ (aC 1) aK) (aI (aC 2) aP rfl) rfl) rfl) fL)))
  (bU (eJ (i:=5) q8.nd (aY aX (@A6 _ _ _ _ (aI aK (aI aK (aI aK (aI aK (aI aK aP rfl) rfl) rfl) rfl) rfl)) (bW T.F_q9 b c rfl (aI (aC 0) (aI (bE dQ (aC 1) aK) (aI aK aP rfl) rfl) rfl) fL)))
  (bU (uQ (i:=6) q8.nd aP)
  (bU (rV YG rfl (uO rfl T.z_range (aI (aC 3) aP rfl)) (eI (i:=7) q8.nd) (bX (Ce (i:=6) (nO rfl (jJ (N':=E9) (inner:=[none,some 7,some 0,some 5,some 1]) (aS vS) Ad rfl rfl (by decide +kernel)) (iI 0) (uO rfl T.z_range (aI (aC 4) aP rfl)) (fun _ _ _ _ _=>(eI (i:=0) Sn)) (fun _ _ _ _ _=>(rY (gW (nR (dG c)) (bW T.F_q9 b c rfl (aI (aC 2) (aI (bE dQ (bE dQ (bE dQ (aC 4) aK) (bE gG aK (aC 1))) (aC 0)) (aI (aC 3) aP rfl) rfl) rfl) fL) aK (c6 _)))) (fun _ _ _ _ _=>(fY (aI (aC 1) (aI (aC 0) aP rfl) rfl)))))))
  (bX (dA (fY (aI (aC 3) (aI (aC 4) (aI (oZ rS rfl T.z_tuple UB (aI (aC 6) aP rfl)) aP rfl) rfl) rfl)))))))))
theorem MJ(b:aM P w K mg base aO 3 (a 15) (d 15) ["floor","thing"] (aU K 2 tK)):aM P w K mg base aO 4 (a 19) (d 19) ["floor","cell"] (aU K 2 mI):=by
 refine dV (g:=FA) (G:=mI) (N:=Dt) (k:=3) rfl rfl rfl T.F_q0.F NJ fun f A c s H E e=>?_
 exact(bX (kI (rW (j5 (bW T.F_qm b e rfl (aI (aC 0) (aI (aC 1) aP rfl) rfl) k9))) (bX GG) kJ))
theorem M4(b:aM P w K mg base aO 4 (a 19) (d 19) ["floor","cell"] (aU K 2 mI)):aM P w K mg base aO 5 (a 20) (d 20) ["floor","cell"] (aU K 2 kG):=by
 refine dV (g:=Fq) (G:=kG) (N:=DJ) (k:=4) rfl rfl rfl T.F_qh.F NT fun f A c s H E e=>?_
 exact(bU (Cc (bW T.F_q0 b e rfl (aI (aC 0) (aI (aC 1) aP rfl) rfl) k9))
  (bX (dA (uJ (tP (jI e)) (aC 1) (aY aX (aC 0) aK) (by with_unfolding_all rfl)))))
theorem MT(b:aM P w K mg base aO 4 (a 19) (d 19) ["floor","cell"] (aU K 2 mI)):aM P w K mg base aO 5 (a 21) (d 21) ["floor","cell"] (aU K 2 iC):=by
 refine dV (g:=BJ) (G:=iC) (N:=Dy) (k:=4) rfl rfl rfl T.F_q8.F NO fun f A c s H E e=>?_
 exact(bU (Cc (bW T.F_q0 b e rfl (aI (aC 0) (aI (aC 1) aP rfl) rfl) k9))
  (bX (dA (fY (aI (aY aX (aC 0) aK) (aI (aY aX (aC 0) aK) (aI (oZ rS rfl T.z_tuple UB (aI (Gx rfl (l0 e) rfl T.z_sorted UJ (Ry (Cf rfl (dG e) rfl T.z_set boot_set (aI (bE dQ (aY aX (aC 0) aK) (fY (aI (aC 1) aP rfl))) aP rfl)))) aP rfl)) aP rfl) rfl) rfl)))))
theorem MQ(b:aM P w K mg base aO 4 (a 19) (d 19) ["floor","cell"] (aU K 2 mI)):aM P w K mg base aO 5 (a 22) (d 22) ["floor","cell"] (aU K 2 iD):=by
 refine dV (g:=BL) (G:=iD) (N:=Ab) (k:=4) rfl rfl rfl T.F_q6.F NN fun f A c s H E e=>?_
 exact(bU (Cc (bW T.F_q0 b e rfl (aI (aC 0) (aI (aC 1) aP rfl) rfl) k9))
  (bX (dA (fY (aI (aY aX (aC 0) aK) (aI (aY aX (aC 0) aK) (aI (oZ rS rfl T.z_tuple UB (aI (nO rfl (jJ (N':=EZ) (inner:=[none,some 1]) (aS sR) Ab rfl rfl (by decide +kernel)) (iI 0) (iG (aY aX (aC 0) aK)) (fun _ _ _ _ _=>(eI (i:=0) Sj)) (fun _ _ _ _ _=>(rY (gW (jP (dG e)) (aC 0) (aC 1) (c6 _)))) (fun _ _ _ _ _=>(aC 0))) aP rfl)) aP rfl) rfl) rfl)))))
theorem MM(b:aM P w K mg base aO 5 (a 20) (d 20) ["floor","cell"] (aU K 2 kG)):aM P w K mg base aO 6 (a 23) (d 23) ["floor","cell"] (aU K 2 uD):=by
 refine dV (g:=Fz) (G:=uD) (N:=Dv) (k:=5) rfl rfl rfl T.F_q2.F NL fun f A c s H E e=>?_
 exact(bX (kI (j5 (bW T.F_qh b e rfl (aI (aC 0) (aI (aC 1) aP rfl) rfl) k9)) (bX GG) kJ))
theorem MO(m:aM P w K mg base aO 5 (a 22) (d 22) ["floor","cell"] (aU K 2 iD))(c:aM P w K mg base aO 1 (a 2) (d 2) ["things"] (aU K 1 hJ))(l:aM P w K mg base aO 1 (a 8) (d 8) ["cells"] (aU K 1 lH))(f:aM P w K mg base aO 2 (a 12) (d 12) ["one","other","cell"] (aU K 3 nI))(e:aM P w K mg base aO 3 (a 16) (d 16) ["solids","one","other"] (aU K 3 lI))(j:aM P w K mg base aO 5 (a 21) (d 21) ["floor","cell"] (aU K 2 iC))(h:aM P w K mg base aO 2 (a 11) (d 11) ["floor"] (aU K 1 nJ)):aM P w K mg base aO 6 (a 24) (d 24) ["floor","cell"] (aU K 2 oV):=by
 refine dV (g:=BI) (G:=oV) (N:=r8) (k:=5) rfl rfl rfl T.F_q4.F qZ fun o A n s H E b=>?_
 exact(bU (eJ (i:=2) qZ.nd (bW T.F_q6 m b rfl (aI (aC 0) (aI (aC 1) aP rfl) rfl) k9))
  (bU (x6 (i:=3) qZ.nd rfl (jJ (N':=EV) (inner:=[none,some 1]) (aS nC) r8 rfl rfl (by decide +kernel)) (iI 0) (iG (bW T.F_q7 l b rfl (aI (bW T.F_qc h b rfl (aI (aC 2) aP rfl) c4) aP rfl) c4)) (fun _ _ _ _ _=>(eI (i:=0) Sf)) (fun _ _ _ _ _=>(rY (j5 (bW T.F_qo f b rfl (aI (aY aX (aC 0) aK) (aI (aY aX (aC 0) aK) (aI (aC 1) aP rfl) rfl) rfl) fL)))) (fun _ _ _ _ _=>(aC 0)))
  (bU (eJ (i:=4) qZ.nd (bW T.F_qn c b rfl (aI (aY aX (aC 2) aK) aP rfl) c4))
  (bU (x6 (i:=5) qZ.nd rfl (jJ (N':=EW) (inner:=[none,some 4]) (aS nC) r8 rfl rfl (by decide +kernel)) (iI 0) (iG (aC 3)) (fun _ _ _ _ _=>(eI (i:=0) Sg)) (fun _ _ _ _ _=>(rY (j5 (bW T.F_q5 e b rfl (aI (aC 1) (aI (aY aX (aC 0) aK) (aI (aY aX (aC 0) aK) aP rfl) rfl) rfl) fL)))) (fun _ _ _ _ _=>(aC 0)))
  (bU (eJ (i:=6) qZ.nd (bW T.F_qn c b rfl (aI (aY aX (bW T.F_q8 j b rfl (aI (aC 0) (aI (aC 1) aP rfl) rfl) k9) aK) aP rfl) c4))
  (bX (dA (i0 mK rfl T.z_len PySem.boot_len (aI (nO rfl (jJ (N':=EY) (inner:=[none,some 6]) (aS nC) r8 rfl rfl (by decide +kernel)) (iI 0) (iG (aC 5)) (fun _ _ _ _ _=>(eI (i:=0) Si)) (fun _ _ _ _ _=>(rY (rW (j5 (bW T.F_q5 e b rfl (aI (aC 1) (aI (aY aX (aC 0) aK) (aI (aY aX (aC 0) aK) aP rfl) rfl) rfl) fL))))) (fun _ _ _ _ _=>(aC 0))) aP rfl)))))))))
end
end My
namespace My
open PySem PySem.Spec PySem.SeqAt PyProof.Rows L2 CL DL OB SD ZL SL EL DC
abbrev B3:=D × List D × List D
structure pH(K:PySem.W.Frag)(C:JY)(F:JY->Prop)(H:Hp)(p s o dx:JY)(fs:List (Str × V))(vf:V)(f:D)(dS dO:List D):Prop where
 hp:H p=some (.ins C dx fs)
 lf:fs.lookup ("floor":Str)=some vf
 rf:aR K F H f vf
 hs:∃ vs,H s=some (.lst vs)/\Reps K F H dS vs
 ho:∃ vs,H o=some (.lst vs)/\Reps K F H dO vs
 ne:s≠o
 np:¬ F p
 ns:¬ F s
 no:¬ F o
def p5(p s o x:JY):Prop:=x=p ∨ x=s ∨ x=o
theorem pH.keep{K:PySem.W.Frag}{C:JY}{F c:JY->Prop}{H b:Hp}{p s o e:JY}{fs:List (Str × V)}{d:V}{f:D}{g dO:List D}(L:pH K C F H p s o e fs d f g dO)(T:bN K F c H b)(k:∀ a u,p5 p s o a->H a=some u->b a=some u)(n:∀ a,p5 p s o a->¬ c a):pH K C c b p s o e fs d f g dO:=by
 obtain⟨h,q,l⟩:=L.hs;obtain⟨i,m,j⟩:=L.ho
 exact⟨k _ _ (.inl rfl) L.hp,L.lf,L.rf.stay T,⟨h,k _ _ (.inr (.inl rfl)) q,l.stay T⟩,⟨i,k _ _ (.inr (.inr rfl)) m,j.stay T⟩,L.ne,n _ (.inl rfl),n _ (.inr (.inl rfl)),n _ (.inr (.inr rfl))⟩
theorem pH.live{K:PySem.W.Frag}{C:JY}{F:JY->Prop}{H:Hp}{p s o e:JY}{fs:List (Str × V)}{b:V}{f:D}{g h:List D}(L:pH K C F H p s o e fs b f g h):∀ a,p5 p s o a->H a≠none/\¬ F a:=by
 obtain⟨i,d,_⟩:=L.hs;obtain⟨j,c,_⟩:=L.ho;rintro a (rfl | rfl | rfl)
 ·exact⟨by rw [L.hp];simp,L.np⟩
 ·exact⟨by rw [d];simp,L.ns⟩
 ·exact⟨by rw [c];simp,L.no⟩
def eE(b:V)(a c:JY):List (Str × V):=[("floor",b),("done",.ref a),("undone",.ref c)]
def Lr(K:PySem.W.Frag)(C:JY)(F:JY->Prop)(H:Hp)(p:JY)(b:B3)(φ:JY->Prop):Prop:=∃ dx a c vf,pH K C F H p a c dx (eE vf a c) vf b.1 b.2.1 b.2.2/\∀ x,φ x ↔ p5 p a c x
def bK(K:PySem.W.Frag)(C:JY):eG K B3 where
 cl:=fun _=>C
 fn:=fun _=>["floor","done","undone"]
 At:=Lr K C
 own:=fun⟨dx,a,c,vf,L,h⟩=>⟨(h _).mpr (.inl rfl),fun x b=>L.live x ((h x).mp b)⟩
 ins:=fun⟨dx,a,c,vf,L,h⟩=>⟨dx,_,L.hp,rfl⟩
 keep:=fun⟨dx,a,c,vf,L,h⟩ T k n=>⟨dx,a,c,vf,L.keep T (fun x u b=>k x u ((h x).mpr b)) (fun x b=>n x ((h x).mpr b)),h⟩
theorem Bj{K:PySem.W.Frag}{B:Type}{k:eG K B}{F g:JY->Prop}{H d:Hp}{p:JY}{b:B}{φ:JY->Prop}(h:k.At F H p b φ)(e:aN F g H d):k.At g d p b φ:=
 k.keep h e.stay (fun a o _ q=>e.same a o q) fun a f i=>by
  have c:=(k.own h).2 a f;rcases e.new a i with w | ⟨w,_⟩
  ·exact c.2 w
  ·exact c.1 w
theorem rA{K:PySem.W.Frag}{B:Type}{k:eG K B}{n:Nat}{G:GM B}{vs:List V}{H:Hp}{Q:VK}{E:XK}(h:cJ k n G vs H Q E):vs.length=n:=by
 obtain⟨F,p,b,d,e,r,f,a,_,_,c,_⟩:=h;rw [<- tS c,a]
theorem Ij(b:V)(a c:JY)(y:V):bL "undone" y (eE b a c)=[(("floor":Str),b),("done",.ref a),("undone",y)]:=by
 unfold eE bL;rw [if_neg (by decide)];unfold bL;rw [if_neg (by decide)];unfold bL;rw [if_pos rfl]
theorem Nr(b:V)(a c:JY)(y:V):bL "floor" y (eE b a c)=eE y a c:=by
 unfold eE bL;rw [if_pos rfl]
theorem jN(vf:V)(a c:JY):(eE vf a c).lookup ("floor":Str)=some vf:=rfl
theorem Te(b:V)(a c:JY):(eE b a c).lookup ("done":Str)=some (.ref a):=by
 unfold eE;rw [QN,show(("done":Str) == ("floor":Str))=false from by decide,QN,show(("done":Str) == ("done":Str))=true from by decide]
structure Fm(K:PySem.W.Frag)(C:JY)(n q:Str)(st:Zm)(ps:List Str)(a:JY)(d:J6):Prop where
 F:dR K n q st a d
 m:kW K C n a
 b:L2.Binds K d ps []
abbrev wY:Zm:=iH (top 32) 0
abbrev xA:Zm:=iH (top 32) 1
abbrev xC:Zm:=iH (top 32) 2
abbrev wZ:Zm:=iH (top 32) 3
abbrev wX:Zm:=iH (top 32) 4
abbrev wW:Zm:=iH (top 32) 5
abbrev w6:Zm:=iH (top 32) 6
structure pK(K:PySem.W.Frag)(mg:Str->Option YP)(C:JY):Prop where
 cl:fX K C
 nF:gU K C "floor"
 nD:gU K C "done"
 nU:gU K C "undone"
 mC:mg "Builder"=some (.ref C)
 len:mg "len"=none
 lst:mg "list"=none
def gA:GM B3
 | [none],b=>some (b.1,b)
 | _,_=>none
def lG:GM B3
 | [none,some wd,some f],b=>if b.2.1.length<1000 then some (.none,(f,b.2.1++[.tuple [wd,b.1]],[]))else none
 | _,_=>none
def mH:GM B3
 | [none],b=>(uC [b.1]).bind fun f=>(lG [none,some (.str "mirror"),some f] b).bind fun r=>some (.none,r.2)
 | _,_=>none
def mG:GM B3
 | [none],b=>(tJ [b.1]).bind fun f=>(lG [none,some (.str "flip"),some f] b).bind fun r=>some (.none,r.2)
 | _,_=>none
def hF:GM B3
 | [none,some c],b=>(kG [b.1,c]).bind fun s=>(iW s).bind fun t=>(if t=true then some (.int 0)else oV [b.1,c]).bind fun n=>(iC [b.1,c]).bind fun f=>(lG [none,some (.str "put"),some f] b).bind fun r=>some (n,r.2)
 | _,_=>none
def gK:GM B3
 | [none,some c],b=>(kG [b.1,c]).bind fun s=>(iW s).bind fun t=>(if t=true then oV [b.1,c]else some (.int 0)).bind fun n=>(iD [b.1,c]).bind fun f=>(lG [none,some (.str "take"),some f] b).bind fun r=>some (n,r.2)
 | _,_=>none
def wG:List D->Option B3
 | [f]=>some (f,[],[])
 | _=>none
theorem Ww:bR ["self"] ["self"] (aS w6):=cA rfl (by decide +kernel)
theorem Ws:bR ["self","word","floor"] ["self","word","floor"] (aS wW):=cA rfl (by decide +kernel)
theorem Wv:bR ["self"] ["self"] (aS wZ):=cA rfl (by decide +kernel)
theorem Wt:bR ["self"] ["self"] (aS wX):=cA rfl (by decide +kernel)
theorem HU:bR ["self","cell","fewer"] ["self","cell"] (aS xA):=cA rfl (by decide +kernel)
theorem KR:bR ["self","cell","more"] ["self","cell"] (aS xC):=cA rfl (by decide +kernel)
theorem Wu:bR ["self","floor"] ["self","floor"] (aS wY):=cA rfl (by decide +kernel)
theorem xM{b:V}{a c:JY}{m:Str}(h:(["floor","done","undone"]:List Str).contains m=false):(eE b a c).lookup m=none:=tL h
section
variable {P:J2}{w:J5}{K:PySem.W.Frag}{mg:Str->Option YP}{base:Heap}{C:JY}(T:pK K mg C)
include T
theorem Vg{f:JY}{g:J6}(F:dR K "now" "Builder.now" w6 f g):aM P w K mg base aO 1 f g ["self"] (cJ (bK K C) 1 gA):=by
 refine F.ok Ww (fun j H Q E h=>rA h) (fun m A d s H j Q E o h=>?_);obtain⟨F,p,b,i,x,r,y,v,z,at0,n,q,c⟩:=h;unfold gA at q
 split at q
 ·cases q
  cases n with
  | cons h t=>
   cases t;cases h;obtain⟨l,a,u,e,L,k⟩:=id at0
   exact⟨_,kM (qV (gN (pv 0) rfl)),_,rfl,p,C,l,_,e,rfl,L.hp,T.cl,T.nF,jN _ _ _,c F H e i (bT.refl z) (fun a h=>.inl h) at0 L.rf⟩
 ·cases q
theorem RW{f:JY}{fd:J6}(F:dR K "build" "Builder.build" wW f fd):aM P w K mg base aO 1 f fd ["self","word","floor"] (cJ (bK K C) 3 lG):=by
 refine F.ok Ws (fun vs H Q E h=>rA h) (fun a3 A S s H vs Q E hr h=>?_);obtain⟨F,p,b,g,ds,r,b',k,z,at0,ar,q,c⟩:=h;unfold lG at q
 split at q
 ·rename_i wd fl;by_cases hd:b.2.1.length<1000
  ·rw [if_pos hd]at q;cases q
   cases ar with
   | @cons _ v0 _ _ h t=>
   cases t with
   | @cons _ vw _ _ X t=>
   cases t with
   | @cons _ vg _ _ hg t=>
   cases t;cases h;have X:aR K F H wd vw:=X;have hg:aR K F H fl vg:=hg;obtain⟨e,a,u,d,L,o⟩:=id at0;obtain⟨i,ha,ra⟩:=L.hs;obtain⟨vu,hu,ru⟩:=L.ho;have U:g p:=(o p).mpr (.inl rfl);have ma:g a:=(o a).mpr (.inr (.inl rfl))
   refine⟨_,jS (kL (xU PySem.F.plainAttrs_list PySem.F.slot_list_append PySem.F.type_list_append xL (gN (pv 0) rfl) (cL (IR (cL (pv 1) (cL (gN (pv 0) rfl) dC))) dC)))
    (jS (l6 (pv 0) (qT dC) rfl) (kM (l6 (pv 0) (pv 2) rfl))),?_⟩
   refine⟨_,rfl,p,C,e,_,_,rfl,L.hp,T.cl,T.nD,Te _ _ _,.inl ⟨rfl,_,cD.of ha⟩,_,rfl,_,rfl,p,C,e,_,_,rfl,L.hp,T.cl,T.nF,jN _ _ _,gD (show 2<=1000 by decide),fun t N=>?_⟩
   have K1:bT K g F F H (aJ H t (.tup [vw,d])):=bT.ext z (aN.fresh N)
   have j:aJ H t (.tup [vw,d]) a=some (.lst i):=by rw [aZ (gF ha N)];exact ha
   have G:aJ H t (.tup [vw,d]) p=some (.ins C e (eE d a u)):=by rw [aZ (gF L.hp N)];exact L.hp
   have O:aR K F (aJ H t (.tup [vw,d])) (.tuple [wd,b.1]) (.ref t):=aR.newTup N (.cons X (.cons L.rf .nil))
   refine⟨a,i,.ref t,rfl,rfl,j,tZ (by rw [<- ra.length];lia),?_⟩
   generalize aJ H t (.tup [vw,d])=J at *;have K2:bT K g F F J (aJ J a (.lst (i++[.ref t]))):=jL K1.fz j GL.1 GL.2 L.ns ma;have R:p≠a:=qM G j (by intro w;cases w);have I:aJ J a (.lst (i++[.ref t])) a=some (.lst (i++[.ref t])):=cS
   have B:aJ J a (.lst (i++[.ref t])) p=some (.ins C e (eE d a u)):=by rw [aZ R];exact G
   generalize aJ J a (.lst (i++[.ref t]))=n at *
   refine⟨gD (Q9 _),fun l k=>?_⟩
   have K3:bT K g F F n (aJ n l (.lst [])):=bT.ext K2.fz (aN.fresh k);have la:a≠l:=gF I k;have W:p≠l:=gF B k
   have a2:aJ n l (.lst []) a=some (.lst (i++[.ref t])):=by rw [aZ la];exact I
   have y:aJ n l (.lst []) p=some (.ins C e (eE d a u)):=by rw [aZ W];exact B
   have Z:aJ n l (.lst []) l=some (.lst []):=cS;generalize aJ n l (.lst [])=m at *
   refine⟨_,rfl,p,C,e,_,rfl,y,T.cl,T.nU,(show 3<1000 by decide),?_⟩
   have K4:bT K g F F m (aJ m p (.ins C e (bL "undone" (.ref l) (eE d a u)))):=jL K3.fz y fO.1 fO.2 L.np U
   have a0:aJ m p (.ins C e (bL "undone" (.ref l) (eE d a u))) a=some (.lst (i++[.ref t])):=by rw [aZ R.symm];exact a2
   have Y:aJ m p (.ins C e (bL "undone" (.ref l) (eE d a u))) l=some (.lst []):=by rw [aZ W.symm];exact Z
   have v:aJ m p (.ins C e (bL "undone" (.ref l) (eE d a u))) p=some (.ins C e (bL "undone" (.ref l) (eE d a u))):=cS;generalize aJ m p (.ins C e (bL "undone" (.ref l) (eE d a u)))=H4 at *
   refine⟨_,rfl,_,rfl,p,C,e,_,rfl,v,T.cl,T.nF,(by rw [Ij];show 3<1000;decide),?_⟩
   have K5:bT K g F F H4 (aJ H4 p (.ins C e (bL "floor" vg (bL "undone" (.ref l) (eE d a u))))):=jL K4.fz v fO.1 fO.2 L.np U
   have ef:bL "floor" vg (bL "undone" (.ref l) (eE d a u))=eE vg a l:=by rw [Ij];exact Nr d a l vg
   rw [ef]at K5 ⊢;have M:∀ x,g x->∀ H:Hp,g x ∨ H x=none:=fun x h _=>.inl h;have K25:=(K2.trans (K3.trans (K4.trans K5 fun x h=>M x h _) fun x h=>M x h _) fun x h=>M x h _);have KA:=K1.trans K25 fun x h=>M x h _;refine c F _ .non (p5 p a l) KA (fun x h=>?_) ⟨e,a,l,vg,⟨cS,jN _ _ _,hg.stay KA.st,⟨_,by rw [aZ R.symm];exact a0,(ra.stay KA.st).append (.cons (O.stay K25.st) .nil)⟩,⟨_,by rw [aZ W.symm];exact Y,.nil⟩,la,L.np,L.ns,fun f=>K2.fz l f k⟩,fun _=>Iff.rfl⟩ .non;rcases h with rfl | rfl | rfl
   ·exact .inl U
   ·exact .inl ma
   ·exact .inr (K1.lv _ (K2.lv _ k))
  ·rw [if_neg hd]at q;cases q
 ·cases q
end
end My
namespace My
open PySem PySem.Spec PySem.SeqAt PyProof.Rows L2 CL DL OB SD ZL SL EL DC
theorem zA{K:PySem.W.Frag}{C:JY}{F f:JY->Prop}{H e:Hp}{p:JY}{b:B3}{φ:JY->Prop}{wd:Str}{fl:D}{i:V}{d:D × B3}{Q:VK}(z:∀ a,F a->H a≠none)(at0:(bK K C).At F H p b φ)(E1:aN F f H e)(n:aR K f e fl i)(m:lG [none,some (.str wd),some fl] b=some d)
  (c:∀ F' H' v φ',bT K φ F F' H H'->(∀ a,φ' a->φ a ∨ H a=none)->(bK K C).At F' H' p d.2 φ'->bN K f F' e H'->Q v H'):cJ (bK K C) 3 lG [.ref p,.str wd,i] e Q E0:=
 ⟨f,p,b,φ,[none,some (.str wd),some fl],d.1,d.2,rfl,E1.fz z,Bj (k:=bK K C) at0 E1,.cons rfl (.cons (.str _) (.cons n .nil)),m,fun F' H' v φ' j l g o=>
  c F' H' v φ' ((bT.ext z E1).trans j fun x h=>.inl h) (fun a h=>(l a h).imp_right fun h=>E1.same.free h) g j.st⟩
theorem Hr{t:Bool}{c b:TE}{a:L2.St}{H:Hp}{Q:VK}(R:VK)(e:t=true->∀ Q:VK,(∀ v H,R v H->Q v H)->c a H Q)(d:t=false->∀ Q:VK,(∀ v H,R v H->Q v H)->b a H Q)(h:∀ v H,R v H->Q v H):if t=true then c a H Q else b a H Q:=by
 cases t with
 | true=>exact e rfl Q h
 | false=>exact d rfl Q h
section
variable {P:J2}{w:J5}{K:PySem.W.Frag}{mg:Str->Option YP}{base:Heap}{C:JY}(T:pK K mg C)
variable {fb:JY}{db:J6}(mb:kW K C "build" fb)(bb:L2.Binds K db ["self","word","floor"] [])(Gb:aM P w K mg base aO 1 fb db ["self","word","floor"] (cJ (bK K C) 3 lG))
include T mb bb Gb
theorem Vf{n:JY}{l:J6}(Fm:Fo K mg "mirrored" sT ["floor"] n l)(R:aM P w K mg base aO 1 n l ["floor"] (aU K 1 uC)){f:JY}{j:J6}(F:dR K "mirror" "Builder.mirror" wZ f j):aM P w K mg base aO 2 f j ["self"] (cJ (bK K C) 1 mH):=by
 refine F.ok Wv (fun o H Q E h=>rA h) (fun J A e s H o Q E i h=>?_);obtain⟨F,p,b,W,ds,r,b',hl,z,at0,M,q,c⟩:=h;unfold mH at q
 split at q
 ·obtain⟨fl,I,q⟩:=aG q;obtain⟨Z,G,q⟩:=aG q;cases q
  cases M with
  | cons h t=>
   cases t;cases h;obtain⟨k,a,u,Y,L,B⟩:=id at0
   refine⟨_,kM (kL (qU (pv 0) T.cl mb Gb i bb .nil fP (cL wM (cL (jR R i rfl Fm.m Fm.F.kp Fm.b .nil fP (cL (gN (pv 0) rfl) dC)) dC)))),?_⟩
   exact⟨_,rfl,p,k,_,rfl,L.hp,xM rfl,_,rfl,p,C,k,_,_,rfl,L.hp,T.cl,T.nF,jN _ _ _,F,[b.1],fl,rfl,z,.cons L.rf .nil,I,fun F1 H1 X U N=>zA z at0 U N G fun S O v d y x g _=>c S O .non d y x g .non⟩
 ·cases q
theorem RX{n:JY}{l:J6}(Fm:Fo K mg "flipped" sU ["floor"] n l)(R:aM P w K mg base aO 1 n l ["floor"] (aU K 1 tJ)){f:JY}{j:J6}(F:dR K "flip" "Builder.flip" wX f j):aM P w K mg base aO 2 f j ["self"] (cJ (bK K C) 1 mG):=by
 refine F.ok Wt (fun o H Q E h=>rA h) (fun J A e s H o Q E i h=>?_);obtain⟨F,p,b,W,ds,r,b',hl,z,at0,M,q,c⟩:=h;unfold mG at q
 split at q
 ·obtain⟨fl,I,q⟩:=aG q;obtain⟨Z,G,q⟩:=aG q;cases q
  cases M with
  | cons h t=>
   cases t;cases h;obtain⟨k,a,u,Y,L,B⟩:=id at0
   refine⟨_,kM (kL (qU (pv 0) T.cl mb Gb i bb .nil fP (cL wM (cL (jR R i rfl Fm.m Fm.F.kp Fm.b .nil fP (cL (gN (pv 0) rfl) dC)) dC)))),?_⟩
   exact⟨_,rfl,p,k,_,rfl,L.hp,xM rfl,_,rfl,p,C,k,_,_,rfl,L.hp,T.cl,T.nF,jN _ _ _,F,[b.1],fl,rfl,z,.cons L.rf .nil,I,fun F1 H1 X U N=>zA z at0 U N G fun S O v d y x g _=>c S O .non d y x g .non⟩
 ·cases q
theorem Vh{ai aw o:JY}{Z Y l:J6}(Fi:Fo K mg "is_solid" sS ["floor","cell"] ai Z)(Gi:aM P w K mg base aO 5 ai Z ["floor","cell"] (aU K 2 kG))(Fw:Fo K mg "with_solid" vR ["floor","cell"] aw Y)(Gw:aM P w K mg base aO 5 aw Y ["floor","cell"] (aU K 2 iC))(Fs:Fo K mg "sights_through" nC ["floor","cell"] o l)(Gs:aM P w K mg base aO 6 o l ["floor","cell"] (aU K 2 oV))
  {f:JY}{W:J6} (F:dR K "put" "Builder.put" xA f W):aM P w K mg base aO 7 f W ["self","cell"] (cJ (bK K C) 2 hF):=by
 refine F.ok HU (fun vs H Q E h=>rA h) (fun a2 A N s H vs Q E G h=>?_);obtain⟨F,p,b,φ,ds,r,b',hl,z,at0,y,q,c⟩:=h;unfold hF at q
 split at q
 ·rename_i J;obtain⟨so,e0,q⟩:=aG q;obtain⟨t,et,q⟩:=aG q;obtain⟨n,X,q⟩:=aG q;obtain⟨fl,e1,q⟩:=aG q;obtain⟨r2,e2,q⟩:=aG q;cases q
  cases y with
  | cons h y=>
  cases y with
  | @cons _ vc _ _ j y=>
   cases y;cases h;have j:aR K F H J vc:=j;obtain⟨I,a,u,vf,L,a0⟩:=id at0
   refine⟨_,jS (l7 (i:=2) HU.nd rfl (Zl rfl) (BF (wP (jR Gi (G.mono (by decide)) rfl Fi.m Fi.F.kp Fi.b .nil fP (cL (gN (pv 0) rfl) (cL (pv 1) dC)))) xW (jR Gs G rfl Fs.m Fs.F.kp Fs.b .nil fP (cL (gN (pv 0) rfl) (cL (pv 1) dC)))))
    (jS (kL (qU (pv 0) T.cl mb Gb (G.mono (by decide)) bb .nil fP (cL wM (cL (jR Gw (G.mono (by decide)) rfl Fw.m Fw.F.kp Fw.b .nil fP (cL (gN (pv 0) rfl) (cL (pv 1) dC))) dC)))) (kM (qV (pv 2)))),?_⟩
   refine⟨_,rfl,p,C,I,_,_,rfl,L.hp,T.cl,T.nF,jN _ _ _,_,rfl,F,[b.1,J],so,rfl,z,.cons L.rf (.cons j .nil),e0,fun F1 H1 v1 E1 R1=>⟨t,kN R1 et,?_⟩⟩
   have R:=E1.same _ _ L.hp;refine Hr (fun e B=>∃ d,aN F d H B/\aR K d B r e) (fun O Q k=>?_) (fun O Q k=>?_) (fun e B ⟨d,E2,R2⟩=>?_)
   ·subst O;cases X;exact k _ _ ⟨F1,E1,.int 0⟩
   ·subst O
    exact⟨_,rfl,p,C,I,_,_,rfl,R,T.cl,T.nF,jN _ _ _,_,rfl,F1,[b.1,J],r,rfl,E1.fz z,.cons (L.rf.stay E1.stay) (.cons (j.stay E1.stay) .nil),X,fun d B e E2 R2=>k e B ⟨d,E1.trans E2,R2⟩⟩
   ·have S:=Bj (k:=bK K C) at0 E2;have g:=E2.same _ _ L.hp
    exact⟨_,rfl,p,I,_,rfl,g,xM rfl,_,rfl,p,C,I,_,_,rfl,g,T.cl,T.nF,jN _ _ _,_,rfl,d,[b.1,J],fl,rfl,E2.fz z,.cons (L.rf.stay E2.stay) (.cons (j.stay E2.stay) .nil),e1,fun F3 H3 vg E3 R3=>zA (E2.fz z) S E3 R3 e2 fun F' H' v M kp sb U st=>
     ⟨_,rfl,c F' H' e M ((bT.ext z E2).trans kp fun x h=>.inl h) (fun a h=>(sb a h).imp_right fun h=>E2.same.free h) U (R2.stay (E3.stay.trans st))⟩⟩
 ·cases q
theorem Vi{ai aw o:JY}{Z Y l:J6}(Fi:Fo K mg "is_solid" sS ["floor","cell"] ai Z)(Gi:aM P w K mg base aO 5 ai Z ["floor","cell"] (aU K 2 kG))(Fw:Fo K mg "without_solid" sR ["floor","cell"] aw Y)(Gw:aM P w K mg base aO 5 aw Y ["floor","cell"] (aU K 2 iD))(Fs:Fo K mg "sights_through" nC ["floor","cell"] o l)(Gs:aM P w K mg base aO 6 o l ["floor","cell"] (aU K 2 oV))
  {f:JY}{W:J6} (F:dR K "take" "Builder.take" xC f W):aM P w K mg base aO 7 f W ["self","cell"] (cJ (bK K C) 2 gK):=by
 refine F.ok KR (fun vs H Q E h=>rA h) (fun a2 A N s H vs Q E G h=>?_);obtain⟨F,p,b,φ,ds,r,b',hl,z,at0,y,q,c⟩:=h;unfold gK at q
 split at q
 ·rename_i J;obtain⟨so,e0,q⟩:=aG q;obtain⟨t,et,q⟩:=aG q;obtain⟨n,X,q⟩:=aG q;obtain⟨fl,e1,q⟩:=aG q;obtain⟨r2,e2,q⟩:=aG q;cases q
  cases y with
  | cons h y=>
  cases y with
  | @cons _ vc _ _ j y=>
   cases y;cases h;have j:aR K F H J vc:=j;obtain⟨I,a,u,vf,L,a0⟩:=id at0
   refine⟨_,jS (l7 (i:=2) KR.nd rfl (Zl rfl) (BF (wP (jR Gi (G.mono (by decide)) rfl Fi.m Fi.F.kp Fi.b .nil fP (cL (gN (pv 0) rfl) (cL (pv 1) dC)))) (jR Gs G rfl Fs.m Fs.F.kp Fs.b .nil fP (cL (gN (pv 0) rfl) (cL (pv 1) dC))) xW))
    (jS (kL (qU (pv 0) T.cl mb Gb (G.mono (by decide)) bb .nil fP (cL wM (cL (jR Gw (G.mono (by decide)) rfl Fw.m Fw.F.kp Fw.b .nil fP (cL (gN (pv 0) rfl) (cL (pv 1) dC))) dC)))) (kM (qV (pv 2)))),?_⟩
   refine⟨_,rfl,p,C,I,_,_,rfl,L.hp,T.cl,T.nF,jN _ _ _,_,rfl,F,[b.1,J],so,rfl,z,.cons L.rf (.cons j .nil),e0,fun F1 H1 v1 E1 R1=>⟨t,kN R1 et,?_⟩⟩
   have R:=E1.same _ _ L.hp;refine Hr (fun e B=>∃ d,aN F d H B/\aR K d B r e) (fun O Q k=>?_) (fun O Q k=>?_) (fun e B ⟨d,E2,R2⟩=>?_)
   ·subst O
    exact⟨_,rfl,p,C,I,_,_,rfl,R,T.cl,T.nF,jN _ _ _,_,rfl,F1,[b.1,J],r,rfl,E1.fz z,.cons (L.rf.stay E1.stay) (.cons (j.stay E1.stay) .nil),X,fun d B e E2 R2=>k e B ⟨d,E1.trans E2,R2⟩⟩
   ·subst O;cases X;exact k _ _ ⟨F1,E1,.int 0⟩
   ·have S:=Bj (k:=bK K C) at0 E2;have g:=E2.same _ _ L.hp
    exact⟨_,rfl,p,I,_,rfl,g,xM rfl,_,rfl,p,C,I,_,_,rfl,g,T.cl,T.nF,jN _ _ _,_,rfl,d,[b.1,J],fl,rfl,E2.fz z,.cons (L.rf.stay E2.stay) (.cons (j.stay E2.stay) .nil),e1,fun F3 H3 vg E3 R3=>zA (E2.fz z) S E3 R3 e2 fun F' H' v M kp sb U st=>
     ⟨_,rfl,c F' H' e M ((bT.ext z E2).trans kp fun x h=>.inl h) (fun a h=>(sb a h).imp_right fun h=>E2.same.free h) U (R2.stay (E3.stay.trans st))⟩⟩
 ·cases q
end
end My
namespace My
open PySem PySem.Spec PySem.SeqAt PyProof.Rows L2 CL DL OB SD ZL SL EL DC
theorem No(a:V):bL "floor" a []=[(("floor":Str),a)]:=rfl
theorem Np(a v:V):bL "done" v [(("floor":Str),a)]=[(("floor":Str),a),("done",v)]:=by
 unfold bL;rw [if_neg (by decide)];unfold bL;rfl
theorem Nq(b:V)(a c:JY):bL "undone" (.ref c) [(("floor":Str),b),("done",.ref a)]=eE b a c:=by
 unfold bL;rw [if_neg (by decide)];unfold bL;rw [if_neg (by decide)];unfold bL;rfl
section
variable {P:J2}{w:J5}{K:PySem.W.Frag}{mg:Str->Option YP}{base:Heap}{C:JY}(T:pK K mg C)
include T
theorem RY{f:JY}{W:J6}(F:dR K "__init__" "Builder.__init__" wY f W):aM P w K mg base aO 1 f W ["self","floor"] (lE (bK K C) C 1 wG):=by
 refine F.ok Wu (fun Z H Q E h=>?_) (fun a0 A v s H Z Q E hr h=>?_)
 ·obtain⟨F,x,d,us,ds,b,rfl,S,_,_,_,r,_⟩:=h;rw [Qt,<- r.length,S];rfl
 obtain⟨F,x,d,us,ds,b,rfl,S,z,R,p,r,q,c⟩:=h;unfold wG at q
 split at q
 ·rename_i fl;cases q
  cases r with
  | @cons _ vf _ _ rf t=>
   cases t
   refine⟨_,jS (l6 (pv 0) (pv 1) rfl) (jS (l6 (pv 0) (qT dC) rfl) (kM (l6 (pv 0) (qT dC) rfl))),?_⟩
   refine⟨_,rfl,_,rfl,x,C,d,[],rfl,R,T.cl,T.nF,(by decide),?_⟩
   rw [No];have K1:bT K (fun a=>a=x) F F H (aJ H x (.ins C d [(("floor":Str),vf)])):=jL z R fO.1 fO.2 p rfl;have G:aJ H x (.ins C d [(("floor":Str),vf)]) x=some (.ins C d [(("floor":Str),vf)]):=cS;generalize aJ H x (.ins C d [(("floor":Str),vf)])=j at *
   refine⟨gD (Q9 _),fun a U=>?_⟩
   have E2:aN F F j (aJ j a (.lst [])):=aN.fresh U;have g:=E2.same _ _ G;have m:aJ j a (.lst []) a=some (.lst []):=cS;have K2:bT K (fun a=>a=x) F F j (aJ j a (.lst [])):=bT.ext K1.fz E2;generalize aJ j a (.lst [])=n at *;have M:a≠x:=qM m g (by intro w;cases w)
   refine⟨_,rfl,x,C,d,_,rfl,g,T.cl,T.nD,(show 1<1000 by decide),?_⟩
   rw [Np];have K3:bT K (fun a=>a=x) F F n (aJ n x (.ins C d [(("floor":Str),vf),("done",.ref a)])):=jL K2.fz g fO.1 fO.2 p rfl;have B:aJ n x (.ins C d [(("floor":Str),vf),("done",.ref a)]) x=some (.ins C d [(("floor":Str),vf),("done",.ref a)]):=cS
   have l:aJ n x (.ins C d [(("floor":Str),vf),("done",.ref a)]) a=some (.lst []):=by rw [aZ M];exact m
   generalize aJ n x (.ins C d [(("floor":Str),vf),("done",.ref a)])=i at *
   refine⟨gD (Q9 _),fun u I=>?_⟩
   have E4:aN F F i (aJ i u (.lst [])):=aN.fresh I;have e:=E4.same _ _ B;have J:=E4.same _ _ l;have k:aJ i u (.lst []) u=some (.lst []):=cS;have K4:bT K (fun a=>a=x) F F i (aJ i u (.lst [])):=bT.ext K3.fz E4;have au:a≠u:=gF l I;generalize aJ i u (.lst [])=X at *;have Y:u≠x:=qM k e (by intro w;cases w)
   refine⟨_,rfl,x,C,d,_,rfl,e,T.cl,T.nU,(show 2<1000 by decide),?_⟩
   rw [Nq];have K5:bT K (fun a=>a=x) F F X (aJ X x (.ins C d (eE vf a u))):=jL K4.fz e fO.1 fO.2 p rfl;have o:∀ y:JY,y=x->∀ H:Hp,y=x ∨ H y=none:=fun y h _=>.inl h;have K23:=K1.trans (K2.trans K3 fun x h=>o x h _) fun x h=>o x h _;have KA:=K23.trans (K4.trans K5 fun x h=>o x h _) fun x h=>o x h _;have O:H a=none:=K1.lv a U;have N:H u=none:=K23.lv u I;refine c F _ (p5 x a u) KA (fun y h=>?_) ⟨d,a,u,vf,⟨cS,jN _ _ _,rf.stay KA.st,⟨[],by rw [aZ M];exact J,.nil⟩,⟨[],by rw [aZ Y];exact k,.nil⟩,au,p,fun f=>z a f O,fun f=>z u f N⟩,fun _=>Iff.rfl⟩;rcases h with rfl | rfl | rfl
   ·exact .inl rfl
   ·exact .inr O
   ·exact .inr N
 ·cases q
end
end My
namespace My
open PySem PySem.Spec PySem.SeqAt PyProof.Rows L2 CL DL OB SD ZL SL EL DC KP ST
def Lf(K:PySem.W.Frag):Sp:=fun b H Q _=>∃(F:JY->Prop) (ds:List D) (cs:List CK),(∀ a,F a->H a≠none)/\Reps K F H [.list ds] b/\Paired (fun d k=>k5 d=some k) ds cs/\cs.Nodup/\cs.length<=1000 /\
 ∀ F' H' p l ep,aN F F' H H'->H' p=none->l.map (·.1)=cs->(∀ q∈l,gL K H' (.inr q.1) q.2)->Q (.ref p) (aJ H' p (cN p (dI l) ep))
theorem OW(ds:List D):∀(s0:Sl),nK (cW 0) eT (cO (aD (eV 0) (aD (eC (.bool true)) aH))) ds [s0]=some (ds.map fun d=>.tuple [d,.bool true]):=by
 induction ds with
 | nil=>intro s0;rfl
 | cons d ds a=>
  intro s0;unfold nK
  show Option.bind _ _=_
  rw [show cW 0 d [s0]=some [.dat d]from rfl,Qe,show eT [Sl.dat d]=some true from rfl,Qe,if_pos rfl,show cO (aD (eV 0) (aD (eC (.bool true)) aH)) [Sl.dat d]=some (.tuple [d,.bool true])from rfl,Qe,a];rfl
section
variable {P:J2}{w:J5}{K:PySem.W.Frag}{mg:Str->Option YP}{base:Heap}{a:Nat->JY}{d:Nat->J6}(T:n9 K mg a d)
include T
theorem Ve:aM P w K mg base aO 1 (a 2) (d 2) ["things"] (Lf K):=by
 refine T.F_qn.F.ok HY (fun m H Q E h=>?_) (fun y A e s H m Q E r h=>?_)
 ·obtain⟨F,b,j,z,R,_⟩:=h;rw [<- R.length];rfl
 ·obtain⟨F,b,j,z,R,f,n,g,c⟩:=h
  refine⟨_,kM (qV (BD (O1 rfl (l0 r)) rfl T.z_dict DC.boot_dict (aI (nO rfl (jJ (N':=Be) (inner:=[none]) (aS sV) vC rfl rfl (by decide +kernel)) (iI 0) (iG (aC 0)) (fun _ _ _ _ _=>(eI (i:=0) Hg)) (fun _ _ _ _ _=>rX) (fun _ _ _ _ _=>(fY (aI (aC 0) (aI hO aP rfl) rfl)))) aP rfl))),?_⟩
  have o:b.length<=1000:=by rw [Paired.length f];exact g
  refine⟨F,H,c7 1 [.list b],[.list (b.map fun d=>.tuple [d,.bool true])],zK z R,?_,fun k G I E1 B=>⟨k,b,j,E1.fz z,B,f,n,g,fun p l x t u v=>c k G p l x E1 t u v⟩⟩
  have q:fQ (fW (eW (eV 0)) (cW 0) eT (cO (aD (eV 0) (aD (eC (.bool true)) aH))) [none]) (c7 1 [.list b])=some (.list (b.map fun d=>.tuple [d,.bool true])):=by
   unfold fQ fW;rw [show eW (eV 0) (c7 1 [.list b])=some b from rfl,Qe,show lK [none] (c7 1 [.list b])=[Sl.no]from rfl,OW,Qe,if_pos (by rw [Qi];exact o)];rfl
  show(fQ _ _).bind _=_
  rw [q];rfl
end
abbrev wR:Zm:=iH (top 34) 0
abbrev wT:Zm:=iH (top 34) 1
abbrev wV:Zm:=iH (top 34) 2
abbrev wQ:Zm:=iH (top 34) 3
abbrev yZ:Zm:=iH (top 34) 4
abbrev wS:Zm:=iH (top 34) 5
abbrev wU:Zm:=iH (top 34) 6
def OD:List Str:=["self","floor"]
def wK:List Str:=["self","cell"]
def Fg:List Str:=["self","floor","cell","solids","changed","couple"]
def Fh:List Str:=["self","couples","couple"]
def wJ:List Str:=["self"]
theorem Tu:bR OD ["self","floor"] (aS wR):=cA rfl (by decide +kernel)
theorem Tw:bR wK ["self","cell"] (aS wT):=cA rfl (by decide +kernel)
theorem Wc:bR wK ["self","cell"] (aS wV):=cA rfl (by decide +kernel)
theorem y3:bR Fg ["self","floor","cell"] (aS wQ):=cA rfl (by decide +kernel)
theorem Io:bR Fh ["self","couples"] (aS yZ):=cA rfl (by decide +kernel)
theorem Tv:bR wJ ["self"] (aS wS):=cA rfl (by decide +kernel)
theorem Tx:bR wJ ["self"] (aS wU):=cA rfl (by decide +kernel)
structure sB(K:PySem.W.Frag)(mg:Str->Option YP)(C:JY):Prop where
 cl:fX K C
 nF:gU K C "floor"
 nS:gU K C "sights"
 nL:gU K C "looks"
 mC:mg "Keeper"=some (.ref C)
def Er:GS K3:=dM (iQ 0 lM)
def Ip:GS K3:=dM (KQ 0)
def Iq:GS K3:=p9 (eW (eV 1)) 2 (cR (xB (l4 0 (eV 2))) (CQ 0 (eV 2)) (CT 0 (eV 2)))
def rE:GM K3:=jF 0 1 Er
def rG:GM K3:=jF 0 1 Ip
def tF:GM K3:=jF 0 3 Iq
def AB:GS K3:=bM (qD 0 HB (xP (eV 1)))
 (bM (eS 3 (xP (aV hJ (aD (aF aQ (eV 1) (eC (.int 2))) aH))))
 (bM (v5 4 dU)
 (bM (p9 (eW (aV lH (aD (aV oS (aD (eV 1) aH)) aH))) 5 (cR (xP (eB (aV nI (aD (aF aQ (eV 5) (eC (.int 0))) (aD (aF aQ (eV 5) (eC (.int 1))) (aD (eV 2) aH))))))
  (bM (qD 0 BY (bQ cG (iQ 0 BX) (xP (eC (.int 1)))))
  (cR (xB (bQ cU (xP (aV lI (aD (eV 3) (aD (aF aQ (eV 5) (eC (.int 0))) (aD (aF aQ (eV 5) (eC (.int 1))) aH))))) (l4 0 (eV 5)))) (p8 4 (xP (eV 5))) eL)) eL))
 (A0 4 (bM (mF (bJ 0 tF (aD (eV 4) aH))) (dM (xP (eV 4))))))))
def nH:GM K3:=jF 0 6 AB
def AC:GS K3:=bM (mF (eK uD (cI (iQ 0 lM) (cI (xP (eV 1)) dU)))) (dM (t9 0 nH (cI (eK iC (cI (iQ 0 lM) (cI (xP (eV 1)) dU))) (cI (xP (eV 1)) dU))))
def rF:GM K3:=jF 0 2 AC
def C3:GS K3:=bM (cR (v3 (xB (eK kG (cI (iQ 0 lM) (cI (xP (eV 1)) dU))))) (fun _ _=>none) eL) (dM (t9 0 nH (cI (eK iD (cI (iQ 0 lM) (cI (xP (eV 1)) dU))) (cI (xP (eV 1)) dU))))
def rH:GM K3:=jF 0 2 C3
theorem W4{X:Cx}{B:Type}{k:eG X.K B}{τ:List (Nat × Nat)}{f:Zm}:XS k τ f (fun _ _=>none):=fun b s g H W I q=>by
 obtain⟨a,e,d,F,h,i,j,o,l,S,q,c⟩:=q;cases q
theorem oP{B:Type}:∀(ρ:aA) (Ω:List B) (x:List D × List B),dU ρ Ω=some x->x.1.length=0:=fun _ _ _ h=>by cases h;rfl
theorem iZ{B:Type}{n:Nat}{ga:GX B D}{gr:GX B (List D)}(h:∀(ρ:aA) (Ω:List B) (x:List D × List B),gr ρ Ω=some x->x.1.length=n):∀(ρ:aA) (Ω:List B) (x:List D × List B),cI ga gr ρ Ω=some x->x.1.length=n+1:=fun ρ Ω x q=>by
 obtain⟨y,_,q⟩:=aG q;obtain⟨z,e,q⟩:=aG q;cases q;rw [Qt,h _ _ _ e]
section
variable {P:J2}{w:J5}{K:PySem.W.Frag}{mg:Str->Option YP}{base:Heap}{a:Nat->JY}{d:Nat->J6}{C:JY}(T:n9 K mg a d)(B:sB K mg C)
include T B
theorem U7{f:JY}{b:J6}(F:dR K "now" "Keeper.now" wS f b):aM P w K mg base aO 1 f b ["self"] (cJ (kK K C) 1 rE):=by
 refine pS (k:=kK K C) (j:=0) (g:=Er) (G:=rE) (N:=wJ) (kk:=0) rfl rfl rfl F Tv fun c A a s H E d=>?_;exact dZ (iS (qB (i:=0) (j:=0) (by decide) B.cl B.nF uW))
theorem U9{f:JY}{c:J6}(F:dR K "seen" "Keeper.seen" wU f c):aM P w K mg base aO 1 f c ["self"] (cJ (kK K C) 1 rG):=by
 refine pS (k:=kK K C) (j:=0) (g:=Ip) (G:=rG) (N:=wJ) (kk:=0) rfl rfl rfl F Tx fun d A a s H E b=>?_;exact dZ (iS (W2 (i:=0) (j:=0) (jI b) (by decide) B.cl B.nS rfl (Zl rfl) (by decide) (by decide) rfl rfl (l0 b) rfl T.z_sorted rfl T.z_list rfl rfl rfl rfl))
theorem Vd{f:JY}{c:J6}(F:dR K "turn_over" "Keeper.turn_over" yZ f c):aM P w K mg base aO 1 f c ["self","couples"] (cJ (kK K C) 2 tF):=by
 refine pS (k:=kK K C) (j:=0) (g:=Iq) (G:=tF) (N:=Fh) (kk:=0) rfl rfl rfl F Io fun d A a s H E b=>?_
 exact dZ (CP (i:=2) YG rfl Io.nd (by decide) (iG (aC 1)) (dZ (i9 (WC (i:=0) (j:=0) (jI b) (by decide) B.cl B.nS (aC 2) rfl (Zl rfl) (by decide) (by decide) rfl (by with_unfolding_all rfl))
  (dZ (W6 (i:=0) (j:=0) (jI b) (by decide) B.cl B.nS (aC 2) rfl (Zl rfl) (by decide) (by decide) rfl rfl rfl rfl rfl rfl rfl)) (dZ (W7 (i:=0) (j:=0) (jI b) (by decide) B.cl B.nS (aC 2) rfl (Zl rfl) (by decide) (by decide) rfl rfl)))))
theorem RZ{o:JY}{q:J6}(r:kW K C "turn_over" o)(u:L2.Binds K q ["self","couples"] [])(v:aM P w K mg base aO 1 o q ["self","couples"] (cJ (kK K C) 2 tF))
  (e:aM P w K mg base aO 1 (a 2) (d 2) ["things"] (aU K 1 hJ)) (l:aM P w K mg base aO 1 (a 8) (d 8) ["cells"] (aU K 1 lH)) (h:aM P w K mg base aO 1 (a 1) (d 1) ["floor"] (aU K 1 oS)) (c:aM P w K mg base aO 2 (a 12) (d 12) ["one","other","cell"] (aU K 3 nI)) (m:aM P w K mg base aO 3 (a 16) (d 16) ["solids","one","other"] (aU K 3 lI))
  {f:JY}{p:J6} (F:dR K "changed_to" "Keeper.changed_to" wQ f p):aM P w K mg base aO 4 f p ["self","floor","cell"] (cJ (kK K C) 3 nH):=by
 refine pS (k:=kK K C) (j:=0) (g:=AB) (G:=nH) (N:=Fg) (kk:=3) rfl rfl rfl F y3 fun t A n s H E b=>?_
 exact dB (Ke (i:=0) (j:=0) (by decide) B.cl B.nF NV (bY (aC 1)))
  (dB (kQ (i:=3) y3.nd (by decide) (bY (bW T.F_qn e b rfl (aI (aY aX (aC 1) aK) aP rfl) c4)))
  (dB (W5 (i:=4) y3.nd (by decide) jU)
  (dB (CP (i:=5) YG rfl y3.nd (by decide) (iG (bW T.F_q7 l b rfl (aI (bW T.F_qf h b rfl (aI (aC 1) aP rfl) c4) aP rfl) c4)) (dZ (i9 (Kg (j5 (bW T.F_qo c b rfl (aI (aY aX (aC 5) aK) (aI (aY aX (aC 5) aK) (aI (aC 2) aP rfl) rfl) rfl) fL)))
   (dB (Ke (i:=0) (j:=0) (by decide) B.cl B.nL NW (Kd dQ (qB (i:=0) (j:=0) (by decide) B.cl B.nL Mc) (bY aK)))
   (dZ (i9 (kS (jP (dG b)) (bY (bW T.F_q5 m b rfl (aI (aC 3) (aI (aY aX (aC 5) aK) (aI (aY aX (aC 5) aK) aP rfl) rfl) rfl) fL)) (W1 (i:=0) (j:=0) (jI b) (by decide) B.cl B.nS (aC 5) rfl (Zl rfl) (by decide) (by decide) rfl (by with_unfolding_all rfl)) (c6 _)) (dZ (W3 (i:=4) (bY (aC 5)))) kR))) kR)))
  (W8 4 (dB (yX (jV (i:=0) (j:=0) (by decide) B.cl r (fun _ _ _ _=>⟨rfl,rfl⟩) v (b.mono (by decide)) u (aI (aC 4) aP rfl) c4)) (dZ (iS (bY (aC 4)))))))))
variable {fc:JY}{dc:J6}(mc:kW K C "changed_to" fc)(bc:L2.Binds K dc ["self","floor","cell"] [])(Gc:aM P w K mg base aO 4 fc dc ["self","floor","cell"] (cJ (kK K C) 3 nH))
include mc bc Gc
theorem U8(e:aM P w K mg base aO 6 (a 23) (d 23) ["floor","cell"] (aU K 2 uD))(c:aM P w K mg base aO 5 (a 21) (d 21) ["floor","cell"] (aU K 2 iC)){f:JY}{n:J6}(F:dR K "put_solid" "Keeper.put_solid" wT f n):aM P w K mg base aO 7 f n ["self","cell"] (cJ (kK K C) 2 rF):=by
 refine pS (k:=kK K C) (j:=0) (g:=AC) (G:=rF) (N:=wK) (kk:=6) rfl rfl rfl F Tw fun o A h s H E l=>?_
 exact dB (yX (uA e l rfl T.F_q2.m T.F_q2.F.kp T.F_q2.b (gP (qB (i:=0) (j:=0) (by decide) B.cl B.nF uW) (gP (bY (aC 1)) jU)) (iZ (iZ oP))))
  (dZ (iS (Kb (i:=0) (j:=0) (by decide) B.cl mc (fun _=>⟨rfl,rfl⟩) Gc (l.mono (by decide)) bc (gP (uA c (l.mono (by decide)) rfl T.F_q8.m T.F_q8.F.kp T.F_q8.b (gP (qB (i:=0) (j:=0) (by decide) B.cl B.nF uW) (gP (bY (aC 1)) jU)) (iZ (iZ oP))) (gP (bY (aC 1)) jU)) (iZ (iZ oP)))))
theorem Vc(c:aM P w K mg base aO 5 (a 20) (d 20) ["floor","cell"] (aU K 2 kG))(e:aM P w K mg base aO 5 (a 22) (d 22) ["floor","cell"] (aU K 2 iD)){f:JY}{n:J6}(F:dR K "take_solid" "Keeper.take_solid" wV f n):aM P w K mg base aO 7 f n ["self","cell"] (cJ (kK K C) 2 rH):=by
 refine pS (k:=kK K C) (j:=0) (g:=C3) (G:=rH) (N:=wK) (kk:=6) rfl rfl rfl F Wc fun o A h s H E l=>?_
 exact dB (i9 (WD (WE (uA c (l.mono (by decide)) rfl T.F_qh.m T.F_qh.F.kp T.F_qh.b (gP (qB (i:=0) (j:=0) (by decide) B.cl B.nF uW) (gP (bY (aC 1)) jU)) (iZ (iZ oP))))) (dZ W4) kR)
  (dZ (iS (Kb (i:=0) (j:=0) (by decide) B.cl mc (fun _=>⟨rfl,rfl⟩) Gc (l.mono (by decide)) bc (gP (uA e (l.mono (by decide)) rfl T.F_q6.m T.F_q6.F.kp T.F_q6.b (gP (qB (i:=0) (j:=0) (by decide) B.cl B.nF uW) (gP (bY (aC 1)) jU)) (iZ (iZ oP))) (gP (bY (aC 1)) jU)) (iZ (iZ oP)))))
end
end My
namespace My
open PySem PySem.Spec PySem.SeqAt PyProof.Rows L2 CL DL OB SD ZL SL EL DC KP ST
def uL:List D->Option (List CK)
 | []=>some []
 | d::r=>(k5 d).bind fun k=>(uL r).bind fun a=>some (k::a)
theorem Gz:∀{ds:List D}{cs:List CK},uL ds=some cs->Paired (fun d k=>k5 d=some k) ds cs
 | [],_,h=>by cases h;exact .nil
 | d::r,_,h=>by
  obtain⟨k,b,h⟩:=aG h;obtain⟨c,a,h⟩:=aG h;cases h;exact .cons b (Gz a)
def oQ:List D->Option K3
 | [f]=>(kF [f]).bind fun d=>match d with
  | .list b=>(uL b).bind fun a=>if a.Nodup/\a.length<=1000 then some (f,a,0)else none
  | _=>none
 | _=>none
theorem Mm(a:V):bL "floor" a []=[(("floor":Str),a)]:=rfl
theorem Mn(a v:V):bL "sights" v [(("floor":Str),a)]=[(("floor":Str),a),("sights",v)]:=by
 unfold bL;rw [if_neg (by decide)];unfold bL;rfl
theorem Mo(b:V)(a:JY)(n:Int):bL "looks" (.int n) [(("floor":Str),b),("sights",.ref a)]=gS b a n:=by
 unfold bL;rw [if_neg (by decide)];unfold bL;rw [if_neg (by decide)];unfold bL;rfl
section
variable {P:J2}{w:J5}{K:PySem.W.Frag}{mg:Str->Option YP}{base:Heap}{a:Nat->JY}{d:Nat->J6}{C:JY}(T:n9 K mg a d)(B:sB K mg C)
include T B
theorem R0(g:aM P w K mg base aO 1 (a 2) (d 2) ["things"] (Lf K))(N:aM P w K mg base aO 3 (a 17) (d 17) ["floor"] (aU K 1 kF)){f:JY}{fd:J6}(F:dR K "__init__" "Keeper.__init__" wR f fd):aM P w K mg base aO 4 f fd ["self","floor"] (lE (kK K C) C 1 oQ):=by
 refine F.ok Tu (fun vs H Q E h=>?_) (fun a2 A O s H vs Q E hr h=>?_)
 ·obtain⟨F,x,e,us,ds,b,rfl,o,_,_,_,r,_⟩:=h;rw [Qt,<- r.length,o];rfl
 obtain⟨F,x,e,us,ds,b,rfl,o,z,hx,nx,r,q,c⟩:=h;unfold oQ at q
 split at q
 ·rename_i fl;obtain⟨dl,e1,q⟩:=aG q
  split at q
  ·rename_i cl;obtain⟨cs,e2,q⟩:=aG q;by_cases u:cs.Nodup/\cs.length<=1000
   ·rw [if_pos u]at q;cases q
    cases r with
    | @cons _ vf _ _ rf t=>
     cases t
     refine⟨_,jS (l6 (pv 0) (pv 1) rfl) (jS (l6 (pv 0) (jR g (hr.mono (by decide)) rfl T.F_qn.m T.F_qn.F.kp T.F_qn.b .nil fP (cL (jR N hr rfl T.F_qb.m T.F_qb.F.kp T.F_qb.b .nil fP (cL (pv 1) dC)) dC)) rfl) (kM (l6 (pv 0) xW rfl))),?_⟩
     refine⟨_,rfl,_,rfl,x,C,e,[],rfl,hx,B.cl,B.nF,(by decide),?_⟩
     rw [Mm];have K1:bT K (fun a=>a=x) F F H (aJ H x (.ins C e [(("floor":Str),vf)])):=jL z hx fO.1 fO.2 nx rfl;have I:aJ H x (.ins C e [(("floor":Str),vf)]) x=some (.ins C e [(("floor":Str),vf)]):=cS;generalize aJ H x (.ins C e [(("floor":Str),vf)])=H1 at *
     refine⟨_,rfl,F,[fl],_,rfl,K1.fz,.cons (rf.stay K1.st) .nil,e1,fun F2 H2 vl E2 R2=>?_⟩
     refine⟨F2,cl,cs,E2.fz K1.fz,.cons R2 .nil,Gz e2,u.1,u.2,fun i H3 p l n E3 X o hk=>?_⟩
     have E13:=E2.trans E3;have K3:bT K (fun a=>a=x) F i H1 H3:=bT.ext K1.fz E13;have S:=E13.same _ _ I;have E4:aN i i H3 (aJ H3 p (cN p (dI l) n)):=aN.fresh X;have J:aJ H3 p (cN p (dI l) n) p=some (cN p (dI l) n):=cS;have k:=E4.same _ _ S;have Y:=fun q U=>(hk q U).stay (E4.stay (K:=K));have K4:bT K (fun a=>a=x) i i H3 (aJ H3 p (cN p (dI l) n)):=bT.ext K3.fz E4;generalize aJ H3 p (cN p (dI l) n)=M at *;have xp:p≠x:=qM J k (by intro w;cases w)
     have j:¬ i x:=fun Z=>(E13.new x Z).elim nx fun w=>by rw [I]at w;cases w.1
     have R:¬ i p:=fun Z=>K3.fz p Z X
     refine⟨_,rfl,x,C,e,_,rfl,k,B.cl,B.nS,(show 1<1000 by decide),?_⟩
     rw [Mn];have K5:bT K (fun a=>a=x) i i M (aJ M x (.ins C e [(("floor":Str),vf),("sights",.ref p)])):=jL K4.fz k fO.1 fO.2 j rfl;have G:aJ M x (.ins C e [(("floor":Str),vf),("sights",.ref p)]) x=some (.ins C e [(("floor":Str),vf),("sights",.ref p)]):=cS
     have W:aJ M x (.ins C e [(("floor":Str),vf),("sights",.ref p)]) p=some (cN p (dI l) n):=by rw [aZ xp];exact J
     generalize aJ M x (.ins C e [(("floor":Str),vf),("sights",.ref p)])=H5 at *
     refine⟨_,rfl,x,C,e,_,rfl,G,B.cl,B.nL,(show 2<1000 by decide),?_⟩
     rw [Mo];have K6:bT K (fun a=>a=x) i i H5 (aJ H5 x (.ins C e (gS vf p 0))):=jL K5.fz G fO.1 fO.2 j rfl;have v:∀ y:JY,y=x->∀ H:Hp,y=x ∨ H y=none:=fun y h _=>.inl h;have a0:=K4.trans (K5.trans K6 fun x h=>v x h _) fun x h=>v x h _;have KA:=K1.trans (K3.trans a0 fun x h=>v x h _) fun x h=>v x h _;have K56:=K5.trans K6 fun x h=>v x h _;have np:H p=none:=K1.lv p (K3.lv p X);refine c i _ (fun y=>y=x ∨ y=p) KA (fun y h=>?_) ⟨p,e,vf,l,n,⟨cS,rf.stay KA.st,⟨by rw [aZ xp];exact W,fun q U=>(Y q U).stay K56.st,by rw [o];exact u.1,by rw [<- Qi (f:=(·.1)),o];exact u.2⟩,o,j,R⟩,fun _=>Iff.rfl⟩;rcases h with rfl | rfl
     ·exact .inl rfl
     ·exact .inr np
   ·rw [if_neg u]at q;cases q
  ·cases q
 ·cases q
end
end My
namespace My
open PySem PySem.Spec PySem.SeqAt PyProof.Rows L2 CL DL OB SD ZL SL EL DC KP ST
abbrev BK:=B3 ⊕ K3
def NE(K:PySem.W.Frag)(C D':JY)(F:JY->Prop)(H:Hp)(p:JY):BK->(JY->Prop)->Prop
 | .inl b,φ=>(bK K C).At F H p b φ
 | .inr b,φ=>(kK K D').At F H p b φ
def sK(K:PySem.W.Frag)(C D':JY):eG K BK where
 cl:=fun
  | .inl _=>C
  | .inr _=>D'
 fn:=fun
  | .inl _=>["floor","done","undone"]
  | .inr _=>["floor","sights","looks"]
 At:=NE K C D'
 own:=fun{F H p b φ} h=>by
  cases b with
  | inl b=>exact(bK K C).own h
  | inr b=>exact(kK K D').own h
 ins:=fun{F H p b φ} h=>by
  cases b with
  | inl b=>exact(bK K C).ins h
  | inr b=>exact(kK K D').ins h
 keep:=fun{F F' H H' p b φ} h T s n=>by
  cases b with
  | inl b=>exact(bK K C).keep h T s n
  | inr b=>exact(kK K D').keep h T s n
def lL(G:GM B3):GM BK:=fun a b=>match b with
 | .inl b=>(G a b).bind fun r=>some (r.1,.inl r.2)
 | .inr _=>none
def lR(G:GM K3):GM BK:=fun a b=>match b with
 | .inr b=>(G a b).bind fun r=>some (r.1,.inr r.2)
 | .inl _=>none
def iL(G:List D->Option B3):List D->Option BK:=fun a=>(G a).bind fun b=>some (.inl b)
def iR(G:List D->Option K3):List D->Option BK:=fun a=>(G a).bind fun b=>some (.inr b)
section
variable {P:J2}{w:J5}{K:PySem.W.Frag}{mg:Str->Option YP}{base:Heap}{C D':JY}{n kk:Nat}{f:JY}{fd:J6}{ps:List Str}
theorem sZ{G:GM B3}(F:aM P w K mg base aO kk f fd ps (cJ (bK K C) n G)):aM P w K mg base aO kk f fd ps (cJ (sK K C D') n (lL G)):=F.imp fun x H Q E h=>by
 obtain⟨F,p,b,g,m,r,y,k,z,at0,o,q,c⟩:=h
 cases b with
 | inr b=>cases q
 | inl b=>
  obtain⟨e,l,q⟩:=aG q;cases q
  exact⟨F,p,b,g,m,e.1,e.2,k,z,at0,o,l,fun u t v a j i d s=>c u t v a j i d s⟩
theorem vZ{G:GM K3}(F:aM P w K mg base aO kk f fd ps (cJ (kK K D') n G)):aM P w K mg base aO kk f fd ps (cJ (sK K C D') n (lR G)):=F.imp fun x H Q E h=>by
 obtain⟨F,p,b,g,m,r,y,k,z,at0,o,q,c⟩:=h
 cases b with
 | inl b=>cases q
 | inr b=>
  obtain⟨e,l,q⟩:=aG q;cases q
  exact⟨F,p,b,g,m,e.1,e.2,k,z,at0,o,l,fun u t v a j i d s=>c u t v a j i d s⟩
theorem Ou{G:List D->Option B3}(F:aM P w K mg base aO kk f fd ps (lE (bK K C) C n G)):aM P w K mg base aO kk f fd ps (lE (sK K C D') C n (iL G)):=F.imp fun v H Q E e=>by
 obtain⟨F,x,p,g,s,b,m,l,z,k,i,r,q,c⟩:=e;obtain⟨b1,o,q⟩:=aG q;cases q
 exact⟨F,x,p,g,s,b1,m,l,z,k,i,r,o,fun u t a j h d=>c u t a j h d⟩
theorem Ov{G:List D->Option K3}(F:aM P w K mg base aO kk f fd ps (lE (kK K D') D' n G)):aM P w K mg base aO kk f fd ps (lE (sK K C D') D' n (iR G)):=F.imp fun v H Q E e=>by
 obtain⟨F,x,p,g,s,b,m,l,z,k,i,r,q,c⟩:=e;obtain⟨b1,o,q⟩:=aG q;cases q
 exact⟨F,x,p,g,s,b1,m,l,z,k,i,r,o,fun u t a j h d=>c u t a j h d⟩
theorem fH{G:GM B3}{m:Str}(a:(["floor","done","undone"]:List Str).contains m=false):∀ os b r,lL G os b=some r->(sK K C D').cl b=C/\((sK K C D').fn b).contains m=false:=fun os b r h=>by
 cases b with
 | inl b=>exact⟨rfl,a⟩
 | inr b=>cases h
theorem vG{G:GM K3}{m:Str}(a:(["floor","sights","looks"]:List Str).contains m=false):∀ os b r,lR G os b=some r->(sK K C D').cl b=D'/\((sK K C D').fn b).contains m=false:=fun os b r h=>by
 cases b with
 | inl b=>cases h
 | inr b=>exact⟨rfl,a⟩
end
end My
namespace My
open PySem PySem.Spec PySem.SeqAt PyProof.Rows L2 CL DL OB SD ZL SL EL DC KP ST
structure Ao(K:PySem.W.Frag)(C:JY)(b:Nat->JY)(e:Nat->J6):Prop where
 M:Mk K C (b 0)
 Fi:dR K "__init__" "Builder.__init__" wY (b 0) (e 0)
 bi:L2.Binds K (e 0) ["self","floor"] []
 put:Fm K C "put" "Builder.put" xA ["self","cell"] (b 1) (e 1)
 take:Fm K C "take" "Builder.take" xC ["self","cell"] (b 2) (e 2)
 mirror:Fm K C "mirror" "Builder.mirror" wZ ["self"] (b 3) (e 3)
 flip:Fm K C "flip" "Builder.flip" wX ["self"] (b 4) (e 4)
 build:Fm K C "build" "Builder.build" wW ["self","word","floor"] (b 5) (e 5)
 now:Fm K C "now" "Builder.now" w6 ["self"] (b 6) (e 6)
structure Ap(K:PySem.W.Frag)(C:JY)(b:Nat->JY)(e:Nat->J6):Prop where
 M:Mk K C (b 0)
 Fi:dR K "__init__" "Keeper.__init__" wR (b 0) (e 0)
 bi:L2.Binds K (e 0) ["self","floor"] []
 put:Fm K C "put_solid" "Keeper.put_solid" wT ["self","cell"] (b 1) (e 1)
 take:Fm K C "take_solid" "Keeper.take_solid" wV ["self","cell"] (b 2) (e 2)
 chg:Fm K C "changed_to" "Keeper.changed_to" wQ ["self","floor","cell"] (b 3) (e 3)
 turn:Fm K C "turn_over" "Keeper.turn_over" yZ ["self","couples"] (b 4) (e 4)
 now:Fm K C "now" "Keeper.now" wS ["self"] (b 5) (e 5)
 seen:Fm K C "seen" "Keeper.seen" wU ["self"] (b 6) (e 6)
def DQ:List Str:=["_law_script","_law_floor_here","_law_builder","_law_keeper","_law_whole","_law_k","_law_cell_here","_law_told","_law_here","_law_many"]
theorem iM:bR DQ ["_law_script"] (aS AT):=cA rfl (by decide +kernel)
def sH:GS BK:=
  (bM (eS 1 (xP (aV tH (aD (eV 0) (aD (eC (.int 0)) (aD (eC (.int 4)) aH))))))
  (bM (v4 2 0 (iL wG) (aD (eV 1) aH))
  (bM (v4 3 1 (iR oQ) (aD (eV 1) aH))
  (bM (eS 4 (xP (aV eU (aD (aV kF (aD (eV 1) aH)) aH))))
  (bM (p9 (j8 (aD (aF cG (eC (.int 1)) (aV e8 (aD (eV 0) (aD (eC (.int 60)) (aD (eC (.int 6)) aH))))) aH)) 5 (bM (eS 6 (xP (cO (aD (aV e8 (aD (eV 0) (aD (aF cG (eC (.int 61)) (aF cK (eC (.int 2)) (eV 5))) (aD (aF aQ (eV 1) (eC (.int 0))) aH)))) (aD (aV e8 (aD (eV 0) (aD (aF cG (eC (.int 62)) (aF cK (eC (.int 2)) (eV 5))) (aD (aF aQ (eV 1) (eC (.int 1))) aH)))) aH)))))
  (bM (cR (xB (bQ (jE false) (xP (eV 6)) (bQ aQ (bJ 0 (lL gA) aH) (xP (eC (.int 2)))))) (bM (eS 7 (bJ 0 (lL gK) (aD (eV 6) aH)))
  (cR (xB (bQ cU (xP (eV 7)) (eK eU (cI (bJ 1 (lR rH) (aD (eV 6) aH)) dU)))) (dM (xP (eC (.bool false)))) eL)) (bM (eS 7 (bQ g8 (xP (eC (.int 0))) (bJ 0 (lL hF) (aD (eV 6) aH))))
  (cR (xB (bQ cU (xP (aF g8 (eC (.int 0)) (eV 7))) (eK eU (cI (bJ 1 (lR rF) (aD (eV 6) aH)) dU)))) (dM (xP (eC (.bool false)))) eL)))
  (bM (eS 4 (xP (aF cG (eV 4) (eV 7))))
  (cR (oO (xB (bQ cU (bJ 0 (lL gA) aH) (bJ 1 (lR rE) aH))) (xB (bQ cU (eK eU (cI (bJ 1 (lR rG) aH) dU)) (xP (eV 4))))) (dM (xP (eC (.bool false)))) eL)))))
  (bM (eS 8 (bJ 0 (lL gA) aH))
  (bM (cR (oO (xB (bQ rT (bJ 0 (lL mH) aH) (xP (eC .none)))) (xB (bQ rT (bJ 0 (lL mG) aH) (xP (eC .none))))) (dM (xP (eC (.bool false)))) eL)
  (bM (cR (xB (bQ cU (eK eU (cI (eK kF (cI (bJ 0 (lL gA) aH) dU)) dU)) (xP (eV 4)))) (dM (xP (eC (.bool false)))) eL)
  (bM (mF (bJ 0 (lL mG) aH))
  (bM (mF (bJ 0 (lL mH) aH))
  (bM (cR (xB (bQ cU (bJ 0 (lL gA) aH) (xP (eV 8)))) (dM (xP (eC (.bool false)))) eL)
  (bM (eS 6 (xP (cO (aD (aV e8 (aD (eV 0) (aD (eC (.int 80)) (aD (aF aQ (eV 1) (eC (.int 0))) aH)))) (aD (aV e8 (aD (eV 0) (aD (eC (.int 81)) (aD (aF aQ (eV 1) (eC (.int 1))) aH)))) aH)))))
  (bM (cR (xP (eB (aF (jE false) (eV 6) (aF aQ (eV 8) (eC (.int 2)))))) (bM (eS 9 (bJ 0 (lL gK) (aD (eV 6) aH)))
  (dM (hY (xP (aF oD (eV 9) (eC (.int 0)))) (hY (bQ eA (bJ 0 (lL hF) (aD (eV 6) aH)) (xP (eV 9))) (hY (bQ eA (bJ 0 (lL gA) aH) (xP (eV 8))) (bQ eA (bJ 0 (lL gK) (aD (eV 6) aH)) (xP (eV 9)))))))) eL)
  (bM (eS 9 (bJ 0 (lL hF) (aD (eV 6) aH)))
  (bM (cR (xB (bQ cU (bJ 0 (lL hF) (aD (eV 6) aH)) (xP (eC (.int 0))))) (dM (xP (eC (.bool false)))) eL)
  (dM (hY (xP (aF oD (eV 9) (eC (.int 0)))) (hY (bQ eA (bJ 0 (lL gK) (aD (eV 6) aH)) (xP (eV 9))) (hY (bQ eA (bJ 0 (lL gA) aH) (xP (eV 8))) (bQ eA (bJ 0 (lL gK) (aD (eV 6) aH)) (xP (eC (.int 0)))))))))))))))))))))))
def kU:List D->Option D:=vK 10 sH
section
variable {P:J2}{w:J5}{K:PySem.W.Frag}{mg:Str->Option YP}{base:Heap}{a:Nat->JY}{d:Nat->J6}{C:JY}{b:Nat->JY}{e:Nat->J6}{C2:JY}{b2:Nat->JY}{e2:Nat->J6}(T:n9 K mg a d)(B:pK K mg C)(M:Ao K C b e)(B2:sB K mg C2)(M2:Ap K C2 b2 e2)
include T B M B2 M2
theorem Nc(y:aM P w K mg base aO 3 (a 18) (d 18) ["_law_script","_law_at","_law_most"] (aU K 3 tH))(x:aM P w K mg base aO 3 (a 17) (d 17) ["floor"] (aU K 1 kF))(q:aM P w K mg base aO 2 (a 14) (d 14) ["_law_script","_law_k","_law_many"] (aU K 3 e8))(p:aM P w K mg base aO 2 (b 4) (e 4) ["self"] (cJ (sK K C C2) 1 (lL mG)))(o:aM P w K mg base aO 2 (b 3) (e 3) ["self"] (cJ (sK K C C2) 1 (lL mH)))(f:aM P w K mg base aO 1 (b 6) (e 6) ["self"] (cJ (sK K C C2) 1 (lL gA)))(l:aM P w K mg base aO 7 (b 1) (e 1) ["self","cell"] (cJ (sK K C C2) 2 (lL hF)))(h:aM P w K mg base aO 7 (b 2) (e 2) ["self","cell"] (cJ (sK K C C2) 2 (lL gK)))(v:aM P w K mg base aO 1 (b2 5) (e2 5) ["self"] (cJ (sK K C C2) 1 (lR rE)))(G_k_put_solid:aM P w K mg base aO 7 (b2 1) (e2 1) ["self","cell"] (cJ (sK K C C2) 2 (lR rF)))(r:aM P w K mg base aO 1 (b2 6) (e2 6) ["self"] (cJ (sK K C C2) 1 (lR rG)))(G_k_take_solid:aM P w K mg base aO 7 (b2 2) (e2 2) ["self","cell"] (cJ (sK K C C2) 2 (lR rH)))(u:aM P w K mg base aO 1 (b 0) (e 0) ["self","floor"] (lE (sK K C C2) C 1 (iL wG)))(t:aM P w K mg base aO 4 (b2 0) (e2 0) ["self","floor"] (lE (sK K C C2) C2 1 (iR oQ))):aM P w K mg base aO 8 (a 25) (d 25) ["_law_script"] (aU K 1 kU):=by
 refine L5 (k:=(sK K C C2)) (τ:=[(2,0),(3,1)]) (g:=sH) (G:=kU) (N:=DQ) (kk:=7) rfl rfl rfl T.F_qp.F iM fun I A z s H E c=>?_
 exact(dB (kQ (i:=1) iM.nd (by decide) (bY (bW T.F_qa y c rfl (aI (aC 0) (aI aK (aI aK aP rfl) rfl) rfl) fL)))
  (dB (Kf (i:=2) (n:=0) iM.nd (by decide) M.M u (c.mono (by decide)) rfl B.mC M.bi (aI (aC 1) aP rfl) c4)
  (dB (Kf (i:=3) (n:=1) iM.nd (by decide) M2.M t (c.mono (by decide)) rfl B2.mC M2.bi (aI (aC 1) aP rfl) c4)
  (dB (kQ (i:=4) iM.nd (by decide) (bY (i0 mK rfl T.z_len PySem.boot_len (aI (bW T.F_qb x c rfl (aI (aC 1) aP rfl) c4) aP rfl))))
  (dB (CP (i:=5) YG rfl iM.nd (by decide) (uO rfl T.z_range (aI (bE dQ aK (bW T.F_q9 q c rfl (aI (aC 0) (aI aK (aI aK aP rfl) rfl) rfl) fL)) aP rfl)) (dB (kQ (i:=6) iM.nd (by decide) (bY (fY (aI (bW T.F_q9 q c rfl (aI (aC 0) (aI (bE dQ aK (bE gG aK (aC 5))) (aI (aY aX (aC 1) aK) aP rfl) rfl) rfl) fL) (aI (bW T.F_q9 q c rfl (aI (aC 0) (aI (bE dQ aK (bE gG aK (aC 5))) (aI (aY aX (aC 1) aK) aP rfl) rfl) rfl) fL) aP rfl) rfl))))
  (dB (i9 (kS (tP (jI c)) (bY (aC 6)) (OC aX (i8 (i:=2) (j:=0) (by decide) B.cl M.now.m (fH rfl) f (c.mono (by decide)) M.now.b) (bY aK)) (by with_unfolding_all rfl)) (dB (kQ (i:=7) iM.nd (by decide) (jV (i:=2) (j:=0) (by decide) B.cl M.take.m (fH rfl) h (c.mono (by decide)) M.take.b (aI (aC 6) aP rfl) c4))
  (dZ (i9 (kS (jP (dG c)) (bY (aC 7)) (yW mK rfl T.z_len PySem.boot_len (gP (jV (i:=3) (j:=1) (by decide) B2.cl M2.take.m (vG rfl) G_k_take_solid (c.mono (by decide)) M2.take.b (aI (aC 6) aP rfl) c4) jU)) (c6 _)) (dZ (iS (bY hO))) kR))) (dB (kQ (i:=7) iM.nd (by decide) (Kd kD (bY aK) (jV (i:=2) (j:=0) (by decide) B.cl M.put.m (fH rfl) l (c.mono (by decide)) M.put.b (aI (aC 6) aP rfl) c4)))
  (dZ (i9 (kS (jP (dG c)) (bY (bE kD aK (aC 7))) (yW mK rfl T.z_len PySem.boot_len (gP (jV (i:=3) (j:=1) (by decide) B2.cl M2.put.m (vG rfl) G_k_put_solid (c.mono (by decide)) M2.put.b (aI (aC 6) aP rfl) c4) jU)) (c6 _)) (dZ (iS (bY hO))) kR))))
  (dB (kQ (i:=4) iM.nd (by decide) (bY (bE dQ (aC 4) (aC 7))))
  (dZ (i9 (EF (Kh (kS (jP (dG c)) (i8 (i:=2) (j:=0) (by decide) B.cl M.now.m (fH rfl) f (c.mono (by decide)) M.now.b) (i8 (i:=3) (j:=1) (by decide) B2.cl M2.now.m (vG rfl) v (c.mono (by decide)) M2.now.b) (c6 _)) (Ki (kS (jP (dG c)) (yW mK rfl T.z_len PySem.boot_len (gP (i8 (i:=3) (j:=1) (by decide) B2.cl M2.seen.m (vG rfl) r (c.mono (by decide)) M2.seen.b) jU)) (bY (aC 4)) (c6 _))))) (dZ (iS (bY hO))) kR))))))
  (dB (kQ (i:=8) iM.nd (by decide) (i8 (i:=2) (j:=0) (by decide) B.cl M.now.m (fH rfl) f (c.mono (by decide)) M.now.b))
  (dB (i9 (EF (Kh (kS IB (i8 (i:=2) (j:=0) (by decide) B.cl M.mirror.m (fH rfl) o (c.mono (by decide)) M.mirror.b) (bY Gv) (c6 _)) (Ki (kS IB (i8 (i:=2) (j:=0) (by decide) B.cl M.flip.m (fH rfl) p (c.mono (by decide)) M.flip.b) (bY Gv) (c6 _))))) (dZ (iS (bY hO))) kR)
  (dB (i9 (kS (jP (dG c)) (yW mK rfl T.z_len PySem.boot_len (gP (uA x (c.mono (by decide)) rfl T.F_qb.m T.F_qb.F.kp T.F_qb.b (gP (i8 (i:=2) (j:=0) (by decide) B.cl M.now.m (fH rfl) f (c.mono (by decide)) M.now.b) jU) (iZ oP)) jU)) (bY (aC 4)) (c6 _)) (dZ (iS (bY hO))) kR)
  (dB (yX (i8 (i:=2) (j:=0) (by decide) B.cl M.flip.m (fH rfl) p (c.mono (by decide)) M.flip.b))
  (dB (yX (i8 (i:=2) (j:=0) (by decide) B.cl M.mirror.m (fH rfl) o (c.mono (by decide)) M.mirror.b))
  (dB (i9 (kS (jP (dG c)) (i8 (i:=2) (j:=0) (by decide) B.cl M.now.m (fH rfl) f (c.mono (by decide)) M.now.b) (bY (aC 8)) (c6 _)) (dZ (iS (bY hO))) kR)
  (dB (kQ (i:=6) iM.nd (by decide) (bY (fY (aI (bW T.F_q9 q c rfl (aI (aC 0) (aI aK (aI (aY aX (aC 1) aK) aP rfl) rfl) rfl) fL) (aI (bW T.F_q9 q c rfl (aI (aC 0) (aI aK (aI (aY aX (aC 1) aK) aP rfl) rfl) rfl) fL) aP rfl) rfl))))
  (dB (i9 (Kg (gW (tP (jI c)) (aC 6) (aY aX (aC 8) aK) (by with_unfolding_all rfl))) (dB (kQ (i:=9) iM.nd (by decide) (jV (i:=2) (j:=0) (by decide) B.cl M.take.m (fH rfl) h (c.mono (by decide)) M.take.b (aI (aC 6) aP rfl) c4))
  (dZ (iS (qA (bY (uJ GU (aC 9) aK (c6 _))) (qA (qC (nR (dG c)) (jV (i:=2) (j:=0) (by decide) B.cl M.put.m (fH rfl) l (c.mono (by decide)) M.put.b (aI (aC 6) aP rfl) c4) (bY (aC 9)) (c6 _)) (qA (qC (nR (dG c)) (i8 (i:=2) (j:=0) (by decide) B.cl M.now.m (fH rfl) f (c.mono (by decide)) M.now.b) (bY (aC 8)) (c6 _)) (Kc (qC (nR (dG c)) (jV (i:=2) (j:=0) (by decide) B.cl M.take.m (fH rfl) h (c.mono (by decide)) M.take.b (aI (aC 6) aP rfl) c4) (bY (aC 9)) (c6 _))))))))) kR)
  (dB (kQ (i:=9) iM.nd (by decide) (jV (i:=2) (j:=0) (by decide) B.cl M.put.m (fH rfl) l (c.mono (by decide)) M.put.b (aI (aC 6) aP rfl) c4))
  (dB (i9 (kS (jP (dG c)) (jV (i:=2) (j:=0) (by decide) B.cl M.put.m (fH rfl) l (c.mono (by decide)) M.put.b (aI (aC 6) aP rfl) c4) (bY aK) (c6 _)) (dZ (iS (bY hO))) kR)
  (dZ (iS (qA (bY (uJ GU (aC 9) aK (c6 _))) (qA (qC (nR (dG c)) (jV (i:=2) (j:=0) (by decide) B.cl M.take.m (fH rfl) h (c.mono (by decide)) M.take.b (aI (aC 6) aP rfl) c4) (bY (aC 9)) (c6 _)) (qA (qC (nR (dG c)) (i8 (i:=2) (j:=0) (by decide) B.cl M.now.m (fH rfl) f (c.mono (by decide)) M.now.b) (bY (aC 8)) (c6 _)) (Kc (qC (nR (dG c)) (jV (i:=2) (j:=0) (by decide) B.cl M.take.m (fH rfl) h (c.mono (by decide)) M.take.b (aI (aC 6) aP rfl) c4) (bY aK) (c6 _)))))))))))))))))))))))
end
end My
namespace My
open PySem PySem.SeqAt L2 DL SD SL EL DC
abbrev C:=Int × Int
def aB(c:C):D:=.tuple [.int c.1,.int c.2]
theorem Fj(i j:Int):cG (.int i) (.int j)=some (.int (i+j)):=id rfl
theorem Lm(i j:Int):g8 (.int i) (.int j)=some (.int (i-j)):=id rfl
theorem Mb(i j:Int):oD (.int i) (.int j)=some (.bool (decide (j<=i))):=id rfl
theorem LY(i j:Int):eA (.int i) (.int j)=some (.bool (i == j)):=id rfl
theorem MD(i j:Int):cU (.int i) (.int j)=some (.bool (!(i == j))):=id rfl
theorem yM(l:List D):eU [.list l]=some (.int l.length):=id rfl
theorem i4{i j:Int}(h:mS i j=true):cK (.int i) (.int j)=some (.int (i * j)):=by
 show(if mS i j=true then _ else _)=_
 rw [if_pos h]
theorem FJ{i j:Int}(h:qN i j=true):oY (.int i) (.int j)=some (.int (i / j)):=by
 show(if qN i j=true then _ else _)=_
 rw [if_pos h]
theorem qL{i j:Int}(h:0<j):j0 (.int i) (.int j)=some (.int (i % j)):=by
 show(if decide (0<j)=true then _ else _)=_
 rw [if_pos (decide_eq_true h)]
theorem j3{i j:Int}(b:-18446744073709551616<i)(a:i<18446744073709551616):mS i j=true:=by
 unfold mS;rw [decide_eq_true b,decide_eq_true a];rfl
theorem Eo{i j:Int}(b:-18446744073709551616<j)(a:j<18446744073709551616):mS i j=true:=by
 unfold mS;rw [decide_eq_true b,decide_eq_true a];simp
theorem En{i j:Int}(b:0<j)(a:j<1073741824):qN i j=true:=by
 unfold qN;rw [decide_eq_true b,decide_eq_true a];rfl
section
variable {α β:Type}
theorem uH{s:D->aA->Option aA}{t:aA->Option Bool}{ge:aA->Option D}(item:α->D)(p:α->Bool)(f:α->D)(I:aA->Prop):∀{xs:List α}{ρ:aA},I ρ->
  (∀ a∈xs,∀ ρ,I ρ->∃ ρ',s (item a) ρ=some ρ'/\I ρ'/\t ρ'=some (p a)/\(p a=true->ge ρ'=some (f a)))->nK s t ge (xs.map item) ρ=some ((xs.filter p).map f)
 | [],_,_,_=>rfl
 | x::xs,ρ,h0,h=>by
  obtain⟨ρ',i,c,g,e⟩:=h x Qo ρ h0;have b:=uH item p f I c fun y d=>h y (Qf _ d);rw [Qm];unfold nK;rw [i,Qe,g,Qe]
  cases q:p x with
  | true=>rw [if_pos rfl,e q,Qe,b,Y5 q];rfl
  | false=>rw [if_neg Qq,b,YL (by rw [q];exact Qq)]
theorem HJ{gi:aA->Option (List D)}{s:D->aA->Option aA}{t:aA->Option Bool}{ge:aA->Option D}{inner:List (Option Nat)}{ρ:aA}{xs:List α}(item:α->D)(p:α->Bool)(f:α->D)(I:aA->Prop)(c:gi ρ=some (xs.map item))(b:xs.length<=1000)(d:I (lK inner ρ))
  (h:∀ a∈xs,∀ ρ,I ρ->∃ ρ',s (item a) ρ=some ρ'/\I ρ'/\t ρ'=some (p a)/\(p a=true->ge ρ'=some (f a))):fQ (fW gi s t ge inner) ρ=some (.list ((xs.filter p).map f)):=by
 have q:=uH item p f I d h;unfold fQ fW;rw [c,Qe,q,Qe,if_pos (by rw [Qi];exact QL (Q5 _ _) b)];rfl
theorem lN{gi:aA->Option (List D)}{s:D->aA->Option aA}{t:aA->Option Bool}{ge:aA->Option D}{inner:List (Option Nat)}{ρ:aA}{xs:List α}{out:List D}(item:α->D)(p:α->Bool)(f:α->D)(I:aA->Prop)(d:gi ρ=some (xs.map item))(c:xs.length<=1000)(e:I (lK inner ρ))
  (h:∀ a∈xs,∀ ρ,I ρ->∃ ρ',s (item a) ρ=some ρ'/\I ρ'/\t ρ'=some (p a)/\(p a=true->ge ρ'=some (f a))) (b:(xs.filter p).map f=out):fQ (fW gi s t ge inner) ρ=some (.list out):=by
 rw [<- b];exact HJ item p f I d c e h
theorem uT(l:List α):l.filter (fun _=>true)=l:=by induction l with
 | nil=>rfl
 | cons a l b=>simp [b]
theorem uU{s:D->aA->Option aA}{g:aA->Option aW}(item:α->D)(env:β->aA)(step:β->α->β)(P:Nat->β->Prop)(n:Nat):∀(xs:List α) (i:Nat) (b:β),i+xs.length<=n->P i b->
  (∀ a∈xs,∀ i b,i<n->P i b->(∃ ρ1,s (item a) (env b)=some ρ1/\g ρ1=some (.nx (env (step b a))))/\P (i+1) (step b a))->jG s g (xs.map item) (env b)=some (.nx (env (xs.foldl step b)))
 | [],_,b,_,_,_=>rfl
 | x::xs,i,b,hi,hp,h=>by
  rw [Qt]at hi;obtain⟨⟨ρ1,f,e⟩,c⟩:=h x Qo i b (by lia) hp;rw [Qm];unfold jG;rw [f,Qe,e,Qe];exact uU item env step P n xs (i+1) _ (by lia) c fun a d=>h a (Qf _ d)
theorem Cs{s:D->aA->Option aA}{g:aA->Option aW}(item:α->D)(I:aA->Prop)(p:α->Bool)(d:D):∀(xs:List α) (ρ:aA),I ρ->
  (∀ a∈xs,∀ ρ,I ρ->∃ ρ1,s (item a) ρ=some ρ1/\if p a=true then g ρ1=some (.rt d)else ∃ ρ2,g ρ1=some (.nx ρ2)/\I ρ2)->
  if xs.any p=true then jG s g (xs.map item) ρ=some (.rt d)else ∃ ρ',jG s g (xs.map item) ρ=some (.nx ρ')/\I ρ'
 | [],ρ,h0,_=>by rw [if_neg (by simp)];exact⟨ρ,rfl,h0⟩
 | x::xs,ρ,h0,h=>by
  obtain⟨ρ1,f,b⟩:=h x Qo ρ h0;rw [Qm,JT];unfold jG;rw [f,Qe]
  cases q:p x with
  | true=>
   rw [q,if_pos rfl]at b;rw [Bool.true_or,if_pos rfl,b];rfl
  | false=>
   rw [q,if_neg Qq]at b;obtain⟨ρ2,b,c⟩:=b;rw [Bool.false_or,b,Qe];exact Cs item I p d xs ρ2 c fun a e=>h a (Qf _ e)
end
theorem Ix(h:Nat)(a:h<1000):pY [.int h]=some ((List.range h).map fun(k:Nat)=>.int (k:Int)):=by
 show(if -4611686018427387904<=(h:Int)/\(h:Int)<4611686018427387904 then some ((List.range (h:Int).toNat).map fun(k:Nat)=>J9 (0+(k:Int)))else none)=_
 rw [if_pos ⟨by lia,by lia⟩,Y4];congr 2
 funext k
 rw [Int.zero_add]
section
variable {g g1 g2:aA->Option aW}{t u:aA->Option Bool}{ga gb gc:aA->Option D}{gr:aA->Option (List D)}{ρ:aA}{d:D}
theorem wL(b:Bool):iW (.bool b)=some b:=id rfl
end
section
variable {α β:Type}(a:α)(l m:List α)(n:Nat)(f:α->β)
end
def uZ{c:Type}(a:c->Bool)(step:c->c):Nat->c->Option c
 | 0,_=>none
 | n+1,b=>if a b=true then uZ a step n (step b)else some b
theorem KI{d:Type}{t:aA->Option Bool}{g:aA->Option aW}(env:d->aA)(a:d->Bool)(step:d->d)(P:Nat->d->Prop)(e:∀ n b,P n b->t ((env b).map frz)=some (a b))
  (f:∀ n b,P (n+1) b->a b=true->g (env b)=some (.nx (env (step b)))/\P n (step b)):∀ n b b',P n b->uZ a step n b=some b'->n0 t g n (env b)=some (.nx (env b'))
 | 0,_,_,_,h=>by cases h
 | n+1,b,b',p,h=>by
  unfold uZ at h;unfold n0;rw [e _ b p,Qe];by_cases c:a b=true
  ·rw [if_pos c]at h ⊢;obtain⟨j,i⟩:=f n b p c;rw [j,Qe];exact KI env a step P e f n _ b' i h
  ·rw [if_neg c]at h ⊢;cases h;rfl
theorem bV{b a:aA->Option aW}{ρ ρ':aA}{r:Option aW}(h:b ρ=some (.nx ρ'))(c:a ρ'=r):bO b a ρ=r:=by
 unfold bO;rw [h];exact c
theorem tW{a b:aA->Option aW}{ρ:aA}{d:D}(h:a ρ=some (.rt d)):bO a b ρ=some (.rt d):=by
 unfold bO;rw [h];rfl
theorem dW{n:Nat}{g:aA->Option aW}{ds:List D}{d:D}(h:g (c7 n ds)=some (.rt d)):cX n g ds=some d:=by
 unfold cX;rw [h]
theorem qX{gi:aA->Option (List D)}{s:D->aA->Option aA}{g:aA->Option aW}{ρ:aA}{xs:List D}{r:Option aW}(b:gi ρ=some xs)(a:jG s g xs ρ=r):lD gi s g ρ=r:=by
 unfold lD;rw [b];exact a
theorem nX{t:aA->Option Bool}{c a:aA->Option aW}{ρ:aA}{b:Bool}{r:Option aW}(h:t (ρ.map frz)=some b)(e:b=true->c ρ=r)(d:b=false->a ρ=r):fR t c a ρ=r:=by
 unfold fR;rw [h]
 cases b with
 | true=>exact e rfl
 | false=>exact d rfl
theorem dX{ga:aA->Option D}{ρ:aA}{d:D}(h:ga (ρ.map frz)=some d):cQ ga ρ=some (.rt d):=by
 unfold cQ;rw [h];rfl
theorem dY{i:Nat}{ga:aA->Option D}{ρ:aA}{d:D}(h:ga ρ=some d):c5 i ga ρ=some (.nx (ρ.set i (.dat d))):=by
 unfold c5;rw [h];rfl
theorem bF{G:List D->Option D}{gr:aA->Option (List D)}{ρ:aA}{ds:List D}{r:Option D}(h:gr ρ=some ds)(a:G ds=r):aV G gr ρ=r:=by
 unfold aV;rw [h];exact a
theorem HR{gr:aA->Option (List D)}{s:D->aA->Option aA}{g:aA->Option aW}{ρ:aA}{n:Nat}{r:Option aW}(d:gr ρ=some [.int (n:Nat)])(b:n<1000)(c:jG s g ((List.range n).map fun(k:Nat)=>.int (k:Int)) ρ=r):lD (j8 gr) s g ρ=r:=by
 show((gr ρ).bind pY).bind (fun a=>jG s g a ρ)=r
 rw [d,Qe,Ix n b,Qe];exact c
theorem BW{gr:aA->Option (List D)}{ρ:aA}{n:Nat}(b:gr ρ=some [.int (n:Nat)])(a:n<1000):j8 gr ρ=some ((List.range n).map fun(k:Nat)=>.int (k:Int)):=by
 show(gr ρ).bind pY=_
 rw [b,Qe,Ix n a]
theorem oo{f:D->D->Option D}{ga gb:aA->Option D}{ρ:aA}{x y:D}{r:Option D}(c:ga ρ=some x)(b:gb ρ=some y)(a:f x y=r):aF f ga gb ρ=r:=by
 unfold aF;rw [c,Qe,b];exact a
theorem oB{ga:aA->Option D}{ρ:aA}{b:Bool}(h:ga ρ=some (.bool b)):eB ga ρ=some b:=by
 unfold eB;rw [h];rfl
theorem HQ{i:Nat}{ga:aA->Option D}{ρ:aA}{ds:List D}{d:D}(c:ρ[i]?=some (.own ds))(b:ga ρ=some d)(a:ds.length<1000):p3 i ga ρ=some (.nx (ρ.set i (.own (ds++[d])))):=by
 unfold p3;rw [c]
 show(ga ρ).bind _=_
 rw [b,Qe,if_pos a]
theorem C9{ga:aA->Option D}{ρ:aA}{d:D}(h:ga ρ=some d):qY ga ρ=some (.nx ρ):=by
 unfold qY;rw [h];rfl
theorem cF{ga:aA->Option D}{gr:aA->Option (List D)}{ρ:aA}{d:D}{ds:List D}(h:ga ρ=some d)(a:gr ρ=some ds):aD ga gr ρ=some (d::ds):=by
 unfold aD;rw [h,Qe,a];rfl
theorem i5{t:aA->Option Bool}{a:aA->Option aW}{ρ:aA}(h:t (ρ.map frz)=some false):fR t a hX ρ=some (.nx ρ):=by
 unfold fR;rw [h];rfl
theorem oN{t:aA->Option Bool}{ρ:aA}{b:Bool}(h:t ρ=some b):lV t ρ=some (!b):=by
 unfold lV;rw [h];rfl
theorem Ej{t u:aA->Option Bool}{ρ:aA}{r:Option Bool}(h:t ρ=some true)(a:u ρ=r):lU t u ρ=r:=by
 unfold lU;rw [h];exact a
theorem Ei{t u:aA->Option Bool}{ρ:aA}(h:t ρ=some false):lU t u ρ=some false:=by
 unfold lU;rw [h];rfl
theorem FQ{n:Nat}{g:aA->Option aW}{ds:List D}{ρ:aA}(h:g (c7 n ds)=some (.nx ρ)):cX n g ds=some .none:=by
 unfold cX;rw [h]
theorem Ek{ga gb:aA->Option D}{ρ:aA}{r:Option D}(h:ga ρ=some (.bool true))(a:gb ρ=r):mN ga gb ρ=r:=by
 unfold mN;rw [h];exact a
theorem Em{ga gb:aA->Option D}{ρ:aA}{x y:D}(b:ga ρ=some x)(a:gb ρ=some y):cO (aD ga (aD gb aH)) ρ=some (.tuple [x,y]):=by
 unfold cO;rw [cF b (cF a rfl)];rfl
theorem MI{ga:aA->Option D}{ρ:aA}{x:D}(a:ga ρ=some x):cO (aD ga aH) ρ=some (.tuple [x]):=by
 unfold cO;rw [cF a rfl];rfl
theorem vN{ga gb a:aA->Option D}{ρ:aA}{x y z:D}(d:ga ρ=some x)(c:gb ρ=some y)(b:a ρ=some z):cO (aD ga (aD gb (aD a aH))) ρ=some (.tuple [x,y,z]):=by
 unfold cO;rw [cF d (cF c (cF b rfl))];rfl
theorem El{t u:aA->Option Bool}{ρ:aA}{r:Option Bool}(h:t ρ=some false)(a:u ρ=r):m8 t u ρ=r:=by
 unfold m8;rw [h];exact a
theorem MG{ga gb:aA->Option D}{ρ:aA}(h:ga ρ=some (.bool false)):mN ga gb ρ=some (.bool false):=by
 unfold mN;rw [h];rfl
theorem kA{ga:aA->Option D}{ρ:aA}{d:D}{l:List D}(b:ga ρ=some d)(a:sW d=some l):eW ga ρ=some l:=by
 show(ga ρ).bind sW=_
 rw [b,Qe,a]
end My
namespace My
open PySem PySem.SeqAt L2 DL SD SL EL DC
abbrev fF:=List Int
def oG(p:fF):List fF->List fF
 | []=>[p]
 | q::r=>if HT.lexLt q p=true then q::oG p r else p::q::r
def i6:List fF->List fF
 | []=>[]
 | p::r=>oG p (i6 r)
def fK(k:fF):KD:=(k,fS k)
theorem Ht(p:fF):∀ l:List fF,k8 (fK p) (l.map fK)=(oG p l).map fK
 | []=>rfl
 | q::r=>by
  show(if HT.lexLt q p=true then fK q::k8 (fK p) (r.map fK)else fK p::fK q::r.map fK)=(if HT.lexLt q p=true then q::oG p r else p::q::r).map fK
  split
  ·rw [Ht p r];rfl
  ·rfl
theorem Dg:∀ l:List fF,fU (l.map fK)=(i6 l).map fK
 | []=>rfl
 | p::r=>by
  show k8 (fK p) (fU (r.map fK))=(oG p (i6 r)).map fK
  rw [Dg r,Ht]
theorem Hu(p:fF):∀ l:List fF,(oG p l).Perm (p::l)
 | []=>.refl _
 | q::r=>by
  unfold oG;split
  ·exact((Hu p r).cons q).trans (.swap _ _ _)
  ·exact .refl _
theorem Dh:∀ l:List fF,(i6 l).Perm l
 | []=>.refl _
 | p::r=>(Hu p (i6 r)).trans ((Dh r).cons p)
theorem V0(l:List fF):(i6 l).Pairwise fun a b=>HT.lexLt b a=false:=by
 have:=t6 (l.map fK)
 rw [Dg,Yl]at this;exact this
theorem Gr:∀ l:List fF,l.Nodup->dd l=l
 | [],_=>rfl
 | k::r,h=>by
  obtain⟨b,a⟩:=Ye.mp h;unfold dd;rw [if_neg b,Gr r a]
theorem G1:∀{k m:fF},k.length=m.length->iJ (k.map J9) (m.map J9)=true
 | [],[],_=>rfl
 | x::k,y::m,h=>by
  show(jM (.int x) (.int y) && iJ (k.map J9) (m.map J9))=true
  rw [G1 (by simpa using h)];rfl
 | [],_::_,h=>by cases h
 | _::_,[],h=>by cases h
theorem FN:∀ k:fF,jK (k.map J9)=some k
 | []=>rfl
 | x::k=>by
  have:=FN k
  show(some [x]).bind (fun a=>(jK (k.map J9)).bind fun b=>some (a++b))=_
  rw [this];rfl
theorem HP{d0:fF}(b:d0≠[]):∀{l:List fF},(∀ k∈l,k.length=d0.length)->fT (d0.map J9) (l.map fS)=some (l.map fK)
 | [],_=>rfl
 | k::l,h=>by
  have a:=h k Qo
  have c:lZ (d0.map J9) (fS k)=some k:=by
   cases k with
   | nil=>exact absurd (Jz a.symm) b
   | cons x k=>
    show(if iJ (d0.map J9) ((x::k).map J9)=true then jK ((x::k).map J9)else none)=_
    rw [if_pos (G1 a.symm),FN]
  show(lZ (d0.map J9) (fS k)).bind _=_
  rw [c,Qe,HP b fun k a=>h k (Qf _ a)];rfl
theorem t7{l:List fF}(h:∀ k∈l,k.length=2)(d:l.length<=63):iF [.list (l.map fS)]=some (.list ((i6 l).map fS)):=by
 cases l with
 | nil=>rfl
 | cons a b=>
  have c:a.length=2:=h a Qo;have f:=HP (d0:=a) (fun q=>by rw [q]at c;cases c) (l:=a::b) fun k e=>(h k e).trans c.symm
  show(if(b.map fS).length<1000 then(fT (a.map J9) ((a::b).map fS)).bind fun l=>some (Uj ((fU l).map (·.2)))else none)=_
  rw [if_pos (by rw [Qi];simp only [Qt]at d;lia),f]
  show some (Uj ((fU ((a::b).map fK)).map (·.2)))=_
  rw [Dg,Yo];rfl
def row(c:C):fF:=[c.1,c.2]
def fM(a b:C):Bool:=HT.lexLt (row a) (row b)
theorem jO(a b:C):fM a b=true ↔ a.1<b.1 ∨ (a.1=b.1/\a.2<b.2):=by
 unfold fM row;rw [HT.lexLt_cons];by_cases h:a.1=b.1
 ·rw [if_pos h,HT.lexLt_cons];by_cases c:a.2=b.2
  ·rw [if_pos c];simp [HT.lexLt];lia
  ·rw [if_neg c];simp;lia
 ·rw [if_neg h];simp;lia
def Up(l:List C):Prop:=l.Pairwise fun a b=>fM a b=true
theorem Kx:∀{l m:List C},Up l->Up m->(∀ c,c∈l ↔ c∈m)->l=m
 | [],[],_,_,_=>rfl
 | [],b::m,_,_,h=>nomatch (h b).mpr Qo
 | a::l,[],_,_,h=>nomatch (h a).mp Qo
 | a::l,b::m,h1,h2,h=>by
  obtain⟨a1,g⟩:=Q6.mp h1;obtain⟨b1,f⟩:=Q6.mp h2
  have d:∀ c:C,fM c c=true->False:=fun c q=>by rw [jO]at q;lia
  have e:a=b:=by
   rcases Qp.mp ((h a).mp Qo)with q | q
   ·exact q
   ·rcases Qp.mp ((h b).mpr Qo)with r | r
    ·exact r.symm
    ·have x:=b1 a q;have y:=a1 b r;rw [jO]at x y;lia
  subst e;congr 1;refine Kx g f fun c=>⟨fun q=>?_,fun q=>?_⟩
  ·rcases Qp.mp ((h c).mp (Qf _ q))with r | r
   ·subst r;exact(d _ (a1 _ q)).elim
   ·exact r
  ·rcases Qp.mp ((h c).mpr (Qf _ q))with r | r
   ·subst r;exact(d _ (b1 _ q)).elim
   ·exact r
theorem rC{l:List C}(h:Up l):l.Nodup:=h.imp fun{a b} q e=>by subst e;rw [jO]at q;lia
theorem VZ{l:List C}(k:l.Nodup):∃ m:List C,i6 (l.map row)=m.map row/\Up m/\∀ c,c∈m ↔ c∈l:=by
 obtain⟨m,o⟩:∃ m:List C,m=(i6 (l.map row)).map fun r=>(r.getD 0 0,r.getD 1 0):=⟨_,rfl⟩;have f:∀ r,r∈i6 (l.map row) ↔ r∈l.map row:=fun r=>(Dh _).mem_iff
 have e:i6 (l.map row)=m.map row:=by
  rw [o,Yo]
  conv=>lhs;rw [<- List.map_id (i6 (l.map row))]
  refine List.map_congr_left fun r j=>?_;obtain⟨c,_,rfl⟩:=QO.mp ((f r).mp j);rfl
 have inj:∀ a b:C,row a=row b->a=b:=fun a b q=>by
  unfold row at q
  injection q with q1 q2
  injection q2 with q2 _
  exact Jk q1 q2
 have i:∀ c,c∈m ↔ c∈l:=fun c=>by
  constructor
  ·intro h
   have:row c∈l.map row:=(f _).mp (by rw [e];exact List.mem_map_of_mem h)
   obtain⟨d,g,q⟩:=QO.mp this;rw [<- inj _ _ q];exact g
  ·intro h
   have:row c∈m.map row:=by rw [<- e];exact(f _).mpr (List.mem_map_of_mem h)
   obtain⟨d,g,q⟩:=QO.mp this;rw [<- inj _ _ q];exact g
 refine⟨m,e,?_,i⟩
 have s:=V0 (l.map row)
 have n:(i6 (l.map row)).Nodup:=(Dh _).nodup_iff.mpr (by
  rw [List.Nodup,Yl]
  exact k.imp fun{a b} q r=>q (inj _ _ r))
 rw [e]at s n;rw [Yl]at s;rw [List.Nodup,Yl]at n
 refine(s.and n).imp fun{a b} h=>?_
 cases q:fM a b with
 | true=>rfl
 | false=>exact absurd (u0 _ _ q h.1) h.2
theorem y8(l:List C):(l.map row).map fS=l.map aB:=by rw [Yo];rfl
theorem zI{l m:List C}(a:l.Nodup)(d:l.length<=63)(b:Up m)(h:∀ c,c∈m ↔ c∈l):iF [.list (l.map aB)]=some (.list (m.map aB)):=by
 rw [<- y8 l,t7 (fun k e=>by obtain⟨c,_,rfl⟩:=QO.mp e;rfl) (by rw [Qi];exact d)];obtain⟨j,i,g,f⟩:=VZ a;rw [i,y8,Kx g b fun c=>(f c).trans (h c).symm]
def cells(w h:Nat):List C:=(List.range w).flatMap fun(x:Nat)=>(List.range h).map fun(y:Nat)=>((x:Int),(y:Int))
def bG(w h:Nat)(c:C):Bool:=decide (0<=c.1) && decide (c.1<w) && decide (0<=c.2) && decide (c.2<h)
theorem j9{w h:Nat}{c:C}:bG w h c=true ↔ 0<=c.1/\c.1<w/\0<=c.2/\c.2<h:=by
 unfold bG;simp only [QH,decide_eq_true_eq];constructor
 ·intro q;exact⟨q.1.1.1,q.1.1.2,q.1.2,q.2⟩
 ·intro q;exact⟨⟨⟨q.1,q.2.1⟩,q.2.2.1⟩,q.2.2.2⟩
theorem iK{w h:Nat}{c:C}:c∈cells w h ↔ bG w h c=true:=by
 unfold cells;rw [List.mem_flatMap,j9];constructor
 ·rintro⟨x,g,i⟩
  obtain⟨y,f,rfl⟩:=QO.mp i
  exact⟨Int.natCast_nonneg _,Int.ofNat_lt.mpr (Q3.mp g),Int.natCast_nonneg _,Int.ofNat_lt.mpr (Q3.mp f)⟩
 ·rintro⟨b,e,a,d⟩
  exact⟨c.1.toNat,Q3.mpr ((Int.toNat_lt b).mpr e),QO.mpr ⟨c.2.toNat,Q3.mpr ((Int.toNat_lt a).mpr d),Jk (Int.toNat_of_nonneg b) (Int.toNat_of_nonneg a)⟩⟩
theorem WW(h:Nat)(x:Nat):Up ((List.range h).map fun(y:Nat)=>((x:Int),(y:Int))):=by
 unfold Up;rw [Yl];refine List.pairwise_lt_range.imp fun{a b} q=>?_;rw [jO];dsimp only;lia
theorem i7(w h:Nat):Up (cells w h):=by
 unfold Up cells;rw [List.pairwise_flatMap]
 refine⟨fun x _=>WW h x,List.pairwise_lt_range.imp fun{a b} q c hc d hd=>?_⟩
 obtain⟨y,_,rfl⟩:=QO.mp hc;obtain⟨z,_,rfl⟩:=QO.mp hd;rw [jO];dsimp only;lia
theorem mE{l:List C}(h:Up l)(p:C->Bool):Up (l.filter p):=List.Pairwise.filter p h
theorem Ln(h:Nat):∀ l:List Nat,(l.map fun _=>h).sum=l.length * h
 | []=>by simp
 | _::l=>by rw [Qm,List.sum_cons,Ln h l,Qt,Nat.succ_mul,Nat.add_comm]
theorem oX(w h:Nat):(cells w h).length=w * h:=by
 unfold cells;rw [List.length_flatMap];simp only [Qi,Ym];rw [Ln,Ym]
end My
namespace My
open PySem PySem.SeqAt L2 DL SD SL EL DC
def yR(b a:Int):Nat->Int->Int->Option (List C)
 | 0,_,_=>none
 | n+1,gx,gy=>if gx<b ∨ gy<a then
   (yR b a n (if(2 * gx+1) * a<=(2 * gy+1) * b then gx+1 else gx) (if(2 * gy+1) * b<=(2 * gx+1) * a then gy+1 else gy)).bind fun r=>
    some ((if(2 * gx+1) * a<=(2 * gy+1) * b then gx+1 else gx,if(2 * gy+1) * b<=(2 * gx+1) * a then gy+1 else gy)::r)
  else some []
def eP(i:Int):Int:=if i<0 then -i else i
def eZ(a:Int):Int:=if 0<a then 1 else -1
def AD(a b:Int):Option (List C):=(yR (eP a) (eP b) 900 0 0).bind fun c=>some ((0,0)::c.map fun g=>(eZ a * g.1,eZ b * g.2))
def eY(a b:Int):List C:=(AD a b).getD []
def sub(d:C)(g:C):C:=(g.1-d.1,g.2-d.2)
def mZ(d:C)(g:C):C:=(d.1+g.1,d.2+g.2)
def oF:List C->List C->Bool
 | [],[]=>true
 | a::l,b::m=>a.1 == b.1 && a.2 == b.2 && oF l m
 | _,_=>false
theorem uR:∀{l m:List C},oF l m=true->l=m
 | [],[],_=>rfl
 | a::l,b::m,h=>by
  unfold oF at h;simp only [QH,beq_iff_eq]at h;rw [uR h.2,Jk h.1.1 h.1.2]
 | [],_::_,h=>by cases h
 | _::_,[],h=>by cases h
def D5(a b:Int):Bool:=match AD a b with
 | some ((0,0)::st)=>decide (st.length<=8) && oF (eY (-a) (-b)) ((((0,0)::st).reverse).map (sub (a,b))) && oF (eY (-a) b) (((0,0)::st).map fun g=>(-g.1,g.2)) && oF (eY b a) (((0,0)::st).map fun g=>(g.2,g.1))
   && oF ((((0,0)::st).dropLast++[(a,b)])) ((0,0)::st) && ((0,0)::st).all (fun g=>decide (0<=eZ a * g.1) && decide (eZ a * g.1<=eP a) && decide (0<=eZ b * g.2) && decide (eZ b * g.2<=eP b))
 | _=>false
def pZ:List Int:=[-4,-3,-2,-1,0,1,2,3,4]
theorem OP:(pZ.all fun a=>pZ.all fun b=>D5 a b)=true:=by decide +kernel
theorem xI{a:Int}(h:-4<=a)(h':a<=4):a∈pZ:=by
 have k:∀ n:Fin 9,((n.val:Int)-4)∈pZ:=by decide
 have e:(((a+4).toNat:Nat):Int)-4=a:=by lia
 have:=k ⟨(a+4).toNat,by lia⟩
 rw [e]at this;exact this
structure EU(a b:Int):Prop where
 some:AD a b=some (eY a b)
 len:(eY a b).length<=9
 first:∃ st,eY a b=(0,0)::st
 back:eY (-a) (-b)=(eY a b).reverse.map (sub (a,b))
 mir:eY (-a) b=(eY a b).map fun g=>(-g.1,g.2)
 flip:eY b a=(eY a b).map fun g=>(g.2,g.1)
 last:(eY a b).dropLast++[(a,b)]=eY a b
 box:∀ g∈eY a b,0<=eZ a * g.1/\eZ a * g.1<=eP a/\0<=eZ b * g.2/\eZ b * g.2<=eP b
theorem S8{a b:Int}(j:-4<=a)(f:a<=4)(i:-4<=b)(d:b<=4):EU a b:=by
 have c:=Q8.mp (Q8.mp OP a (xI j f)) b (xI i d);unfold D5 at c
 split at c
 ·rename_i st e
  have r:eY a b=(0,0)::st:=by unfold eY;rw [e];rfl
  simp only [QH,decide_eq_true_eq]at c;obtain⟨⟨⟨⟨⟨p,o⟩,n⟩,m⟩,l⟩,k⟩:=c
  refine⟨by rw [e,r],by rw [r,Qt];lia,⟨st,r⟩,by rw [r];exact uR o,by rw [r];exact uR n,by rw [r];exact uR m,by rw [r];exact uR l,fun g h=>?_⟩
  rw [r]at h
  have:=Q8.mp k g h
  simp only [QH,decide_eq_true_eq]at this
  exact⟨this.1.1.1,this.1.1.2,this.1.2,this.2⟩
 ·cases c
def dH(g h:C):Bool := !(g.1 == h.1) && !(g.2 == h.2)
def fB(S:C->Bool):List C->Bool
 | g::h::r=>(!dH g h || !(S (g.1,h.2) && S (h.1,g.2))) && fB S (h::r)
 | _=>true
theorem kE(S:C->Bool)(g h:C)(r:List C):fB S (g::h::r)=((!dH g h || !(S (g.1,h.2) && S (h.1,g.2))) && fB S (h::r)):=rfl
theorem IY(S:C->Bool):∀(l:List C) (g h:C),fB S (l++[g,h])=(fB S (l++[g]) && fB S [g,h])
 | [],g,h=>by simp [fB]
 | [a],g,h=>by simp [fB]
 | a::b::l,g,h=>by
  have c:=IY S (b::l) g h;rw [YY,YY]at c;rw [YY,YY,YY,YY,kE,kE,c,Bool.and_assoc]
theorem ON(g h:C):dH g h=dH h g:=by
 unfold dH;rw [Yu];simp only [QH,Yr,beq_eq_false_iff_ne,ne_eq]
 constructor <;> (rintro⟨a,b⟩;exact⟨fun q=>a q.symm,fun q=>b q.symm⟩)
theorem Ka(S:C->Bool):∀ l:List C,fB S l.reverse=fB S l
 | []=>rfl
 | [a]=>rfl
 | a::b::l=>by
  have c:=Ka S (b::l);rw [List.reverse_cons]at c;rw [List.reverse_cons,List.reverse_cons,QG,List.singleton_append,IY,c,kE,Jo];congr 1
  show((!dH b a || !(S (b.1,a.2) && S (a.1,b.2))) && true)=_
  rw [Jp,ON b a,Jo (S (b.1,a.2))]
theorem I0(S:C->Bool)(d c:Int->Int)(h:∀ x y,d x=d y->x=y)(f:∀ x y,c x=c y->x=y):∀ l:List C,fB S (l.map fun g=>(d g.1,c g.2))=fB (fun g=>S (d g.1,c g.2)) l
 | []=>rfl
 | [a]=>rfl
 | a::b::l=>by
  have e:=I0 S d c h f (b::l);rw [Qm]at e;rw [Qm,Qm,kE,kE,e];congr 3;unfold dH;dsimp only;rw [Yu];simp only [QH,Yr,beq_eq_false_iff_ne,ne_eq];constructor
  ·rintro⟨x,y⟩;exact⟨fun q=>x (by rw [q]),fun q=>y (by rw [q])⟩
  ·rintro⟨x,y⟩;exact⟨fun q=>x (h _ _ q),fun q=>y (f _ _ q)⟩
theorem HZ(S:C->Bool):∀ l:List C,fB S (l.map fun g=>(g.2,g.1))=fB (fun g=>S (g.2,g.1)) l
 | []=>rfl
 | [a]=>rfl
 | a::b::l=>by
  have c:=HZ S (b::l);rw [Qm]at c;rw [Qm,Qm,kE,kE,c];congr 2
  ·unfold dH;dsimp only;rw [Jo]
  ·dsimp only;rw [Jo]
def line(a b:C):List C:=(eY (b.1-a.1) (b.2-a.2)).map (mZ a)
def clear(S:C->Bool)(a b:C):Bool:=(line a b).dropLast.all (fun c => !S c) && fB S (line a b)
def bD(S:C->Bool)(a b:C):Bool := !S b && clear S a b
structure eN(a b:C):Prop where
 x0:-4<=b.1-a.1
 x1:b.1-a.1<=4
 y0:-4<=b.2-a.2
 y1:b.2-a.2<=4
theorem eN.ok{a b:C}(n:eN a b):EU (b.1-a.1) (b.2-a.2):=S8 n.x0 n.x1 n.y0 n.y1
theorem eN.symm{a b:C}(n:eN a b):eN b a:=by
 obtain⟨f,e,d,c⟩:=n
 exact⟨by lia,by lia,by lia,by lia⟩
theorem G2{a b:C}(n:eN a b):(line a b).dropLast++[b]=line a b:=by
 have:=n.ok.last
 unfold line
 conv=>rhs;rw [<- this,Yi]
 rw [List.map_dropLast.symm];congr 1
 show [b]=[(a.1+(b.1-a.1),a.2+(b.2-a.2))]
 congr 1;exact Jk (by dsimp only;lia) (by dsimp only;lia)
theorem nY{S:C->Bool}{a b:C}(n:eN a b):bD S a b=((line a b).all (fun c => !S c) && fB S (line a b)):=by
 unfold bD clear
 conv=>rhs;rw [<- G2 n,List.all_append,G2 n]
 simp only [List.all_cons,List.all_nil,Jp];rw [<- Bool.and_assoc,Jo (!S b)]
theorem S9{a b:C}(n:eN a b):line b a=(line a b).reverse:=by
 unfold line
 have d:a.1-b.1=-(b.1-a.1):=by lia
 have c:a.2-b.2=-(b.2-a.2):=by lia
 rw [d,c,n.ok.back,Yo,List.map_reverse];congr 1;refine List.map_congr_left fun g _=>?_;exact Jk (by show b.1+(g.1-(b.1-a.1))=a.1+g.1;lia) (by show b.2+(g.2-(b.2-a.2))=a.2+g.2;lia)
theorem KT{S:C->Bool}{a b:C}(n:eN a b):bD S a b=bD S b a:=by
 rw [nY n,nY n.symm,S9 n,Ka,List.all_reverse]
theorem VJ{S:C->Bool}{a b:C}(n:eN a b)(h:S a=true):bD S a b=false:=by
 rw [KT n];unfold bD;rw [h];rfl
def mir(m:Int)(c:C):C:=(m-c.1,c.2)
def swp(c:C):C:=(c.2,c.1)
theorem S4{a b:C}(n:eN a b)(m:Int):line (mir m a) (mir m b)=(line a b).map (mir m):=by
 unfold line
 have d:(mir m b).1-(mir m a).1=-(b.1-a.1):=by show m-b.1-(m-a.1)=_;lia
 have c:(mir m b).2-(mir m a).2=b.2-a.2:=rfl;rw [d,c,n.ok.mir,Yo,Yo];refine List.map_congr_left fun g _=>?_;exact Jk (by show m-a.1 + -g.1=m-(a.1+g.1);lia) rfl
theorem Tc{a b:C}(n:eN a b):line (swp a) (swp b)=(line a b).map swp:=by
 unfold line
 show(eY (b.2-a.2) (b.1-a.1)).map _=_
 rw [n.ok.flip,Yo,Yo];rfl
theorem WA{S:C->Bool}{a b:C}(n:eN a b)(m:Int)(d:eN (mir m a) (mir m b)):bD S (mir m a) (mir m b)=bD (fun c=>S (mir m c)) a b:=by
 rw [nY d,nY n,S4 n,List.all_map];congr 1;exact I0 S (fun x=>m-x) id (fun x y (q:m-x=m-y)=>by lia) (fun x y q=>q) _
theorem WB{S:C->Bool}{a b:C}(n:eN a b)(d:eN (swp a) (swp b)):bD S (swp a) (swp b)=bD (fun c=>S (swp c)) a b:=by
 rw [nY d,nY n,Tc n,List.all_map];congr 1;exact HZ S _
theorem IZ{S T:C->Bool}(h:∀ c,T c=true->S c=true):∀ l:List C,fB S l=true->fB T l=true
 | [],_=>rfl
 | [a],_=>rfl
 | a::b::l,q=>by
  rw [kE,QH]at q ⊢
  refine⟨?_,IZ h (b::l) q.2⟩
  have d:=q.1;rw [JV]at d ⊢;rcases d with d | d
  ·exact .inl d
  ·right
   rw [Yr,Bool.and_eq_false_iff]at d ⊢;rcases d with d | d
   ·left
    cases e:T (a.1,b.2)with
    | false=>rfl
    | true=>rw [h _ e]at d;cases d
   ·right
    cases e:T (b.1,a.2)with
    | false=>rfl
    | true=>rw [h _ e]at d;cases d
theorem OU{S T:C->Bool}{a b:C}(h:∀ c,T c=true->S c=true)(q:clear S a b=true):clear T a b=true:=by
 unfold clear at q ⊢;rw [QH]at q ⊢
 refine⟨?_,IZ h _ q.2⟩
 rw [Q8]at q ⊢;intro c d
 have:=q.1 c d
 rw [Yr]at this ⊢
 cases e:T c with
 | false=>rfl
 | true=>rw [h _ e]at this;cases this
end My
namespace My
open PySem PySem.SeqAt L2 DL SD SL EL DC
def cV(ns:List Int):D:=.list (ns.map J9)
theorem yL:∀ ns:List Int,Zt (ns.map J9)=true/\Zx (ns.map J9)=0
 | []=>⟨rfl,rfl⟩
 | _::r=>⟨by simp [Zt,Ur,(yL r).1],by simp [Zx,PyData.depth,(yL r).2]⟩
theorem VQ(ns:List Int):ZC (cV ns)=true:=by
 simp [ZC,cV,Ur,PyData.depth,(yL ns).1,(yL ns).2]
theorem Pg{ns:List Int}{i:Int}(b:0<=i)(a:i<ns.length):∃ r,aQ (cV ns) (.int i)=some (.int r):=by
 show ∃ r,L2.atI (ns.map J9) i=some (.int r)
 unfold L2.atI L2.ixN;rw [Qi,if_pos b,if_pos a]
 have:i.toNat<ns.length:=by lia
 exact⟨ns[i.toNat],by simp [this]⟩
theorem PF(ns:List Int)(l:ns.length<=63)(k:Int):∃ r,tG [cV ns,.int k]=some (.int r):=by
 cases ns with
 | nil=>
  have e:eA (cV []) (.list [])=some (.bool true):=rfl;have m:cK (.int 7) (.int k)=some (.int (7 * k)):=i4 (j3 (by decide) (by decide))
  exact⟨7 * k,dW (tW (nX (b:=true) rfl (fun _=>dX (oo rfl rfl m)) fun z=>by cases z))⟩
 | cons n ns=>
  have c:(0:Int)<((n::ns).length:Int):=by rw [Qt];lia
  have e:eA (cV (n::ns)) (.list [])=some (.bool false):=by
   unfold eA;rw [VQ];rfl
  have d:eU [cV (n::ns)]=some (.int ((n::ns).length:Int)):=by
   show some (J9 (((n::ns).map J9).length:Int))=_
   rw [Qi]
  obtain⟨r,j⟩:=Pg (ns:=n::ns) (i:=k % ((n::ns).length:Int)) (Int.emod_nonneg _ (by lia)) (JC _ c)
  have a:((n::ns).length:Int)<1073741824:=by lia
  generalize ((n::ns).length:Int)=L at *;generalize cV (n::ns)=S at *;have h:=qL (i:=k) c;have g:=FJ (i:=k) (En c a);have f:cK (.int 6553) (.int (k / L))=some (.int (6553 * (k / L))):=i4 (j3 (by decide) (by decide))
  exact⟨r+6553 * (k / L),dW (bV (i5 (oB (oo rfl rfl e))) (dX (oo (oo rfl (oo rfl (bF rfl d) h) j) (oo rfl (oo rfl (bF rfl d) g) f) rfl)))⟩
def dr(ns:List Int)(k m:Int):Int:=match e8 [cV ns,.int k,.int m]with
 | some (.int r)=>r
 | _=>0
theorem mM(ns:List Int)(s:ns.length<=63)(k m:Int)(e:0<m):e8 [cV ns,.int k,.int m]=some (.int (dr ns k m))/\0<=dr ns k m/\dr ns k m<m:=by
 have a:∃ r,e8 [cV ns,.int k,.int m]=some (.int r)/\0<=r/\r<m:=by
  obtain⟨c,t⟩:=PF ns s k;obtain⟨u,d⟩:∃ u,u=((c % 2147483563) * 69069+104723 * (k+1)) % 2147483563:=⟨_,rfl⟩
  have q:0<=u:=by rw [d];exact Int.emod_nonneg _ (by decide)
  have p:u<2147483563:=by rw [d];exact JC _ (by decide)
  obtain⟨v,b⟩:∃ v,v=(u * u+u / 3) % 2147483399:=⟨_,rfl⟩
  have o:0<=v:=by rw [b];exact Int.emod_nonneg _ (by decide)
  have n:v<2147483399:=by rw [b];exact JC _ (by decide)
  have a1:j0 (.int ((c % 2147483563) * 69069+104723 * (k+1))) (.int 2147483563)=some (.int u):=by rw [d];exact qL (by decide)
  have E:j0 (.int c) (.int 2147483563)=some (.int (c % 2147483563)):=qL (by decide);have B:cK (.int (c % 2147483563)) (.int 69069)=some (.int (c % 2147483563 * 69069)):=i4 (Eo (by decide) (by decide));have A:cK (.int 104723) (.int (k+1))=some (.int (104723 * (k+1))):=i4 (j3 (by decide) (by decide));have z:cK (.int u) (.int u)=some (.int (u * u)):=i4 (j3 (Int.lt_of_lt_of_le (by decide) q) (Int.lt_trans p (by decide)));have g:∀ i j:Int,0<j->j<1073741824->oY (.int i) (.int j)=some (.int (i / j)):=fun i j h f=>FJ (En h f)
  have y:j0 (.int (u * u+u / 3)) (.int 2147483399)=some (.int v):=by rw [b];exact qL (by decide)
  have x:cK (.int v) (.int v)=some (.int (v * v)):=i4 (j3 (Int.lt_of_lt_of_le (by decide) o) (Int.lt_trans n (by decide)))
  refine⟨(v * v+v / 7) % 2147483647 / 11 % m,?_,Int.emod_nonneg _ (Int.ne_of_gt e),JC _ e⟩
  exact dW (bV (dY (oo (oo (oo (oo (bF rfl t) rfl E) rfl B) (oo rfl rfl A) rfl) rfl a1)) (bV (dY (oo (oo (oo rfl rfl z) (oo rfl rfl (g _ _ (by decide) (by decide))) rfl) rfl y)) (dX (oo (oo (oo (oo (oo rfl rfl x) (oo rfl rfl (g _ _ (by decide) (by decide))) rfl) rfl (qL (by decide))) rfl (g _ _ (by decide) (by decide))) rfl (qL e)))))
 obtain⟨r,l,f,w⟩:=a
 have:dr ns k m=r:=by unfold dr;rw [l]
 rw [this]
 exact⟨l,f,w⟩
def iP(w h:Nat)(W:C->Bool):D:=.tuple (((cells w h).filter W).map aB)
def aE(w h:Nat)(W:C->Bool):D:=.tuple [.int w,.int h,iP w h W]
theorem RJ(w h:Nat)(p:Nat->Nat->Bool):((List.range w).flatMap fun(x:Nat)=>((List.range h).filter (p x)).map fun(y:Nat)=>((x:Int),(y:Int)))=(cells w h).filter fun c=>p c.1.toNat c.2.toNat:=by
 unfold cells;rw [List.filter_flatMap];congr 1
 funext x
 rw [List.filter_map];rfl
theorem Cm{i:Nat}{ga:aA->Option D}{ρ:aA}{ds es:List D}(c:ρ[i]?=some (.own ds))(b:ga ρ=some (.list es))(a:ds.length+es.length<=1000):oJ i ga ρ=some (.nx (ρ.set i (.own (ds++es)))):=by
 unfold oJ;rw [c]
 show(ga ρ).bind _=_
 rw [b]
 show(if ds.length+es.length<=1000 then _ else _)=_
 rw [if_pos a]
theorem Cq{b:Type}(f:Nat->List b):∀(l:List Nat) (acc:List b),l.foldl (fun a x=>a++f x) acc=acc++l.flatMap f
 | [],acc=>by simp
 | x::l,acc=>by rw [YF,Cq f l,List.flatMap_cons,QG]
theorem Cr{c:Type}(f:Nat->List c)(g:Nat->Sl):∀(l:List Nat) (acc:List c) (s:Sl),l.foldl (fun(b:List c × Sl) x=>(b.1++f x,g x)) (acc,s)=(l.foldl (fun a x=>a++f x) acc,l.foldl (fun _ x=>g x) s)
 | [],acc,s=>rfl
 | x::l,acc,s=>by rw [YF,YF,YF];exact Cr f g l _ _
def C5(q:Int):Int:=if q=0 then 2 else if q=1 then 3 else if q=2 then 3 else if q=3 then 5 else 9
theorem Wg(q:Int)(b:0<=q)(a:q<5):aQ (.list [.int 2,.int 3,.int 3,.int 5,.int 9]) (.int q)=some (.int (C5 q))/\0<C5 q:=by
 obtain⟨n,rfl⟩:=Int.eq_ofNat_of_zero_le b;rcases n with _ | _ | _ | _ | _ | n
 ·exact⟨rfl,by decide⟩
 ·exact⟨rfl,by decide⟩
 ·exact⟨rfl,by decide⟩
 ·exact⟨rfl,by decide⟩
 ·exact⟨rfl,by decide⟩
 ·exact absurd a (by lia)
theorem RM(ns:List Int)(o:ns.length<=63)(a:Int)(m:Nat)(M:0<m)(l:m<=5):∃(w h:Nat) (W:C->Bool),tH [cV ns,.int a,.int m]=some (aE w h W)/\1<=w/\w<=m/\1<=h/\h<=m:=by
 have u:(0:Int)<m:=Int.ofNat_lt.mpr M;obtain⟨Z,B,A⟩:=mM ns o a m u;obtain⟨Y,S,R⟩:=mM ns o (a+1) m u;obtain⟨X,G,F⟩:=mM ns o (a+2) 5 (by decide);obtain⟨U,E⟩:=Wg _ G F;generalize dr ns a m=dw at *;generalize dr ns (a+1) m=dh at *;generalize C5 (dr ns (a+2) 5)=g at *;have one:∀{x:Int},0<=x->x<m->∃ w:Nat,1+x=w/\1<=w/\w<=m:=fun{x} g1 g2=>⟨(1+x).toNat,by lia,by lia,by lia⟩;obtain⟨w,I,z,q⟩:=one B A;obtain⟨h,N,Q,v⟩:=one S R;clear one;have w5:w<=5:=QL q l;have h5:h<=5:=QL v l
 refine⟨w,h,fun c=>dr ns (a+3+8 * (c.1.toNat:Int)+(c.2.toNat:Int)) g == 0,?_,z,q,Q,v⟩
 refine dW ?_;unfold Ct;rw [show c7 8 [cV ns,.int a,.int m]=[.dat (cV ns),.dat (.int a),.dat (.int m),.no,.no,.no,.no,.no]from rfl];refine bV (dY (d:=.int (w:Int)) (oo rfl (bF rfl Z) (by rw [<- I];rfl))) (bV (dY (d:=.int (h:Int)) (oo rfl (bF rfl Y) (by rw [<- N];rfl))) (bV (dY (oo rfl (bF rfl X) U)) (bV (ρ':=[.dat (cV ns),.dat (.int a),.dat (.int m),.dat (.int w),.dat (.int h),.dat (.int g),.own [],.no]) rfl ?_)));obtain⟨f,p⟩:∃ f:Nat->List C,f=fun(x:Nat)=>((List.range h).filter fun(y:Nat)=>dr ns (a+3+8 * (x:Int)+(y:Int)) g == 0).map fun(y:Nat)=>((x:Int),(y:Int)):=⟨_,rfl⟩
 have fl:∀ x,(f x).length<=5:=fun x=>by
  rw [p,Qi];refine QL (Q5 _ _) ?_;rw [Ym];exact h5
 refine bV (HR (n:=w) rfl (YX w5 (by decide)) (uU (fun(k:Nat)=>.int (k:Int)) (fun(b:List C × Sl)=>[.dat (cV ns),.dat (.int a),.dat (.int m),.dat (.int w),.dat (.int h),.dat (.int g),.own (b.1.map aB),b.2])
  (fun b x=>(b.1++f x,.dat (.int (x:Int)))) (fun i b=>b.1.length<=5 * i) 5 (List.range w) 0 ([],.no) (by rw [Ym,QZ];exact w5) (Ql _) fun x hx i b hi K=>?_)) ?_
 ·obtain⟨j,s7⟩:=b;have J:j.length<=5 * i:=K;have O:=fl x
  refine⟨⟨[.dat (cV ns),.dat (.int a),.dat (.int m),.dat (.int w),.dat (.int h),.dat (.int g),.own (j.map aB),.dat (.int (x:Int))],rfl,?_⟩,by show(j++f x).length<=5 * (i+1);rw [Qd];lia⟩
  refine(Cm (ds:=j.map aB) (es:=(f x).map aB) rfl ?_ (by rw [Qi,Qi];lia)).trans ?_
  ·have:=HJ (gi:=j8 (aD (eV 4) aH)) (s:=cW 0) (t:=eB (aF eA (aV e8 (aD (eV 2) (aD (aF cG (aF cG (aF cG (eV 4) (eC (.int 3))) (aF cK (eC (.int 8)) (eV 1))) (eV 0)) (aD (eV 3) aH)))) (eC (.int 0))))
    (ge:=cO (aD (eV 1) (aD (eV 0) aH))) (inner:=[none,some 7,some 0,some 5,some 1]) (xs:=List.range h) (ρ:=[.dat (cV ns),.dat (.int a),.dat (.int m),.dat (.int w),.dat (.int h),.dat (.int g),.own (j.map aB),.dat (.int (x:Int))])
    (fun(k:Nat)=>.int (k:Int)) (fun(y:Nat)=>dr ns (a+3+8 * (x:Int)+(y:Int)) g == 0) (fun(y:Nat)=>aB ((x:Int),(y:Int)))
    (fun ρ=>∃ r,ρ=[r,.dat (.int (x:Int)),.dat (cV ns),.dat (.int g),.dat (.int a)]) (BW (n:=h) rfl (YX h5 (by decide))) (by rw [Ym];exact QL h5 (by decide)) ⟨.no,rfl⟩ (by
     rintro y hy ρ ⟨r,rfl⟩;have e:=(mM ns o (a+3+8 * (x:Int)+(y:Int)) g E).1;have H:cK (.int 8) (.int (x:Int))=some (.int (8 * (x:Int))):=i4 (j3 (by decide) (by decide))
     exact⟨[.dat (.int (y:Int)),.dat (.int (x:Int)),.dat (cV ns),.dat (.int g),.dat (.int a)],rfl,⟨_,rfl⟩,oB (oo (bF (cF rfl (cF (oo (oo rfl (oo rfl rfl H) rfl) rfl rfl) rfl)) e) rfl rfl),fun _=>rfl⟩)
   refine this.trans ?_;rw [p,Yo];rfl
  ·show some (aW.nx _)=some (aW.nx _)
   rw [Yi];rfl
 ·refine dX ?_;rw [Cr,Cq]
  have T:(List.range w).flatMap f=(cells w h).filter fun c=>dr ns (a+3+8 * (c.1.toNat:Int)+(c.2.toNat:Int)) g == 0:=by
   rw [p];exact RJ w h fun x y=>dr ns (a+3+8 * (x:Int)+(y:Int)) g == 0
  rw [JF,T];rfl
end My
namespace My
open PySem PySem.SeqAt L2 DL SD SL EL DC
theorem B4:∀ l:List C,Zt (l.map aB)=true/\Zx (l.map aB)<=1
 | []=>⟨rfl,Q9 _⟩
 | c::l=>by
  obtain⟨b,a⟩:=B4 l
  refine⟨by rw [Qm,Zt,b];rfl,?_⟩
  rw [Qm,Zx];exact Nat.max_le.mpr ⟨Ql _,a⟩
theorem VP(l:List C):ZC (.tuple (l.map aB))=true:=by
 obtain⟨a,b⟩:=B4 l
 have:PyData.depth (.tuple (l.map aB))<=64:=by show Zx (l.map aB)+1<=64;lia
 simp [ZC,Ur,a,this]
theorem Df(c:C):ZC (aB c)=true:=id rfl
theorem FE(a b:C):ZS (aB a) (aB b)=(a == b):=by
 show((a.1 == b.1) && ((a.2 == b.2) && true))=_
 rw [Jp];obtain⟨x,y⟩:=a;obtain⟨u,v⟩:=b;rfl
theorem LI(l:List C)(c:C):((l.map aB).any fun y=>ZS y (aB c))=l.contains c:=by
 induction l with
 | nil=>rfl
 | cons a l b=>rw [Qm,JT,b,FE,List.contains_cons,Bool.beq_comm]
theorem Mf(a:Bool)(c:C)(l:List C):jE a (aB c) (.tuple (l.map aB))=some (.bool (if a then !l.contains c else l.contains c)):=by
 show(if(ZC (aB c) && ZC (.tuple (l.map aB)))=true then _ else _)=_
 rw [Df,VP,Bool.and_self,if_pos rfl,LI]
def aT(w h:Nat)(W:C->Bool)(c:C):Bool:=bG w h c && W c
theorem BP(w h:Nat)(W:C->Bool)(c:C):((cells w h).filter W).contains c=aT w h W c:=by
 rw [Yu,YV,QW,iK];unfold aT;rw [QH]
theorem Ax(a:Bool)(c:C)(w h:Nat)(W:C->Bool):jE a (aB c) (iP w h W)=some (.bool (if a then !aT w h W c else aT w h W c)):=by
 unfold iP;rw [Mf,BP]
theorem KJ(i:Int):rL [.int i]=some (.bool true):=dW (dX rfl)
theorem OY(c:C):uB [aB c]=some (.bool true):=dW (bV (i5 rfl) (dX (Ek (bF rfl (KJ c.1)) (bF rfl (KJ c.2)))))
theorem PD(w h:Nat)(W:C->Bool)(c:C):tK [aE w h W,aB c]=some (.bool (bG w h c)):=by
 refine dW (bV (i5 (oN (oB (bF rfl (OY c))))) (dX ?_))
 show((if decide (0<=c.1)=true then some (Zr (decide (c.1<w)))else some (.bool false)).bind fun x=>(iW x).bind fun k=>if k=true then(if decide (0<=c.2)=true then some (Zr (decide (c.2<h)))else some (.bool false))else some (.bool false))=_
 unfold bG
 cases decide (0<=c.1) <;> cases decide (c.1<w) <;> cases decide (0<=c.2) <;> cases decide (c.2<h) <;> rfl
theorem C6{w h:Nat}{W:C->Bool}{c:C}(a:bG w h c=true):mI [aE w h W,aB c]=some .none:=by
 have q:=PD w h W c;rw [a]at q;exact FQ (i5 (oN (oB (bF rfl q))))
theorem q9{w h:Nat}{W:C->Bool}{c:C}(a:bG w h c=true):kG [aE w h W,aB c]=some (.bool (W c)):=by
 have q:=Ax false c w h W;unfold aT at q;rw [a,JJ]at q;exact dW (bV (C9 (bF rfl (C6 a))) (dX (oo rfl rfl q)))
theorem Vt{w h:Nat}{W:C->Bool}{c:C}(b:bG w h c=true)(a:W c=false):uD [aE w h W,aB c]=some .none:=by
 have q:=q9 (W:=W) b;rw [a]at q;exact FQ (i5 (oB (bF rfl q)))
end My
namespace My
open PySem PySem.SeqAt L2 DL SD SL EL DC
theorem EG{w h:Nat}{W:C->Bool}(m:w<=5)(c:h<=5):oS [aE w h W]=some (.list ((cells w h).map aB)):=by
 obtain⟨f,g⟩:∃ f:Nat->List C,f=fun(x:Nat)=>(List.range h).map fun(y:Nat)=>((x:Int),(y:Int)):=⟨_,rfl⟩;refine dW ?_;unfold Cu;rw [show c7 3 [aE w h W]=[.dat (aE w h W),.no,.no]from rfl];refine bV (ρ':=[.dat (aE w h W),.own [],.no]) rfl ?_
 refine bV (HR (n:=w) rfl (YX m (by decide)) (uU (fun(k:Nat)=>.int (k:Int)) (fun(b:List C × Sl)=>[.dat (aE w h W),.own (b.1.map aB),b.2])
  (fun b x=>(b.1++f x,.dat (.int (x:Int)))) (fun i b=>b.1.length<=5 * i) 5 (List.range w) 0 ([],.no) (by rw [Ym,QZ];exact m) (Ql _) fun x r i b s o=>?_)) ?_
 ·obtain⟨a,p⟩:=b;have d:a.length<=5 * i:=o
  have e:(f x).length<=5:=by rw [g,Qi,Ym];exact c
  refine⟨⟨[.dat (aE w h W),.own (a.map aB),.dat (.int (x:Int))],rfl,?_⟩,by show(a++f x).length<=5 * (i+1);rw [Qd];exact Nat.add_le_add d e⟩
  refine(Cm (ds:=a.map aB) (es:=(f x).map aB) rfl (lN (xs:=List.range h) (fun(k:Nat)=>.int (k:Int)) (fun _=>true) (fun(y:Nat)=>aB ((x:Int),(y:Int))) (fun j=>∃ l,j=[l,.dat (.int (x:Int))]) (BW (n:=h) rfl (YX c (by decide))) (by rw [Ym];exact QL c (by decide)) ⟨.no,rfl⟩ ?_ ?_) (by rw [Qi,Qi];lia)).trans ?_
  ·rintro y q j ⟨l,rfl⟩
   exact⟨[.dat (.int (y:Int)),.dat (.int (x:Int))],rfl,⟨_,rfl⟩,rfl,fun _=>rfl⟩
  ·rw [uT,g,Yo];rfl
  ·show some (aW.nx _)=some (aW.nx _)
   rw [Yi];rfl
 ·refine dX ?_;rw [Cr,Cq,JF,g];rfl
theorem y7:∀ l:List C,qW (l.map aB)=some (l.map row)
 | []=>rfl
 | c::l=>by
  show(eF [.int c.1,.int c.2]).bind (fun b=>(qW (l.map aB)).bind fun a=>some (b::a))=_
  rw [y7 l];rfl
theorem nW{a b:C}(q:row a=row b):a=b:=by
 unfold row at q
 injection q with q1 q2
 injection q2 with q2 _
 exact Jk q1 q2
theorem RQ{l:List C}(h:l.Nodup):(l.map row).Nodup:=by
 rw [List.Nodup,Yl];exact h.imp fun{a b} q r=>q (nW r)
theorem Ho(l:List C)(c:C):(l.map row).contains (row c)=l.contains c:=by
 rw [Yu,YV,YV,QO];constructor
 ·rintro⟨d,a,e⟩;rw [<- nW e];exact a
 ·intro h;exact⟨c,h,rfl⟩
theorem ID{w h:Nat}{W:C->Bool}(d:w<=5)(a:h<=5):nJ [aE w h W]=some (.list (((cells w h).filter fun c => !W c).map aB)):=by
 have g:(cells w h).length<=25:=by rw [oX];exact Jx d a
 have m:=Q5 W (cells w h);have l:=Q5 (fun c => !W c) (cells w h)
 have f:sX [.list ((cells w h).map aB)]=some ((cells w h).map row):=by
  show(if _ then _ else _)=_
  rw [if_pos (by rw [Qi];lia),y7]
 have e:sX [iP w h W]=some (((cells w h).filter W).map row):=by
  show(if _ then _ else _)=_
  rw [if_pos (by rw [Qi];lia),y7]
 have j:((cells w h).map row).filter (fun k => !(((cells w h).filter W).map row).contains k)=((cells w h).filter fun c => !W c).map row:=by
  rw [List.filter_map];congr 1;refine YC fun c i=>?_
  show(!(((cells w h).filter W).map row).contains (row c))=_
  rw [Ho,BP];unfold aT;rw [iK.mp i,JJ]
 have b:=mE (i7 w h) fun c => !W c;refine dW (dX ?_);unfold o0 Ci m9;rw [cF (bF rfl (EG (W:=W) d a)) rfl,Qe,f,Qe,show aD (aF aQ (eV 0) (eC (.int 2))) aH (List.map frz (c7 1 [aE w h W]))=some [iP w h W]from rfl,Qe,e,Qe];rw [if_pos (by rw [Qi];lia),Qe,j,Gr _ (RQ (rC b)),y8];exact zI (rC b) (by lia) b fun c=>Iff.rfl
def sO(l:List C):D:=.dict (l.map fun c=>(aB c,.bool true))
theorem GA(c:C):gJ (aB c)=some (row c):=id rfl
theorem Hn(l:List C)(c:C):iY (l.map fun c=>(aB c,Zr true)) (row c)=l.contains c:=by
 unfold iY;rw [List.any_map]
 induction l with
 | nil=>rfl
 | cons a l b=>
  rw [JT,b,List.contains_cons];congr 1
  show(gJ (aB a) == some (row c))=_
  rw [GA,Yu,beq_iff_eq,beq_iff_eq];constructor
  ·intro q;exact(nW (QC q)).symm
  ·intro q;rw [q]
theorem RK(l:List C):mO (l.map fun c=>(aB c,Zr true))=true:=by
 unfold mO;rw [List.all_map,Q8];intro c _;rfl
theorem Mh(a:Bool)(c:C)(l:List C):iX a (aB c) (sO l)=some (.bool (if a then !l.contains c else l.contains c)):=by
 show(gJ (aB c)).bind (fun k=>if mO (l.map fun c=>(aB c,Zr true))=true then some (Zr (if a then !iY (l.map fun c=>(aB c,Zr true)) k else iY (l.map fun c=>(aB c,Zr true)) k))else none)=_
 rw [GA,Qe,RK,if_pos rfl,Hn]
theorem IH:∀ l:List C,qS (l.map fun c=>Z3 [aB c,.bool true])=some (l.map fun c=>(row c,.bool true))
 | []=>rfl
 | c::l=>by
  show(xS (.tuple [aB c,.bool true])).bind (fun p=>(qS (l.map fun c=>Z3 [aB c,.bool true])).bind fun a=>some (p::a))=_
  rw [IH l];rfl
theorem Tp(l:List C)(c:C)(h:c∉l):oI (l.map fun c=>(aB c,Zr true)) (row c) (.bool true)=(l++[c]).map fun c=>(aB c,Zr true):=by
 unfold oI;rw [Hn,if_neg (by rw [YV];exact h),Yi];rfl
theorem GC:∀(l acc:List C),(acc++l).Nodup->(l.map fun c=>(row c,Zr true)).foldl (fun kvs p=>oI kvs p.1 p.2) (acc.map fun c=>(aB c,Zr true))=(acc++l).map fun c=>(aB c,Zr true)
 | [],acc,_=>by rw [QR];rfl
 | c::l,acc,h=>by
  have a:c∉acc:=by
   rw [List.nodup_append]at h;exact fun q=>h.2.2 c q c Qo rfl
  rw [Qm,YF]
  show(l.map _).foldl _ (oI _ (row c) (.bool true))=_
  rw [Tp acc c a,GC l (acc++[c]) (by rw [QG];exact h),QG];rfl
theorem Ti{l:List C}{d:D}(g:sW d=some (l.map aB))(b:l.length<=1000)(f:l.Nodup):hJ [d]=some (sO l):=by
 refine dW (dX (bF (ds:=[.list (l.map fun c=>Z3 [aB c,.bool true])]) ?_ ?_))
 ·have e:=lN (gi:=eW (eV 0)) (s:=cW 0) (t:=eT) (ge:=cO (aD (eV 0) (aD (eC (.bool true)) aH))) (inner:=[none]) (ρ:=(c7 1 [d]).map frz) (xs:=l) aB (fun _=>true) (fun c=>Z3 [aB c,.bool true]) (fun ρ=>∃ a,ρ=[a]) (kA rfl g) b ⟨_,rfl⟩ (by
   rintro c _ ρ ⟨a,rfl⟩
   exact⟨[.dat (aB c)],rfl,⟨_,rfl⟩,rfl,fun _=>rfl⟩) (by rw [uT])
  exact cF e rfl
 ·show(if _ then _ else _)=_
  rw [if_pos (by rw [Qi];exact b),IH,Qe]
  have:=GC l [] (by simpa using f)
  rw [JF]at this;unfold uP sO;rw [<- this];rfl
theorem xD{w h:Nat}{W:C->Bool}(c:w<=5)(a:h<=5):hJ [iP w h W]=some (sO ((cells w h).filter W)):=by
 have b:(cells w h).length<=25:=by rw [oX];exact Jx c a
 have d:=Q5 W (cells w h);exact Ti rfl (by lia) (rC (mE (i7 w h) W))
def dJ(w h:Nat)(W:C->Bool):D:=sO ((cells w h).filter W)
theorem Hs(a:Bool)(c:C)(w h:Nat)(W:C->Bool):iX a (aB c) (dJ w h W)=some (.bool (if a then !aT w h W c else aT w h W c)):=by
 unfold dJ;rw [Mh,BP]
end My
namespace My
open PySem PySem.SeqAt L2 DL SD SL EL DC
structure WS where
 gx:Int
 gy:Int
 cs:List C
 s9:Sl
 s10:Sl
def Au(a b:C)(f e d c:Int)(s:WS):aA:=[.dat (aB a),.dat (aB b),.dat (.int f),.dat (.int e),.dat (.int d),.dat (.int c),.dat (.int s.gx),.dat (.int s.gy),.own (s.cs.map aB),s.s9,s.s10]
def wF(b a:Int)(s:WS):Bool:=decide (s.gx<b) || decide (s.gy<a)
def pU(b a:Int)(s:WS):Int:=if(2 * s.gx+1) * a<=(2 * s.gy+1) * b then s.gx+1 else s.gx
def sP(b a:Int)(s:WS):Int:=if(2 * s.gy+1) * b<=(2 * s.gx+1) * a then s.gy+1 else s.gy
def zL(a:C)(c b e d:Int)(s:WS):WS:=⟨pU c b s,sP c b s,s.cs++[(a.1+e * pU c b s,a.2+d * sP c b s)],.dat (.int ((2 * s.gx+1) * b)),.dat (.int ((2 * s.gy+1) * c))⟩
theorem HA(a:C)(d b i f:Int):∀(n:Nat) (s:WS) (st:List C),yR d b n s.gx s.gy=some st->∃ s',uZ (wF d b) (zL a d b i f) n s=some s'/\s'.cs=s.cs++st.map fun g=>(a.1+i * g.1,a.2+f * g.2)
 | 0,_,_,h=>by cases h
 | n+1,s,st,h=>by
  unfold yR at h;unfold uZ;by_cases c:s.gx<d ∨ s.gy<b
  ·rw [if_pos c]at h;obtain⟨r,e,h⟩:=aG h;cases h;rw [if_pos (by unfold wF;rw [JV,decide_eq_true_eq,decide_eq_true_eq];exact c)];obtain⟨s',k,j⟩:=HA a d b i f n (zL a d b i f s) r e
   refine⟨s',k,?_⟩
   rw [j]
   show(s.cs++[_])++_=_
   rw [QG];rfl
  ·rw [if_neg c]at h;cases h;rw [if_neg (by unfold wF;rw [JV,decide_eq_true_eq,decide_eq_true_eq];exact c)]
   exact⟨s,rfl,by simp⟩
theorem O2{a b:C}(n:eN a b):tI [aB a,aB b]=some (.list ((line a b).map aB)):=by
 have O:=n.ok;obtain⟨u,e,h⟩:=aG O.some
 have p:∀ x,-100<eZ x/\eZ x<100:=fun x=>by unfold eZ;split <;> decide
 have G:=p (b.1-a.1);have F:=p (b.2-a.2);clear p;obtain⟨K,J,I,H⟩:=n
 have t:∀ x,-4<=x->x<=4->0<=eP x/\eP x<100:=fun x h U=>by unfold eP;split <;> lia
 have Q:=t _ K J;have N:=t _ I H;clear t
 have E:u.length<=8:=by
  have:=O.len
  rw [<- QC h,Qt,Qi]at this;lia
 have q:∀ x y:Int,(if decide (x<y)=true then some (J9 1)else some (.int (-1)))=some (.int (eZ (y-x))):=fun x y=>by
  unfold eZ;by_cases c:x<y
  ·rw [if_pos (decide_eq_true c),if_pos (by lia)]
  ·rw [if_neg (by simpa using c),if_neg (by lia)]
 have B:=q a.1 b.1;have A:=q a.2 b.2;clear q;obtain⟨v,M,r⟩:=HA a (eP (b.1-a.1)) (eP (b.2-a.2)) (eZ (b.1-a.1)) (eZ (b.2-a.2)) 900 ⟨0,0,[a],.no,.no⟩ u e
 have j:line a b=v.cs:=by
  rw [r];unfold line;rw [<- QC h,Qm,Yo]
  show _::_=_::_
  congr 1;exact Jk (by show a.1+0=a.1;lia) (by show a.2+0=a.2;lia)
 rw [j];refine dW ?_;unfold Cz;refine bV (dY (d:=.int (eP (b.1-a.1))) rfl) (bV (dY (d:=.int (eP (b.2-a.2))) rfl) (bV (dY B) (bV (dY A) (bV (dY rfl) (bV (dY rfl) (bV (ρ':=Au a b (eP (b.1-a.1)) (eP (b.2-a.2)) (eZ (b.1-a.1)) (eZ (b.2-a.2)) ⟨0,0,[a],.no,.no⟩) rfl ?_))))));generalize eP (b.1-a.1)=f at *;generalize eP (b.2-a.2)=g at *;generalize eZ (b.1-a.1)=m at *;generalize eZ (b.2-a.2)=l at *;clear B A;have o:∀ k,-100<k/\k<100->∀ i:Int,cK (.int k) (.int i)=some (.int (k * i)):=fun k h i=>i4 (j3 (by lia) (by lia));have w:∀ k,0<=k/\k<100->∀ i:Int,cK (.int i) (.int k)=some (.int (i * k)):=fun k h i=>i4 (Eo (by lia) (by lia));refine bV (KI (Au a b f g m l) (wF f g) (zL a f g m l) (fun n s=>s.cs.length+n<=901) (fun n s R=>?_) (fun n s R T=>⟨?_,?_⟩) 900 ⟨0,0,[a],.no,.no⟩ v (by show 1+900<=901;decide) M) (dX rfl)
 ·show(if decide (s.gx<f)=true then some true else some (decide (s.gy<g)))=some (decide (s.gx<f) || decide (s.gy<g))
  cases decide (s.gx<f) <;> rfl
 ·have S:(s.cs.map aB).length<1000:=by rw [Qi];lia
  refine bV (dY (oo (oo (oo rfl rfl (o 2 (by decide) s.gx)) rfl rfl) rfl (w g N _))) (bV (dY (oo (oo (oo rfl rfl (o 2 (by decide) s.gy)) rfl rfl) rfl (w f Q _))) ?_);refine bV (ρ':=[.dat (aB a),.dat (aB b),.dat (.int f),.dat (.int g),.dat (.int m),.dat (.int l),.dat (.int (pU f g s)),.dat (.int s.gy),.own (s.cs.map aB),.dat (.int ((2 * s.gx+1) * g)),.dat (.int ((2 * s.gy+1) * f))]) ?_ ?_
  ·unfold pU;by_cases c:(2 * s.gx+1) * g<=(2 * s.gy+1) * f
   ·rw [if_pos c]
    exact nX (b:=true) (congrArg some (decide_eq_true c)) (fun _=>rfl) fun z=>by cases z
   ·rw [if_neg c];exact i5 (congrArg some (decide_eq_false c))
  refine bV (ρ':=[.dat (aB a),.dat (aB b),.dat (.int f),.dat (.int g),.dat (.int m),.dat (.int l),.dat (.int (pU f g s)),.dat (.int (sP f g s)),.own (s.cs.map aB),.dat (.int ((2 * s.gx+1) * g)),.dat (.int ((2 * s.gy+1) * f))]) ?_ ?_
  ·unfold sP;by_cases c:(2 * s.gy+1) * f<=(2 * s.gx+1) * g
   ·rw [if_pos c]
    exact nX (b:=true) (congrArg some (decide_eq_true c)) (fun _=>rfl) fun z=>by cases z
   ·rw [if_neg c];exact i5 (congrArg some (decide_eq_false c))
  refine(HQ (ds:=s.cs.map aB) (d:=aB (a.1+m * pU f g s,a.2+l * sP f g s)) rfl ?_ S).trans ?_
  ·unfold cO;rw [cF (oo rfl (oo rfl rfl (o m G _)) rfl) (cF (oo rfl (oo rfl rfl (o l F _)) rfl) rfl)];rfl
  ·unfold Au zL;rw [Yi];rfl
 ·show(s.cs++[_]).length+n<=901
  rw [Qd,Qx];lia
end My
namespace My
open PySem PySem.SeqAt L2 DL SD SL EL DC
abbrev Cp:=C × C
def bA(p:Cp):D:=.tuple [aB p.1,aB p.2]
def two(p q:C):Cp:=if fM q p=true then(q,p)else(p,q)
def nA(p:Cp):Cp:=two (p.1.1,p.2.2) (p.2.1,p.1.2)
def nB(l:List C):List Cp:=((l.zip l.tail).filter fun p=>dH p.1 p.2).map nA
theorem WP(S:C->Bool)(p q:C):(S (two p q).1 && S (two p q).2)=(S p && S q):=by
 unfold two;split
 ·exact Jo _ _
 ·rfl
theorem Ib(S:C->Bool):∀ l:List C,(nB l).all (fun p => !(S p.1 && S p.2))=fB S l
 | []=>rfl
 | [a]=>rfl
 | a::b::l=>by
  have c:=Ib S (b::l);unfold nB at c ⊢;rw [kE]
  show((((a,b)::(b::l).zip (b::l).tail).filter fun p=>dH p.1 p.2).map nA).all _=_
  rw [List.filter_cons];dsimp only
  cases dH a b with
  | true=>
   rw [if_pos rfl,Qm,List.all_cons,c];congr 1
   show(!(S (two (a.1,b.2) (b.1,a.2)).1 && S (two (a.1,b.2) (b.1,a.2)).2))=_
   rw [WP];rfl
  | false=>rw [if_neg Qq,c];rfl
theorem V2(p q:C):iF [.list [aB p,aB q]]=some (.list [aB (two p q).1,aB (two p q).2]):=by
 have:=t7 (l:=[row p,row q]) (by intro k a;rcases Qp.mp a with rfl | a;rfl;rcases Qp.mp a with rfl | a;rfl;cases a) (by show 2<=63;decide)
 refine this.trans ?_
 show some (Uj ((if HT.lexLt (row q) (row p)=true then [row q,row p]else [row p,row q]).map fS))=_
 unfold two fM
 split <;> rfl
theorem Kj:∀ l m:List C,List.zipWith (fun x y=>Z3 [x,y]) (l.map aB) (m.map aB)=(l.zip m).map bA
 | [],_=>rfl
 | _::_,[]=>rfl
 | a::l,b::m=>by rw [Qm,Qm,List.zipWith_cons_cons,Kj l m];rfl
theorem O6(l:List C):cutD (l.map aB) (some 1) none=l.tail.map aB:=by
 cases l with
 | nil=>rfl
 | cons a l=>
  unfold DL.cutD
  have b:HT.sIx ((a::l).map aB).length 0 (some 1)=1:=by
   have:=HT.sIx_nat ((a::l).map aB).length 0 1
   rw [show((1:Nat):Int)=1 from rfl]at this;rw [this,Qi,Qt];lia
  rw [b,HT.sIx_none];simp;exact YR (by simp)
theorem O4(l:List C):cutD (l.map aB) none (some (-1))=l.dropLast.map aB:=by
 unfold DL.cutD;rw [HT.sIx_none]
 have a:HT.sIx (l.map aB).length (l.map aB).length (some (-1))=l.length-1:=by
  unfold HT.sIx;simp;lia
 rw [a,List.drop_zero,Nat.sub_zero,List.dropLast_eq_take,List.map_take]
theorem Pk(l:List C)(r:l.length<=500):rJ [.list (l.map aB)]=some (.list ((nB l).map bA)):=by
 have o:(l.zip l.tail).length<=500:=by rw [List.length_zip];lia
 refine dW ?_;unfold Cw;rw [show c7 4 [.list (l.map aB)]=[.dat (.list (l.map aB)),.no,.no,.no]from rfl];refine bV (ρ':=[.dat (.list (l.map aB)),.own [],.no,.no]) rfl ?_
 have g:sI (aD (eV 0) (aD (pQ (eV 0) (oE (eC (.int 1))) pV) aH)) [.dat (.list (l.map aB)),.own [],.no,.no]=some ((l.zip l.tail).map bA):=by
  show some (List.zipWith (fun x y=>Z3 [x,y]) (l.map aB) (cutD (l.map aB) (some 1) none))=_
  rw [O6,Kj]
 refine bV (qX g (uU bA (fun(b:List Cp × Sl × Sl)=>[.dat (.list (l.map aB)),.own (b.1.map bA),b.2.1,b.2.2]) (fun b p=>(if dH p.1 p.2=true then b.1++[nA p]else b.1,.dat (aB p.1),.dat (aB p.2))) (fun i b=>b.1.length<=i) 500 (l.zip l.tail) 0 ([],.no,.no) (by lia) (Ql _) fun p _ i b s k=>?_)) ?_
 ·obtain⟨a,n,m⟩:=b;have j:a.length<=i:=k
  have f:(a.map bA).length<1000:=by rw [Qi];lia
  refine⟨⟨[.dat (.list (l.map aB)),.own (a.map bA),.dat (aB p.1),.dat (aB p.2)],rfl,?_⟩,?_⟩
  ·have t:lU (eB (aF cU (aF aQ (eV 2) (eC (.int 0))) (aF aQ (eV 3) (eC (.int 0))))) (eB (aF cU (aF aQ (eV 2) (eC (.int 1))) (aF aQ (eV 3) (eC (.int 1))))) [.dat (.list (l.map aB)),.dat (.list (a.map bA)),.dat (aB p.1),.dat (aB p.2)]=some (dH p.1 p.2):=by
    show(if(!(p.1.1 == p.2.1))=true then some (!(p.1.2 == p.2.2))else some false)=some (!(p.1.1 == p.2.1) && !(p.1.2 == p.2.2))
    cases p.1.1 == p.2.1 <;> rfl
   dsimp only
   cases q:dH p.1 p.2 with
   | true=>
    rw [q]at t
    refine(nX (b:=true) t (fun _=>HQ (ds:=a.map bA) (d:=bA (nA p)) rfl (bF (cF (bF rfl (V2 (p.1.1,p.2.2) (p.2.1,p.1.2))) rfl) rfl) f) fun z=>by cases z).trans ?_
    rw [if_pos rfl,Yi];rfl
   | false=>
    rw [q]at t;exact i5 t
  ·show(if dH p.1 p.2=true then a++[nA p]else a).length<=i+1
   split
   ·rw [Qd,Qx];lia
   ·lia
 ·have e:∀(c:List Cp) (b:List Cp × Sl × Sl),(c.foldl (fun(b:List Cp × Sl × Sl) p=>(if dH p.1 p.2=true then b.1++[nA p]else b.1,Sl.dat (aB p.1),Sl.dat (aB p.2))) b).1=b.1++(c.filter fun p=>dH p.1 p.2).map nA:=by
   intro c
   induction c with
   | nil=>intro b;simp
   | cons z c h=>
    intro b;rw [YF,h,List.filter_cons];dsimp only
    cases dH z.1 z.2 with
    | true=>rw [if_pos rfl,if_pos rfl,Qm,QG];rfl
    | false=>rw [if_neg Qq,if_neg Qq]
  refine dX ?_
  show some (Uj (((l.zip l.tail).foldl (fun(b:List Cp × Sl × Sl) p=>(if dH p.1 p.2=true then b.1++[nA p]else b.1,Sl.dat (aB p.1),Sl.dat (aB p.2))) ([],.no,.no)).1.map bA))=_
  rw [e];rfl
theorem KY{w h:Nat}{W:C->Bool}{a b:C}(n:eN a b):oU [dJ w h W,aB a,aB b]=some (.bool (clear (aT w h W) a b)):=by
 have B:(line a b).length<=9:=by unfold line;rw [Qi];exact n.ok.len
 have E:(line a b).dropLast.length<=9:=by rw [List.length_dropLast];lia
 refine dW ?_;unfold CD;rw [show c7 7 [dJ w h W,aB a,aB b]=[.dat (dJ w h W),.dat (aB a),.dat (aB b),.no,.no,.no,.no]from rfl];refine bV (dY (bF rfl (O2 n))) ?_;have d:∀ c,iX false (aB c) (dJ w h W)=some (.bool (aT w h W c)):=fun c=>Hs false c w h W
 have m:=Cs (s:=cW 4) (g:=fR (eB (aF (iX false) (eV 4) (eV 0))) (cQ (eC (.bool false))) hX) aB (fun f=>∃ e,f=[.dat (dJ w h W),.dat (aB a),.dat (aB b),.dat (.list ((line a b).map aB)),e,.no,.no]) (aT w h W) (.bool false) (line a b).dropLast [.dat (dJ w h W),.dat (aB a),.dat (aB b),.dat (.list ((line a b).map aB)),.no,.no,.no] ⟨_,rfl⟩ (by
  rintro c _ f ⟨e,rfl⟩
  refine⟨[.dat (dJ w h W),.dat (aB a),.dat (aB b),.dat (.list ((line a b).map aB)),.dat (aB c),.no,.no],rfl,?_⟩
  cases q:aT w h W c with
  | true=>rw [if_pos rfl];exact nX (b:=true) (oB (oo rfl rfl (by rw [d,q]))) (fun _=>rfl) fun z=>by cases z
  | false=>rw [if_neg Qq];exact⟨_,i5 (oB (oo rfl rfl (by rw [d,q]))),⟨_,rfl⟩⟩)
 have x:eW (pQ (eV 3) pV (oE (sE pP (eC (.int 1))))) [.dat (dJ w h W),.dat (aB a),.dat (aB b),.dat (.list ((line a b).map aB)),.no,.no,.no]=some ((line a b).dropLast.map aB):=by
  show some (cutD ((line a b).map aB) none (some (-1)))=_
  rw [O4]
 unfold clear;by_cases j:(line a b).dropLast.any (aT w h W)=true
 ·rw [if_pos j]at m
  refine(tW (qX x m)).trans ?_
  have:(line a b).dropLast.all (fun c => !aT w h W c)=false:=by
   rw [Jy];simp only [Bool.not_not];rw [j];rfl
  rw [this];rfl
 ·rw [if_neg j]at m;obtain⟨o,A,e,rfl⟩:=m;refine bV (qX x A) ?_
  have a1:(line a b).dropLast.all (fun c => !aT w h W c)=true:=by
   rw [Jy];simp only [Bool.not_not];rw [Uz]at j;rw [j];rfl
  rw [a1,JJ,<- Ib]
  have l:=Cs (s:=nG 2 (iO (cW 5) (iO (cW 6) nE))) (g:=fR (lU (eB (aF (iX false) (eV 5) (eV 0))) (eB (aF (iX false) (eV 6) (eV 0)))) (cQ (eC (.bool false))) hX) bA (fun f=>∃ t r,f=[.dat (dJ w h W),.dat (aB a),.dat (aB b),.dat (.list ((line a b).map aB)),e,t,r]) (fun p=>aT w h W p.1 && aT w h W p.2) (.bool false) (nB (line a b)) [.dat (dJ w h W),.dat (aB a),.dat (aB b),.dat (.list ((line a b).map aB)),e,.no,.no] ⟨_,_,rfl⟩ (by
   rintro p _ f ⟨t,r,rfl⟩
   refine⟨[.dat (dJ w h W),.dat (aB a),.dat (aB b),.dat (.list ((line a b).map aB)),e,.dat (aB p.1),.dat (aB p.2)],rfl,?_⟩
   cases k:aT w h W p.1 <;> cases u:aT w h W p.2
   ·exact⟨_,i5 (Ei (oB (oo rfl rfl (by rw [d,k])))),⟨_,_,rfl⟩⟩
   ·exact⟨_,i5 (Ei (oB (oo rfl rfl (by rw [d,k])))),⟨_,_,rfl⟩⟩
   ·exact⟨_,i5 (Ej (oB (oo rfl rfl (by rw [d,k]))) (oB (oo rfl rfl (by rw [d,u])))),⟨_,_,rfl⟩⟩
   ·show fR _ _ _ _=_
    exact nX (b:=true) (Ej (oB (oo rfl rfl (by rw [d,k]))) (oB (oo rfl rfl (by rw [d,u])))) (fun _=>rfl) fun z=>by cases z)
  have v:eW (aV rJ (aD (eV 3) aH)) [.dat (dJ w h W),.dat (aB a),.dat (aB b),.dat (.list ((line a b).map aB)),e,.no,.no]=some ((nB (line a b)).map bA):=
   kA (bF rfl (Pk _ (by lia))) rfl
  by_cases i:(nB (line a b)).any (fun p=>aT w h W p.1 && aT w h W p.2)=true
  ·rw [if_pos i]at l
   refine(tW (qX v l)).trans ?_
   have:(nB (line a b)).all (fun p => !(aT w h W p.1 && aT w h W p.2))=false:=by
    rw [Jy];simp only [Bool.not_not];rw [i];rfl
   rw [this]
  ·rw [if_neg i]at l;obtain⟨o,y,t,r,rfl⟩:=l;refine bV (qX v y) ?_
   have:(nB (line a b)).all (fun p => !(aT w h W p.1 && aT w h W p.2))=true:=by
    rw [Jy];simp only [Bool.not_not];rw [Uz]at i;rw [i];rfl
   rw [this];exact dX rfl
theorem kB{w h:Nat}(c:w<=5)(e:h<=5){a b:C}(g:bG w h a=true)(f:bG w h b=true):eN a b:=by
 obtain⟨a1,o,m,l⟩:=j9.mp g;obtain⟨b1,k,j,i⟩:=j9.mp f
 have d:∀{n:Nat}{x y:Int},n<=5->0<=x->x<n->0<=y->y<n->-4<=y-x/\y-x<=4:=fun u t s r h5=>by lia
 have p:=d c a1 o b1 k;have q:=d e m l j i
 exact⟨p.1,p.2,q.1,q.2⟩
section
variable {w h:Nat}{W:C->Bool}(hw:w<=5)(hh:h<=5)
include hw hh
theorem t0{c:C}(a:bG w h c=true):aT w h W c=W c:=by unfold aT;rw [a,JJ]
theorem Cj{a b:C}(d:bG w h a=true)(c:bG w h b=true):lI [dJ w h W,aB a,aB b]=some (.bool (bD (aT w h W) a b)):=by
 have e:=KY (w:=w) (h:=h) (W:=W) (kB hw hh d c);have i:=Hs true b w h W;unfold bD
 cases q:aT w h W b with
 | true=>rw [q]at i;exact dW (dX (MG (oo rfl rfl i)))
 | false=>rw [q]at i;exact dW (dX (Ek (oo rfl rfl i) (bF rfl e)))
end
end My
namespace My
open PySem PySem.SeqAt L2 DL SD SL EL DC
theorem MC(a b:C):cU (aB a) (aB b)=some (.bool (!(a == b))):=by
 unfold cU;rw [Df,Df,FE];rfl
theorem L3(w h:Nat)(l:List C)(W:C->Bool)(e:l=(cells w h).filter W):Z3 [.int w,.int h,.tuple (l.map aB)]=aE w h W:=by rw [e];rfl
theorem rD{w h:Nat}(a:w<=5)(b:h<=5)(W:C->Bool):((cells w h).filter W).length<=25:=
 QL (Q5 _ _) (by rw [oX];exact Jx a b)
theorem GO{f:C->C}(c:∀ a b,f a=f b->a=b){l:List C}(h:l.Nodup):(l.map f).Nodup:=by
 rw [List.Nodup,Yl];exact h.imp fun{a b} q r=>q (c _ _ r)
theorem pC(m:Int)(c:C):mir m (mir m c)=c:=Jk (by show m-(m-c.1)=c.1;lia) rfl
theorem tM{w h:Nat}{c:C}:bG w h (mir (w-1) c)=bG w h c:=by
 rw [Yu,j9,j9]
 show(0<=(w:Int)-1-c.1/\(w:Int)-1-c.1<w/\0<=c.2/\c.2<h) ↔ _
 lia
theorem G8{f:C->C}(a:∀ c,f (f c)=c){l:List C}{c:C}:c∈l.map f ↔ f c∈l:=by
 rw [QO];constructor
 ·rintro⟨d,b,rfl⟩;rw [a];exact b
 ·intro q;exact⟨f c,q,a c⟩
theorem V4{w h:Nat}(d:w<=5)(e:h<=5)(P:C->Bool):iF [.list ((((cells w h).filter P).map (mir (w-1))).map aB)]=some (.list (((cells w h).filter fun c=>P (mir (w-1) c)).map aB)):=by
 refine zI (GO (fun a b q=>by rw [<- pC (w-1) a,q,pC]) (rC (mE (i7 w h) P))) (by rw [Qi];have:=rD d e P;lia) (mE (i7 w h) _) fun c=>?_;rw [G8 (pC _),QW,QW,iK,iK,tM]
theorem Tm{w h:Nat}{W:C->Bool}(f:w<=5)(g:h<=5):uC [aE w h W]=some (aE w h fun c=>W (mir (w-1) c)):=by
 have i:=rD f g W;refine dW ?_;unfold CG;rw [show c7 2 [aE w h W]=[.dat (aE w h W),.no]from rfl];refine bV (dY (lN (xs:=(cells w h).filter W) aB (fun _=>true) (fun c=>aB (mir (w-1) c)) (fun a=>∃ d b,a=[d,b,.dat (aE w h W)]) (kA rfl rfl) (by lia) ⟨_,_,rfl⟩ ?_ (by rw [uT]))) ?_
 ·rintro c _ a ⟨d,b,rfl⟩
  refine⟨[.dat (.int c.1),.dat (.int c.2),.dat (aE w h W)],rfl,⟨_,_,rfl⟩,rfl,fun _=>?_⟩
  rfl
 ·have e:(((cells w h).filter W).map fun c=>aB (mir (w-1) c))=(((cells w h).filter W).map (mir (w-1))).map aB:=by rw [Yo];rfl
  refine dX ?_;rw [e];exact vN rfl rfl (bF (cF (bF rfl (V4 f g W)) rfl) rfl)
theorem Dk(c:C):swp (swp c)=c:=rfl
theorem VC{w h:Nat}{c:C}:bG h w (swp c)=bG w h c:=by
 rw [Yu,j9,j9]
 show(0<=c.2/\c.2<h/\0<=c.1/\c.1<w) ↔ _
 lia
theorem V5{w h:Nat}(d:w<=5)(e:h<=5)(P:C->Bool):iF [.list ((((cells w h).filter P).map swp).map aB)]=some (.list (((cells h w).filter fun c=>P (swp c)).map aB)):=by
 refine zI (GO (fun a b q=>by rw [<- Dk a,q,Dk]) (rC (mE (i7 w h) P))) (by rw [Qi];have:=rD d e P;lia) (mE (i7 h w) _) fun c=>?_;rw [G8 Dk,QW,QW,iK,iK,<- VC (w:=h) (h:=w) (c:=c)]
theorem RL{w h:Nat}{W:C->Bool}(f:w<=5)(g:h<=5):tJ [aE w h W]=some (aE h w fun c=>W (swp c)):=by
 have i:=rD f g W;refine dW ?_;unfold CA;rw [show c7 2 [aE w h W]=[.dat (aE w h W),.no]from rfl];refine bV (dY (lN (xs:=(cells w h).filter W) aB (fun _=>true) (fun c=>aB (swp c)) (fun a=>∃ d b,a=[d,b]) (kA rfl rfl) (by lia) ⟨_,_,rfl⟩ ?_ (by rw [uT]))) ?_
 ·rintro c _ a ⟨d,b,rfl⟩
  refine⟨[.dat (.int c.1),.dat (.int c.2)],rfl,⟨_,_,rfl⟩,rfl,fun _=>?_⟩
  rfl
 ·have e:(((cells w h).filter W).map fun c=>aB (swp c))=(((cells w h).filter W).map swp).map aB:=by rw [Yo];rfl
  refine dX ?_;rw [e];exact vN rfl rfl (bF (cF (bF rfl (V5 f g W)) rfl) rfl)
theorem yT{w h:Nat}{W:C->Bool}(d:w<=5)(e:h<=5){c:C}(f:bG w h c=true):iD [aE w h W,aB c]=some (aE w h fun x=>W x && !(x == c)):=by
 have g:=rD d e W;refine dW ?_;unfold BL;rw [show c7 2 [aE w h W,aB c]=[.dat (aE w h W),.dat (aB c)]from rfl];refine bV (C9 (bF rfl (C6 f))) (dX ?_)
 have b:=lN (gi:=eW (aF aQ (eV 0) (eC (.int 2)))) (s:=cW 0) (t:=eB (aF cU (eV 0) (eV 1))) (ge:=eV 0) (inner:=[none,some 1]) (ρ:=[.dat (aE w h W),.dat (aB c)]) (xs:=(cells w h).filter W) aB (fun x => !(x == c)) aB (fun ρ=>∃ a,ρ=[a,.dat (aB c)]) (kA rfl rfl) (by lia) ⟨_,rfl⟩ (by
  rintro x _ ρ ⟨a,rfl⟩
  exact⟨[.dat (aB x),.dat (aB c)],rfl,⟨_,rfl⟩,oB (oo rfl rfl (MC x c)),fun _=>rfl⟩) rfl
 refine(vN rfl rfl (bF (cF b rfl) rfl)).trans ?_
 exact congrArg some (L3 w h (((cells w h).filter W).filter fun x => !(x == c)) (fun x=>W x && !(x == c)) (by rw [Y1];exact YC fun x _=>Jo _ _))
end My
namespace My
open PySem PySem.SeqAt L2 DL SD SL EL DC
def k4:List C->List C
 | []=>[]
 | a::r=>if a∈r then k4 r else a::k4 r
theorem xF{c:C}:∀{l:List C},c∈k4 l ↔ c∈l
 | []=>Iff.rfl
 | a::r=>by
  unfold k4;by_cases e:a∈r
  ·rw [if_pos e,xF,Qp]
   exact⟨.inr,fun q=>q.elim (fun z=>by rw [z];exact e) id⟩
  ·rw [if_neg e,Qp,Qp,xF]
theorem Bw:∀ l:List C,(k4 l).Nodup
 | []=>YS
 | a::r=>by
  unfold k4;by_cases e:a∈r
  ·rw [if_pos e];exact Bw r
  ·rw [if_neg e,Ye,xF];exact⟨e,Bw r⟩
theorem HL:∀ l:List C,(k4 l).length<=l.length
 | []=>Ql _
 | a::r=>by
  have:=HL r
  unfold k4;split
  ·rw [Qt];lia
  ·rw [Qt,Qt];lia
theorem A4:∀ l:List C,dd (l.map row)=(k4 l).map row
 | []=>rfl
 | a::r=>by
  rw [Qm];unfold dd k4
  have:row a∈r.map row ↔ a∈r:=by
   rw [<- YV,Ho,YV]
  by_cases e:a∈r
  ·rw [if_pos (this.mpr e),if_pos e,A4 r]
  ·rw [if_neg (fun z=>e (this.mp z)),if_neg e,A4 r,Qm]
def lA(w h:Nat)(W:C->Bool):List C:=(cells w h).filter fun c => !W c
theorem G9{w h:Nat}{W:C->Bool}{c:C}:c∈lA w h W ↔ bG w h c=true/\W c=false:=by
 unfold lA;rw [QW,iK,Yr]
theorem WV(w h:Nat)(W:C->Bool):Up (lA w h W):=mE (i7 w h) _
theorem IE{w h:Nat}(a:w<=5)(b:h<=5)(W:C->Bool):(lA w h W).length<=25:=
 QL (Q5 _ _) (by rw [oX];exact Jx a b)
theorem V6{l m:List C}{ga:aA->Option D}{ρ:aA}(b:l.length<=63)(a:Up m)(h:∀ c,c∈m ↔ c∈l)(d:ga ρ=some (.tuple (l.map aB))):o0 (m9 (aD ga aH)) ρ=some (.list (m.map aB)):=by
 have s:sX [.tuple (l.map aB)]=some (l.map row):=by
  show(if _ then _ else _)=_
  rw [if_pos (by rw [Qi];lia),y7]
 unfold o0 m9;rw [cF d rfl,Qe,s,Qe,A4,y8];exact zI (Bw l) (QL (HL l) b) a fun c=>(h c).trans xF.symm
theorem LG(l m:List C)(h:l.length+m.length<=1000):cG (.tuple (l.map aB)) (.tuple (m.map aB))=some (.tuple ((l++m).map aB)):=by
 show(if(l.map aB).length+(m.map aB).length<=1000 then _ else _)=_
 rw [if_pos (by rw [Qi,Qi];exact h),Yi]
section
variable {w h:Nat}{W:C->Bool}(hw:w<=5)(hh:h<=5){c:C}
include hw hh
theorem R5(d:bG w h c=true){ga gb:aA->Option D}{ρ:aA}(f:ga ρ=some (iP w h W))(e:gb ρ=some (aB c)):o0 (m9 (aD (aF cG ga (cO (aD gb aH))) aH)) ρ=some (.list (((cells w h).filter fun x=>W x || x == c).map aB)):=by
 have g:=rD hw hh W;refine V6 (l:=(cells w h).filter W++[c]) (by rw [Qd,Qx];lia) (mE (i7 w h) _) (fun x=>?_) ?_
 ·rw [QD,QW,QW,JV,beq_iff_eq,QJ];constructor
  ·rintro⟨b,a | a⟩
   ·exact .inl ⟨b,a⟩
   ·exact .inr a
  ·rintro(⟨b,a⟩ | rfl)
   ·exact⟨b,.inl a⟩
   ·exact⟨iK.mpr d,.inr rfl⟩
 ·exact oo f (MI e) (LG _ [c] (by rw [Qx];lia))
theorem yS(a:bG w h c=true):iC [aE w h W,aB c]=some (aE w h fun x=>W x || x == c):=by
 refine dW ?_;unfold BJ;rw [show c7 2 [aE w h W,aB c]=[.dat (aE w h W),.dat (aB c)]from rfl];refine bV (C9 (bF rfl (C6 a))) ?_;refine dX ?_;have m:=R5 (W:=W) hw hh a (ga:=aF aQ (eV 0) (eC (.int 2))) (gb:=eV 1) (ρ:=[.dat (aE w h W),.dat (aB c)]) rfl rfl;exact vN rfl rfl (bF (cF m rfl) rfl)
end
def cH:List C->List Cp
 | []=>[]
 | a::r=>(r.map fun b=>(a,b))++cH r
def at0(l:List C)(k:Nat):C:=l.getD k (0,0)
theorem IK:∀ l:List C,((List.range l.length).flatMap fun k=>(l.drop (k+1)).map fun b=>(at0 l k,b))=cH l
 | []=>rfl
 | a::r=>by
  rw [Qt,List.range_succ_eq_map,List.flatMap_cons,List.flatMap_map]
  show(r.map fun b=>(a,b))++_=(r.map fun b=>(a,b))++cH r
  rw [<- IK r];rfl
theorem qJ{x y:C}:∀{l:List C},Up l->((x,y)∈cH l ↔ x∈l/\y∈l/\fM x y=true)
 | [],_=>by simp [cH]
 | a::r,u=>by
  have i:=(Q6.mp u).1;have k:Up r:=(Q6.mp u).2;unfold cH;rw [QD,QO,qJ k];constructor
  ·rintro(⟨b,j,e⟩ | ⟨h,f,d⟩)
   ·cases e;exact⟨Qo,Qf _ j,i _ j⟩
   ·exact⟨Qf _ h,Qf _ f,d⟩
  ·rintro⟨h,f,d⟩
   rcases Qp.mp h with g | g
   ·subst g;rcases Qp.mp f with c | c
    ·subst c;rw [jO]at d;lia
    ·exact .inl ⟨y,c,rfl⟩
   ·rcases Qp.mp f with c | c
    ·subst c
     have:=i _ g
     rw [jO]at this d;lia
    ·exact .inr ⟨g,c,d⟩
theorem Bx:∀{l:List C},Up l->(cH l).Nodup
 | [],_=>YS
 | a::r,u=>by
  have d:=(Q6.mp u).1;have c:Up r:=(Q6.mp u).2;unfold cH;rw [List.nodup_append]
  refine⟨?_,Bx c,fun p g q f e=>?_⟩
  ·refine List.Pairwise.map _ (fun x y (n:x≠y) z=>n (Prod.mk.inj z).2) (rC c)
  ·subst e;obtain⟨b,h,e⟩:=QO.mp g;subst e
   have:=((qJ c).mp f).1
   have:=d _ this
   rw [jO]at this;lia
def sJ(l:List C)(k:Nat):D:=.tuple [.int (k:Int),aB (at0 l k)]
theorem MF(l:List C):kC 0 (l.map aB)=(List.range l.length).map (sJ l):=by
 refine List.ext_getElem? fun i=>?_;rw [By,QF,QF,QZ];by_cases c:i<l.length
 ·rw [List.getElem?_range c,Qk c]
  show some _=some (sJ l i)
  unfold sJ at0
  simp [List.getD,c]
 ·rw [YU (by lia),YU (by simpa using YW c)];rfl
theorem O5(l:List C)(k:Nat):cutD (l.map aB) (some ((k:Nat):Int)) none=(l.drop k).map aB:=by
 unfold cutD;rw [HT.sIx_nat,HT.sIx_none,Qi];by_cases c:k<=l.length
 ·rw [Nat.min_eq_left c,List.map_drop];exact YR (by simp)
 ·rw [Nat.min_eq_right (by lia),Jb (show l.length<=k by lia)];simp
theorem Bu{l:List C}(p:l.length<=25):lH [.list (l.map aB)]=some (.list ((cH l).map bA)):=by
 refine dW ?_;unfold Cv;rw [show c7 4 [.list (l.map aB)]=[.dat (.list (l.map aB)),.no,.no,.no]from rfl];refine bV (ρ':=[.dat (.list (l.map aB)),.own [],.no,.no]) rfl ?_
 have g:uX (aD (eV 0) aH) [.dat (.list (l.map aB)),.own [],.no,.no]=some ((List.range l.length).map (sJ l)):=by
  rw [<- MF];rfl
 refine bV (qX g (uU (sJ l) (fun(b:List Cp × Sl × Sl)=>[.dat (.list (l.map aB)),.own (b.1.map bA),b.2.1,b.2.2]) (fun b k=>(b.1++(l.drop (k+1)).map (fun b=>(at0 l k,b)),.dat (.int (k:Int)),.dat (aB (at0 l k)))) (fun i b=>b.1.length<=25 * i) 25 (List.range l.length) 0 ([],.no,.no) (by rw [Ym];lia) (Ql _) fun k _ i b q m=>?_)) ?_
 ·obtain⟨a,o,n⟩:=b;have j:a.length<=25 * i:=m
  have r:((l.drop (k+1)).map fun b=>(at0 l k,b)).length<=25:=by rw [Qi,Yb];lia
  refine⟨⟨[.dat (.list (l.map aB)),.own (a.map bA),.dat (.int (k:Int)),.dat (aB (at0 l k))],rfl,?_⟩,by show(a++_).length<=_;rw [Qd];lia⟩
  refine(Cm (ds:=a.map bA) (es:=((l.drop (k+1)).map fun b=>(at0 l k,b)).map bA) rfl (lN (xs:=l.drop (k+1)) aB (fun _=>true) (fun b=>bA (at0 l k,b)) (fun e=>∃ f,e=[f,.dat (aB (at0 l k))]) ?_ (by rw [Yb];lia) ⟨_,rfl⟩ ?_ ?_) (by rw [Qi,Qi];lia)).trans ?_
  ·show some (cutD (l.map aB) (some (((k:Nat):Int)+1)) none)=_
   rw [show((k:Nat):Int)+1=((k+1:Nat):Int)from rfl,O5]
  ·rintro b _ e ⟨f,rfl⟩
   exact⟨[.dat (aB b),.dat (aB (at0 l k))],rfl,⟨_,rfl⟩,rfl,fun _=>rfl⟩
  ·rw [uT,Yo];rfl
  ·show some (aW.nx _)=some (aW.nx _)
   rw [Yi];rfl
 ·refine dX ?_
  have d:∀(c:List Nat) (b:List Cp × Sl × Sl),(c.foldl (fun(b:List Cp × Sl × Sl) k=>(b.1++(l.drop (k+1)).map (fun b=>(at0 l k,b)),Sl.dat (.int (k:Int)),Sl.dat (aB (at0 l k)))) b).1=b.1++c.flatMap fun k=>(l.drop (k+1)).map fun b=>(at0 l k,b):=by
   intro c
   induction c with
   | nil=>intro b;simp
   | cons z c h=>intro b;rw [YF,h,List.flatMap_cons,<- QG]
  exact congrArg (fun x:List Cp=>some (Uj (x.map bA))) ((d (List.range l.length) ([],.no,.no)).trans ((JF _).trans (IK l)))
theorem xT:∀{l:List C}{n:Nat},l.length<=n->(cH l).length<=n * n
 | [],n,_=>Q9 _
 | a::r,0,h=>by simp at h
 | a::r,n+1,h=>by
  have b:r.length<=n:=by simpa using h
  have:=xT b
  unfold cH;rw [Qd,Qi]
  have:(n+1) * (n+1)=n * n+n+n+1:=by rw [Nat.add_mul,Nat.mul_add];lia
  lia
section
variable {w h:Nat}{W:C->Bool}(hw:w<=5)(hh:h<=5)
include hw hh
theorem OZ:kF [aE w h W]=some (.list (((cH (lA w h W)).filter fun p=>clear (aT w h W) p.1 p.2).map bA)):=by
 have m:hJ [iP w h W]=some (dJ w h W):=xD hw hh;have c:nJ [aE w h W]=some (.list ((lA w h W).map aB)):=ID hw hh;have j:=Bu (IE hw hh W);refine dW ?_;unfold Cy;rw [show c7 2 [aE w h W]=[.dat (aE w h W),.no]from rfl];refine bV (dY (bF rfl m)) ?_;refine dX (lN (xs:=cH (lA w h W)) bA (fun p=>clear (aT w h W) p.1 p.2) bA (fun a=>∃ b,a=[b,.dat (dJ w h W)]) (kA (d:=.list ((cH (lA w h W)).map bA)) (bF (cF (bF rfl c) rfl) j) rfl) (QL (xT (IE hw hh W)) (by decide)) ⟨_,rfl⟩ ?_ rfl);rintro p f a ⟨b,rfl⟩;obtain⟨i,g,_⟩:=(qJ (WV w h W)).mp (show(p.1,p.2)∈_ from f);have e:=KY (w:=w) (h:=h) (W:=W) (kB hw hh (G9.mp i).1 (G9.mp g).1);have l:aQ (bA p) (.int 0)=some (aB p.1):=rfl;have k:aQ (bA p) (.int 1)=some (aB p.2):=rfl
 exact⟨[.dat (bA p),.dat (dJ w h W)],rfl,⟨_,rfl⟩,oB (bF rfl e),fun _=>rfl⟩
end
end My
namespace My
open PySem PySem.SeqAt L2 DL SD SL EL DC
theorem MH{t u:aA->Option Bool}{ρ:aA}(h:t ρ=some true):m8 t u ρ=some true:=by
 unfold m8;rw [h];rfl
def lS(x m y:Int):Bool:=(decide (x<=m) && decide (m<=y)) || (decide (y<=m) && decide (m<=x))
theorem EI(x m y:Int):rK [.int x,.int m,.int y]=some (.bool (lS x m y)):=by
 refine dW (dX ?_)
 show((if decide (x<=m)=true then some (Zr (decide (m<=y)))else some (.bool false)).bind fun z=>(iW z).bind fun c=>if c=true then some (Zr true)else(if decide (y<=m)=true then some (Zr (decide (m<=x)))else some (.bool false)))=_
 unfold lS
 cases decide (x<=m) <;> cases decide (m<=y) <;> cases decide (y<=m) <;> cases decide (m<=x) <;> rfl
def eX(a b c:C):Bool:=lS a.1 c.1 b.1 && lS a.2 c.2 b.2 && decide (2 * eP ((b.1-a.1) * (c.2-a.2)-(b.2-a.2) * (c.1-a.1))<=eP (b.1-a.1)+eP (b.2-a.2))
theorem G5{a b:C}(n:eN a b)(c:C):nI [aB a,aB b,aB c]=some (.bool (eX a b c)):=by
 obtain⟨m,l,k,j⟩:=n;have b1:=EI a.1 c.1 b.1;have d:=EI a.2 c.2 b.2;have i:cK (.int (b.1-a.1)) (.int (c.2-a.2))=some (.int ((b.1-a.1) * (c.2-a.2))):=i4 (j3 (by lia) (by lia));have h:cK (.int (b.2-a.2)) (.int (c.1-a.1))=some (.int ((b.2-a.2) * (c.1-a.1))):=i4 (j3 (by lia) (by lia));have g:cK (.int 2) (.int (eP ((b.1-a.1) * (c.2-a.2)-(b.2-a.2) * (c.1-a.1))))=some (.int (2 * eP ((b.1-a.1) * (c.2-a.2)-(b.2-a.2) * (c.1-a.1)))):=i4 (j3 (by decide) (by decide));unfold eX;refine dW ?_;unfold CF;rw [show c7 6 [aB a,aB b,aB c]=[.dat (aB a),.dat (aB b),.dat (aB c),.no,.no,.no]from rfl]
 cases f:lS a.1 c.1 b.1 with
 | false=>rw [f]at b1;exact tW (nX (b:=true) (MH (oN (oB (bF rfl b1)))) (fun _=>rfl) fun z=>by cases z)
 | true=>
  rw [f]at b1
  cases e:lS a.2 c.2 b.2 with
  | false=>rw [e]at d;exact tW (nX (b:=true) (El (oN (oB (bF rfl b1))) (oN (oB (bF rfl d)))) (fun _=>rfl) fun z=>by cases z)
  | true=>
   rw [e]at d;refine bV (i5 (El (oN (oB (bF rfl b1))) (oN (oB (bF rfl d))))) (bV (dY rfl) (bV (dY rfl) (bV (dY (bF (cF (oo (oo rfl rfl i) (oo rfl rfl h) rfl) rfl) rfl)) (dX (oo (oo rfl rfl g) rfl rfl)))))
theorem Ss{w h:Nat}(d:w<=5)(e:h<=5){P:C->Bool}{p:Cp}(a:p∈cH ((cells w h).filter P)):bG w h p.1=true/\bG w h p.2=true:=by
 obtain⟨x,y⟩:=p;obtain⟨c,b,_⟩:=(qJ (mE (i7 w h) P)).mp a
 exact⟨iK.mp (QW.mp c).1,iK.mp (QW.mp b).1⟩
def cB(w h:Nat)(W:C->Bool)(c:C):List Cp:=(((cH ((cells w h).filter fun x => !(W x && !(x == c)))).filter fun p=>eX p.1 p.2 c).filter fun p=>bD (aT w h fun x=>W x && !(x == c)) p.1 p.2).filter fun p => !bD (aT w h fun x=>W x || x == c) p.1 p.2
theorem K8{w h:Nat}{W:C->Bool}{c:C}(a:w<=5)(b:h<=5)(k:bG w h c=true):oV [aE w h W,aB c]=some (.int ((cB w h W c).length:Int)):=by
 have r:=yT (W:=W) a b k;have q:=yS (W:=W) a b k;have m:=ID (w:=w) (h:=h) (W:=fun x=>W x && !(x == c)) a b;have o:hJ [iP w h fun x=>W x && !(x == c)]=some (dJ w h fun x=>W x && !(x == c)):=xD a b;have n:hJ [iP w h fun x=>W x || x == c]=some (dJ w h fun x=>W x || x == c):=xD a b;unfold cB;have l:((cells w h).filter fun x => !(W x && !(x == c))).length<=25:=QL (Q5 _ _) (by rw [oX];exact Jx a b);have s:=Bu l;have t:=xT l;have j:∀ p∈cH ((cells w h).filter fun x => !(W x && !(x == c))),bG w h p.1=true/\bG w h p.2=true:=fun p f=>Ss a b f;generalize cH ((cells w h).filter fun x => !(W x && !(x == c)))=i at *;have v:=Q5 (fun p:Cp=>eX p.1 p.2 c) i;have u:=Q5 (fun p:Cp=>bD (aT w h fun x=>W x && !(x == c)) p.1 p.2) (i.filter fun p:Cp=>eX p.1 p.2 c);refine dW ?_;unfold BI;rw [show c7 7 [aE w h W,aB c]=[.dat (aE w h W),.dat (aB c),.no,.no,.no,.no,.no]from rfl]
 refine bV (dY (bF rfl r)) (bV (dY (lN (xs:=i) bA (fun p=>eX p.1 p.2 c) bA (fun d=>∃ e,d=[e,.dat (aB c)]) (kA (bF (cF (bF rfl m) rfl) s) rfl) (by lia) ⟨_,rfl⟩ ?_ rfl))
  (bV (dY (bF rfl o)) (bV (dY (lN (xs:=i.filter fun p:Cp=>eX p.1 p.2 c) bA (fun p=>bD (aT w h fun x=>W x && !(x == c)) p.1 p.2) bA (fun d=>∃ e,d=[e,.dat (dJ w h fun x=>W x && !(x == c))]) (kA rfl rfl) (by lia) ⟨_,rfl⟩ ?_ rfl))
  (bV (dY (bF (cF (oo (bF rfl q) rfl rfl) rfl) n)) (dX (bF (cF (lN (xs:=(i.filter fun p:Cp=>eX p.1 p.2 c).filter fun p=>bD (aT w h fun x=>W x && !(x == c)) p.1 p.2) bA (fun p => !bD (aT w h fun x=>W x || x == c) p.1 p.2) bA (fun d=>∃ e,d=[e,.dat (dJ w h fun x=>W x || x == c)]) (kA rfl rfl) (by lia) ⟨_,rfl⟩ ?_ rfl) rfl) ?_))))))
 ·rintro p f d ⟨e,rfl⟩;have g:=j p f
  exact⟨[.dat (bA p),.dat (aB c)],rfl,⟨_,rfl⟩,oB (bF rfl (G5 (kB a b g.1 g.2) c)),fun _=>rfl⟩
 ·rintro p f d ⟨e,rfl⟩;have g:=j p (QW.mp f).1
  exact⟨[.dat (bA p),.dat (dJ w h fun x=>W x && !(x == c))],rfl,⟨_,rfl⟩,oB (bF rfl (Cj a b g.1 g.2)),fun _=>rfl⟩
 ·rintro p f d ⟨e,rfl⟩;have g:=j p (QW.mp (QW.mp f).1).1
  exact⟨[.dat (bA p),.dat (dJ w h fun x=>W x || x == c)],rfl,⟨_,rfl⟩,oN (oB (bF rfl (Cj a b g.1 g.2))),fun _=>rfl⟩
 ·show some (J9 ((List.map bA _).length:Int))=_
  rw [Qi]
end My
namespace My
open PySem PySem.SeqAt L2 DL OB SD SL EL DC
section
variable {B:Type}{ρ ρ':aA}{Ω Ω1 Ω2:List B}{d x y:D}{ds:List D}{ga gb:GX B D}{gr:GX B (List D)}{t u:GX B Bool}{g g1 g2:GS B}{j i:Nat}{b:B}
theorem rP{b:Type}{a:b}{g:aA->Option b}(h:g ρ=some a):xP g ρ Ω=some (a,Ω):=by
 unfold xP;rw [h];rfl
theorem C4{G:GM B}{gr:aA->Option (List D)}{r:D × B}(d:gr ρ=some ds)(c:Ω[j]?=some b)(a:G (none::ds.map some) b=some r):bJ j G gr ρ Ω=some (r.1,Ω.set j r.2):=by
 unfold bJ;rw [d,Qe,c,Qe,a];rfl
theorem fN{f:D->D->Option D}(c:ga ρ Ω=some (x,Ω1))(b:gb ρ Ω1=some (y,Ω2))(a:f x y=some d):bQ f ga gb ρ Ω=some (d,Ω2):=by
 unfold bQ;rw [c,Qe];dsimp only;rw [b,Qe];dsimp only;rw [a];rfl
theorem rB{k:Bool}(h:ga ρ Ω=some (.bool k,Ω1)):xB ga ρ Ω=some (k,Ω1):=by
 unfold xB;rw [h];rfl
theorem Eu{r:Option (Bool × List B)}(h:t ρ Ω=some (false,Ω1))(a:u ρ Ω1=r):oO t u ρ Ω=r:=by
 unfold oO;rw [h];exact a
theorem Nz{k:Bool}(h:t ρ Ω=some (k,Ω1)):v3 t ρ Ω=some (!k,Ω1):=by
 unfold v3;rw [h];rfl
theorem pX{r:Option (D × List B)}(h:ga ρ Ω=some (.bool true,Ω1))(a:gb ρ Ω1=r):hY ga gb ρ Ω=r:=by
 unfold hY;rw [h];exact a
theorem gO(h:ga ρ Ω=some (d,Ω1))(a:gr ρ Ω1=some (ds,Ω2)):cI ga gr ρ Ω=some (d::ds,Ω2):=by
 unfold cI;rw [h,Qe];dsimp only;rw [a];rfl
theorem c8{r:Option (jW B)}(h:g1 ρ Ω=some (.nx ρ' Ω1))(a:g2 ρ' Ω1=r):bM g1 g2 ρ Ω=r:=by
 unfold bM;rw [h];exact a
theorem j4(h:ga ρ Ω=some (d,Ω1)):eS i ga ρ Ω=some (.nx (ρ.set i (.dat d)) Ω1):=by
 unfold eS;rw [h];rfl
theorem zU(h:ga ρ Ω=some (d,Ω1)):mF ga ρ Ω=some (.nx ρ Ω1):=by
 unfold mF;rw [h];rfl
theorem p7(h:ga ρ Ω=some (d,Ω1)):dM ga ρ Ω=some (.rt d Ω1):=by
 unfold dM;rw [h];rfl
theorem lO(h:t ρ Ω=some (false,Ω1)):cR t g1 eL ρ Ω=some (.nx ρ Ω1):=by
 unfold cR;rw [h];rfl
theorem tE{r:Option (jW B)}(h:t ρ Ω=some (true,Ω1))(a:g1 ρ Ω1=r):cR t g1 g2 ρ Ω=r:=by
 unfold cR;rw [h];exact a
theorem AZ{r:Option (jW B)}(h:t ρ Ω=some (false,Ω1))(a:g2 ρ Ω1=r):cR t g1 g2 ρ Ω=r:=by
 unfold cR;rw [h];exact a
theorem Oy(h:gr ρ Ω=some (ds,Ω1))(a:ds.length<=1000):v5 i gr ρ Ω=some (.nx (ρ.set i (.own ds)) Ω1):=by
 unfold v5;rw [h,Qe,if_pos a]
theorem Ox(b:ρ[i]?=some (.own ds))(h:ga ρ Ω=some (d,Ω1))(a:ds.length<1000):p8 i ga ρ Ω=some (.nx (ρ.set i (.own (ds++[d]))) Ω1):=by
 unfold p8;rw [b]
 show(ga ρ Ω).bind _=_
 rw [h,Qe,if_pos a]
theorem AY{gi:aA->Option (List D)}{xs:List D}{r:Option (jW B)}(h:gi ρ=some xs)(a:n3 i g xs ρ Ω=r):p9 gi i g ρ Ω=r:=by
 unfold p9;rw [h];exact a
theorem KF(f:Nat->D)(St:Nat->aA->List B->Prop)(m:Nat)(hs:∀ n ρ Ω,n<m->St n ρ Ω->∃ ρ' Ω',g (ρ.set i (.dat (f n))) Ω=some (.nx ρ' Ω')/\St (n+1) ρ' Ω'):∀(k a:Nat) (ρ:aA) (Ω:List B),a+k=m->St a ρ Ω->∃ ρ' Ω',n3 i g ((List.range' a k).map f) ρ Ω=some (.nx ρ' Ω')/\St m ρ' Ω'
 | 0,a,ρ,Ω,e,h=>⟨ρ,Ω,rfl,by rw [<- e];exact h⟩
 | k+1,a,ρ,Ω,e,h=>by
  obtain⟨c,j,q,o⟩:=hs a ρ Ω (by lia) h;obtain⟨b,d,p,l⟩:=KF f St m hs k (a+1) c j (by lia) o
  refine⟨b,d,?_,l⟩
  rw [List.range'_succ,Qm];unfold n3;rw [q];exact p
theorem RN{n:Nat}{os:List (Option D)}{b':B}{Ω:List B}(a:os[j]?=some none)(h:g (iN n os) [b]=some (.nx ρ (b'::Ω))):jF j n g os b=some (.none,b'):=by
 unfold jF;rw [a];dsimp only;rw [h]
theorem yE{n:Nat}{os:List (Option D)}{b':B}{Ω:List B}(a:os[j]?=some none)(h:g (iN n os) [b]=some (.rt d (b'::Ω))):jF j n g os b=some (d,b'):=by
 unfold jF;rw [a];dsimp only;rw [h]
end
structure Sh(d:D):Prop where
 l:d.canLay0=true
 d:d.depth<=9
theorem Sh.shaped{d:D}(h:Sh d):ZC d=true:=by
 have:=h.d
 have e:decide (d.depth<=64)=true:=decide_eq_true (by lia);unfold ZC;rw [h.l,e];rfl
theorem Hh{d:D}(h:ZC d=true):cU d d=some (.bool false):=by
 unfold cU;rw [h,SeqAt.eqv_refl d (SeqAt.canLay_of_shaped h)];rfl
theorem RC{d:D}(h:ZC d=true):eA d d=some (.bool true):=by
 unfold eA;rw [h,SeqAt.eqv_refl d (SeqAt.canLay_of_shaped h)];rfl
def Fl(f:D):Prop:=∃(w h:Nat) (W:C->Bool),1<=w/\w<=4/\1<=h/\h<=4/\f=aE w h W
theorem Fl.sh{f:D}(h:Fl f):Sh f:=by
 obtain⟨w,h,W,_,_,_,_,rfl⟩:=h;obtain⟨a,b⟩:=B4 ((cells w h).filter W)
 refine⟨?_,?_⟩
 ·show(true && (true && (Zt (((cells w h).filter W).map aB) && true)))=true
  rw [a];rfl
 ·show max 0 (max 0 (max (Zx (((cells w h).filter W).map aB)+1) 0))+1<=9
  lia
theorem rR{f wd fl:D}{dn ud:List D}(h:dn.length<1000):lG [none,some wd,some fl] (f,dn,ud)=some (.none,(fl,dn++[.tuple [wd,f]],[])):=if_pos h
section
variable {w h:Nat}{W:C->Bool}{c:C}(hw:w<=5)(hh:h<=5)(hc:bG w h c=true){dn ud:List D}(hd:dn.length<1000)
include hw hh hc hd
end
section
variable {w h:Nat}{W:C->Bool}(hw:w<=5)(hh:h<=5){dn ud:List D}(hd:dn.length<1000)
include hw hh hd
theorem Hb:mH [none] (aE w h W,dn,ud)=some (.none,(aE w h fun c=>W (mir (w-1) c),dn++[.tuple [.str "mirror",aE w h W]],[])):=by
 unfold mH;dsimp only;rw [Tm hw hh,Qe,rR hd];rfl
theorem FP:mG [none] (aE w h W,dn,ud)=some (.none,(aE h w fun c=>W (swp c),dn++[.tuple [.str "flip",aE w h W]],[])):=by
 unfold mG;dsimp only;rw [RL hw hh,Qe,rR hd];rfl
end
end My
namespace My
open PySem PySem.SeqAt L2 DL SD SL EL DC
def lF:List C->List C
 | g::h::r=>if dH g h=true then(g.1,h.2)::(h.1,g.2)::lF (h::r)else lF (h::r)
 | _=>[]
theorem CJ(g h:C)(r:List C):lF (g::h::r)=if dH g h=true then(g.1,h.2)::(h.1,g.2)::lF (h::r)else lF (h::r):=rfl
theorem CV{S T:C->Bool}:∀{l:List C},(∀ g∈lF l,S g=T g)->fB S l=fB T l
 | [],_=>rfl
 | [a],_=>rfl
 | a::b::l,h=>by
  rw [CJ]at h;rw [kE,kE];by_cases d:dH a b=true
  ·rw [if_pos d]at h;rw [CV (l:=b::l) fun g c=>h g (Qf _ (Qf _ c)),h _ Qo,h _ (Qf _ Qo)]
  ·rw [if_neg d]at h;rw [Uz]at d;rw [CV (l:=b::l) h,d];rfl
theorem Kl(a:C):∀ l:List C,lF (l.map (mZ a))=(lF l).map (mZ a)
 | []=>rfl
 | [x]=>rfl
 | x::y::l=>by
  have b:=Kl a (y::l);rw [Qm]at b;rw [Qm,Qm,CJ,CJ,b]
  have d:dH (mZ a x) (mZ a y)=dH x y:=by
   unfold dH mZ;dsimp only;rw [Yu];simp only [QH,Yr,beq_eq_false_iff_ne,ne_eq];lia
  rw [d];by_cases c:dH x y=true
  ·rw [if_pos c,if_pos c];rfl
  ·rw [if_neg c,if_neg c]
theorem R6:(pZ.all fun a=>pZ.all fun b=>(eY a b++lF (eY a b)).all fun g=>eX (0,0) (a,b) g)=true:=by decide +kernel
theorem R9(a b g:C):eX a b (mZ a g)=eX (0,0) (b.1-a.1,b.2-a.2) g:=by
 have k:∀ x y z:Int,lS x (x+y) z=lS 0 y (z-x):=fun x y z=>by
  unfold lS;congr 2
  ·exact decide_eq_decide.mpr (by lia)
  ·exact decide_eq_decide.mpr (by lia)
  ·exact decide_eq_decide.mpr (by lia)
  ·exact decide_eq_decide.mpr (by lia)
 unfold eX mZ;dsimp only;rw [k,k,show a.2+g.2-a.2=g.2-0 by lia,show a.1+g.1-a.1=g.1-0 by lia,Int.sub_zero (b.1-a.1),Int.sub_zero (b.2-a.2)]
theorem B9{a b c:C}(n:eN a b)(h:c∈line a b++lF (line a b)):eX a b c=true:=by
 unfold line at h;rw [Kl,<- Yi]at h;obtain⟨g,d,rfl⟩:=QO.mp h;rw [R9];exact Q8.mp (Q8.mp (Q8.mp R6 _ (xI n.x0 n.x1)) _ (xI n.y0 n.y1)) g d
theorem Wy{S T:C->Bool}{a b:C}(n:eN a b)(h:∀ g,eX a b g=true->S g=T g):bD S a b=bD T a b:=by
 rw [nY n,nY n,CV fun g e=>h g (B9 n (Qv _ e))];congr 1;rw [Yu,Q8,Q8];constructor
 ·intro q c d;rw [<- h c (B9 n (QY _ d))];exact q c d
 ·intro q c d;rw [h c (B9 n (QY _ d))];exact q c d
theorem Wz{S T:C->Bool}{a b:C}(h:∀ c,T c=true->S c=true)(q:bD S a b=true):bD T a b=true:=by
 unfold bD at q ⊢;rw [QH,Yr]at q ⊢
 refine⟨?_,OU h q.2⟩
 cases e:T b with
 | false=>rfl
 | true=>rw [h _ e]at q;cases q.1
theorem BC(P:C->Bool):∀ l:List C,cH (l.filter P)=(cH l).filter fun p=>P p.1 && P p.2
 | []=>rfl
 | a::r=>by
  have c:=BC P r;rw [show cH (a::r)=(r.map fun b=>(a,b))++cH r from rfl,List.filter_append,<- c,List.filter_map]
  cases q:P a with
  | true=>
   rw [Y5 q]
   show((r.filter P).map fun b=>(a,b))++cH (r.filter P)=_
   congr 2
   exact YC fun x _=>by show P x=(P a && P x);rw [q];rfl
  | false=>
   rw [YL (by rw [q];decide),show r.filter ((fun p:Cp=>P p.1 && P p.2) ∘ fun b=>(a,b))=[]from List.filter_eq_nil_iff.mpr fun x _=>by show ¬(P a && P x)=true;rw [q];exact Qq];rfl
def wm(W:C->Bool)(c:C):C->Bool:=fun x=>W x && !(x == c)
def wp(W:C->Bool)(c:C):C->Bool:=fun x=>W x || x == c
theorem yU{W:C->Bool}{c:C}(h:W c=false):wm W c=W:=by
 funext x
 unfold wm
 cases e:x == c with
 | false=>rw [Jr,Jp]
 | true=>rw [beq_iff_eq.mp e,h];rfl
theorem yV{W:C->Bool}{c:C}(h:W c=true):wp W c=W:=by
 funext x
 unfold wp
 cases e:x == c with
 | false=>rw [Bool.or_false]
 | true=>rw [beq_iff_eq.mp e,h];rfl
theorem KL(W:C->Bool)(c:C):wm W c c=false:=by unfold wm;rw [beq_self_eq_true,Yf,JP]
theorem CO(W:C->Bool)(c:C):wp W c c=true:=by unfold wp;rw [beq_self_eq_true,Bool.or_true]
theorem KN(W:C->Bool)(c:C):wp (wm W c) c=wp W c:=by
 funext x
 show((W x && !(x == c)) || x == c)=(W x || x == c)
 cases x == c <;> cases W x <;> rfl
theorem KM(W:C->Bool)(c:C):wm (wp W c) c=wm W c:=by
 funext x
 show((W x || x == c) && !(x == c))=(W x && !(x == c))
 cases x == c <;> cases W x <;> rfl
theorem OA(W:C->Bool)(c:C):wm (wm W c) c=wm W c:=yU (KL W c)
theorem KO(W:C->Bool)(c:C):wp (wp W c) c=wp W c:=yV (CO W c)
def vis(w h:Nat)(W:C->Bool):List Cp:=(cH (cells w h)).filter fun p=>bD (aT w h W) p.1 p.2
theorem t8(w h:Nat)(W:C->Bool):(vis w h W).Nodup:=(Bx (i7 w h)).sublist List.filter_sublist
theorem yG{w h:Nat}{p:Cp}(a:p∈cH (cells w h)):bG w h p.1=true/\bG w h p.2=true:=by
 obtain⟨x,y⟩:=p;obtain⟨c,b,_⟩:=(qJ (i7 w h)).mp a
 exact⟨iK.mp c,iK.mp b⟩
section
variable {w h:Nat}(hw:w<=5)(hh:h<=5){W:C->Bool}{c:C}
include hw hh
theorem KU{p:Cp}(c:p∈cH (cells w h))(q:bD (aT w h W) p.1 p.2=true):W p.1=false/\W p.2=false:=by
 obtain⟨b,a⟩:=yG c;have n:=kB hw hh b a;constructor
 ·cases e:W p.1 with
  | false=>rfl
  | true=>rw [VJ n (by rw [t0 hw hh b];exact e)]at q;cases q
 ·unfold bD at q;rw [t0 hw hh a,QH,Yr]at q;exact q.1
theorem WX:((cH (lA w h W)).filter fun p=>clear (aT w h W) p.1 p.2)=vis w h W:=by
 unfold lA vis;rw [BC,Y1];refine YC fun p a=>?_
 cases e:bD (aT w h W) p.1 p.2 with
 | true=>
  obtain⟨c,b⟩:=KU hw hh a e;unfold bD at e;rw [QH]at e;rw [e.2,c,b];rfl
 | false=>
  obtain⟨f,d⟩:=yG a;unfold bD at e;rw [t0 hw hh d]at e
  cases q:W p.2 with
  | true=>rw [Yf,JP,JP]
  | false=>rw [q,Jr,JJ]at e;rw [e];rfl
theorem tY{p:Cp}(q:bD (aT w h (wp W c)) p.1 p.2=true):bD (aT w h (wm W c)) p.1 p.2=true:=by
 refine Wz (fun x a=>?_) q;unfold aT wm at a;unfold aT wp;rw [QH,QH]at a;rw [a.1,a.2.1];rfl
theorem De{p:Cp}(b:p∈cH (cells w h))(d:eX p.1 p.2 c=false):bD (aT w h (wm W c)) p.1 p.2=bD (aT w h (wp W c)) p.1 p.2:=by
 obtain⟨i,f⟩:=yG b;refine Wy (kB hw hh i f) fun g a=>?_
 have:(g == c)=false:=by
  cases e:g == c with
  | false=>rfl
  | true=>rw [beq_iff_eq.mp e,d]at a;cases a
 unfold aT wm wp;rw [this,Jr,Jp,Bool.or_false]
theorem mB:cB w h W c=(cH (cells w h)).filter fun p=>bD (aT w h (wm W c)) p.1 p.2 && !bD (aT w h (wp W c)) p.1 p.2:=by
 unfold cB;rw [BC,Y1,Y1,Y1];refine YC fun p a=>?_
 show(!bD (aT w h (wp W c)) p.1 p.2 && bD (aT w h (wm W c)) p.1 p.2 && eX p.1 p.2 c && (!wm W c p.1 && !wm W c p.2))=_
 cases e:bD (aT w h (wm W c)) p.1 p.2 with
 | false=>rw [JP];rfl
 | true=>
  obtain⟨d,b⟩:=KU hw hh a e;rw [d,b,Jp,JJ]
  cases m:eX p.1 p.2 c with
  | true=>show(_ && true && true)=_;rw [Jp,Jp]
  | false=>rw [<- De hw hh a m,e];rfl
theorem WY:(vis w h (wm W c)).length=(vis w h (wp W c)).length+(cB w h W c).length:=by
 rw [mB hw hh]
 have d:vis w h (wp W c)=(vis w h (wm W c)).filter fun p=>bD (aT w h (wp W c)) p.1 p.2:=by
  unfold vis;rw [Y1];refine YC fun p _=>?_
  cases e:bD (aT w h (wp W c)) p.1 p.2 with
  | false=>rfl
  | true=>rw [tY hw hh e];rfl
 have b:((cH (cells w h)).filter fun p=>bD (aT w h (wm W c)) p.1 p.2 && !bD (aT w h (wp W c)) p.1 p.2)=(vis w h (wm W c)).filter fun p => !bD (aT w h (wp W c)) p.1 p.2:=by
  unfold vis;rw [Y1];exact YC fun p _=>Jo _ _
 rw [d,b];generalize vis w h (wm W c)=l
 induction l with
 | nil=>rfl
 | cons x l a=>
  cases q:bD (aT w h (wp W c)) x.1 x.2 with
  | true=>rw [Y5 (p:=fun p:Cp=>bD (aT w h (wp W c)) p.1 p.2) q,YL (p:=fun p:Cp => !bD (aT w h (wp W c)) p.1 p.2) (by rw [q];decide),Qt,Qt,a];lia
  | false=>rw [YL (p:=fun p:Cp=>bD (aT w h (wp W c)) p.1 p.2) (by rw [q];decide),Y5 (p:=fun p:Cp => !bD (aT w h (wp W c)) p.1 p.2) (by rw [q];rfl),Qt,Qt,a];lia
end
theorem Hd{l m:List Cp}(b:l.Nodup)(a:m.Nodup)(h:∀ p,p∈l ↔ p∈m):l.Perm m:=(List.perm_ext_iff_of_nodup b a).mpr h
theorem Kw{p q:C}(h:p≠q):fM (two p q).1 (two p q).2=true:=by
 unfold two
 cases e:fM q p with
 | true=>rw [if_pos rfl];exact e
 | false=>
  rw [if_neg Qq]
  cases c:fM p q with
  | true=>rfl
  | false=>
   refine absurd ?_ h
   have a:¬ (fM q p=true):=by rw [e];decide
   have b:¬ (fM p q=true):=by rw [c];decide
   rw [jO]at a b;exact Jk (by lia) (by lia)
theorem zN{p q:C}(h:fM p q=true):two p q=(p,q)/\two q p=(p,q):=by
 have e:fM q p=false:=by
  cases e:fM q p with
  | false=>rfl
  | true=>rw [jO]at h e;lia
 unfold two;rw [h,e]
 exact⟨rfl,rfl⟩
theorem pF(p q:C):two p q=(p,q) ∨ two p q=(q,p):=by
 unfold two;split
 ·exact .inr rfl
 ·exact .inl rfl
theorem KW{w h:Nat}(a:w<=5)(d:h<=5){W:C->Bool}{p q:C}(c:bG w h p=true)(b:bG w h q=true):bD (aT w h W) (two p q).1 (two p q).2=bD (aT w h W) p q:=by
 rcases pF p q with e | e
 ·rw [e]
 ·rw [e];exact KT (kB a d b c)
theorem KB{w h r h':Nat}{W W':C->Bool}(N:w<=5)(R:h<=5)(B:r<=5)(F:h'<=5)(f g:C->C)(s:∀ c,g (f c)=c)(d:∀ c,f (g c)=c)(A:∀ c,bG r h' (f c)=bG w h c)
  (fs:∀ a b,bG w h a=true->bG w h b=true->bD (aT r h' W') (f a) (f b)=bD (aT w h W) a b):(vis w h W).length=(vis r h' W').length:=by
 have t:∀{w h:Nat}{W:C->Bool}{p:Cp},p∈vis w h W ↔ bG w h p.1=true/\bG w h p.2=true/\fM p.1 p.2=true/\bD (aT w h W) p.1 p.2=true:=fun{w h W p}=>by
  unfold vis;rw [QW,show p∈cH (cells w h) ↔ _ from qJ (x:=p.1) (y:=p.2) (i7 w h),iK,iK]
  exact⟨fun q=>⟨q.1.1,q.1.2.1,q.1.2.2,q.2⟩,fun q=>⟨⟨q.1,q.2.1,q.2.2.1⟩,q.2.2.2⟩⟩
 have J:∀{a b:C},fM a b=true->f a≠f b:=fun{a b} q e=>by
  have e:a=b:=by rw [<- s a,e,s]
  rw [e,jO]at q;lia
 have o:∀ p:Cp,fM p.1 p.2=true->two (g (two (f p.1) (f p.2)).1) (g (two (f p.1) (f p.2)).2)=p:=fun p m=>by
  rcases pF (f p.1) (f p.2)with e | e
  ·rw [e,s,s];exact(zN m).1
  ·rw [e,s,s];exact(zN m).2
 have K:((vis w h W).map fun p=>two (f p.1) (f p.2)).Nodup:=by
  have k:∀ l:List Cp,(∀ p∈l,fM p.1 p.2=true)->l.Nodup->(l.map fun p=>two (f p.1) (f p.2)).Nodup:=fun l=>by
   induction l with
   | nil=>intro _ _;exact YS
   | cons x l M=>
    intro E n;rw [Ye]at n;rw [Qm,Ye]
    refine⟨fun Q=>?_,M (fun p m=>E p (Qf _ m)) n.2⟩
    obtain⟨y,H,e⟩:=QO.mp Q;have b1:=o x (E x Qo);have I:=o y (E y (Qf _ H));rw [e,b1]at I;rw [I]at n;exact n.1 H
  exact k _ (fun p m=>(t.mp m).2.2.1) (t8 w h W)
 rw [<- Qi (f:=fun p:Cp=>two (f p.1) (f p.2))]
 refine(Hd K (t8 r h' W') fun q=>?_).length_eq
 rw [QO];constructor
 ·rintro⟨p,m,rfl⟩
  obtain⟨z,v,u,G⟩:=t.mp m;have j:bG r h' (f p.1)=true:=(A _).trans z;have i:bG r h' (f p.2)=true:=(A _).trans v;refine t.mpr ⟨?_,?_,Kw (J u),?_⟩
  ·rcases pF (f p.1) (f p.2)with e | e <;> rw [e]
   ·exact j
   ·exact i
  ·rcases pF (f p.1) (f p.2)with e | e <;> rw [e]
   ·exact i
   ·exact j
  ·rw [KW B F j i,fs _ _ z v];exact G
 ·intro O;obtain⟨z,v,u,G⟩:=t.mp O
  have j:bG w h (g q.1)=true:=by rw [<- A,d];exact z
  have i:bG w h (g q.2)=true:=by rw [<- A,d];exact v
  have S:g q.1≠g q.2:=fun e=>by
   have e:q.1=q.2:=by rw [<- d q.1,e,d]
   rw [e,jO]at u;lia
  refine⟨two (g q.1) (g q.2),t.mpr ⟨?_,?_,Kw S,?_⟩,?_⟩
  ·rcases pF (g q.1) (g q.2)with e | e <;> rw [e]
   ·exact j
   ·exact i
  ·rcases pF (g q.1) (g q.2)with e | e <;> rw [e]
   ·exact i
   ·exact j
  ·rw [KW N R j i,<- fs _ _ j i,d,d];exact G
  ·rcases pF (g q.1) (g q.2)with e | e
   ·rw [e,d,d];exact(zN u).1
   ·rw [e,d,d];exact(zN u).2
end My
namespace My
open PySem PySem.SeqAt L2 DL OB SD SL EL DC KP
section
variable {B:Type}{ρ ρ':aA}{Ω Ω1:List B}{d:D}{ds:List D}{ga:GX B D}{gr:GX B (List D)}{g:GS B}{i j:Nat}{b b':B}
theorem CN{c:Type}(item:c->D)(St:List c->aA->List B->Prop):∀(xs pre:List c) (ρ:aA) (Ω:List B),(∀ pre' x post ρ Ω,pre++xs=pre'++x::post->St pre' ρ Ω->∃ ρ' Ω',g (ρ.set i (.dat (item x))) Ω=some (.nx ρ' Ω')/\St (pre'++[x]) ρ' Ω')->St pre ρ Ω->∃ ρ' Ω',n3 i g (xs.map item) ρ Ω=some (.nx ρ' Ω')/\St (pre++xs) ρ' Ω'
 | [],pre,ρ,Ω,_,h=>⟨ρ,Ω,rfl,by rw [QR];exact h⟩
 | x::xs,pre,ρ,Ω,hs,h=>by
  obtain⟨b,f,m,k⟩:=hs pre x xs ρ Ω rfl h;obtain⟨a,d,l,j⟩:=CN item St xs (pre++[x]) b f (fun pre' y post ρ Ω e=>hs pre' y post ρ Ω (by rw [<- e,QG];rfl)) k
  refine⟨a,d,?_,by rw [QG]at j;exact j⟩
  rw [Qm];unfold n3;rw [m];exact l
theorem tV{get:B->Option D}(c:Ω[j]?=some b)(a:get b=some d):iQ j get ρ Ω=some (d,Ω):=by
 unfold iQ;rw [c,Qe,a];rfl
theorem l8{G:List D->Option D}(b:gr ρ Ω=some (ds,Ω1))(a:G ds=some d):eK G gr ρ Ω=some (d,Ω1):=by
 unfold eK;rw [b,Qe];dsimp only;rw [a];rfl
theorem Ir{G:GM B}{b0:B}{r:D × B}(e:Ω[j]?=some b0)(d:gr ρ Ω=some (ds,Ω1))(c:Ω1[j]?=some b)(a:G (none::ds.map some) b=some r):t9 j G gr ρ Ω=some (r.1,Ω1.set j r.2):=by
 unfold t9;rw [e,Qe,d,Qe];dsimp only;rw [c,Qe,a];rfl
theorem KC{a:B->D->Option B}(f:ga ρ Ω=some (d,Ω1))(e:Ω1[j]?=some b)(c:a b d=some b'):qD j a ga ρ Ω=some (.nx ρ (Ω1.set j b')):=by
 unfold qD;rw [f,Qe];dsimp only;rw [e,Qe,c];rfl
end
def ck(p:Cp):CK:=[row p.1,row p.2]
theorem OG(p:Cp):k5 (bA p)=some (ck p):=id rfl
theorem Bs{p q:Cp}(h:ck p=ck q):p=q:=by
 obtain⟨b,a⟩:=List.cons.inj h;exact Jk (nW b) (nW (List.cons.inj a).1)
theorem B8{p:Cp}{ps:List Cp}:ck p∈ps.map ck ↔ p∈ps:=by
 rw [QO]
 exact⟨fun⟨q,hq,e⟩=>by rw [<- Bs e];exact hq,fun h=>⟨p,h,rfl⟩⟩
theorem FG(p:Cp):∀ ps:List Cp,(ps.map ck).erase (ck p)=(ps.erase p).map ck
 | []=>rfl
 | a::l=>by
  rw [Qm,List.erase_cons,List.erase_cons];by_cases c:a=p
  ·subst c;rw [if_pos (beq_self_eq_true _),if_pos (beq_self_eq_true _)]
  ·rw [if_neg (fun q=>c (Bs (beq_iff_eq.mp q))),if_neg (fun q=>c (beq_iff_eq.mp q)),FG p l];rfl
def e7(ps:List Cp)(p:Cp):List Cp:=if p∈ps then ps.erase p else ps++[p]
theorem Sr{ps:List Cp}(h:ps.Nodup)(p:Cp):(e7 ps p).Nodup:=by
 unfold e7;split
 ·exact h.erase p
 ·rename_i c;rw [List.nodup_append]
  refine⟨h,Ye.mpr ⟨Jv,YS⟩,fun a d b f e=>?_⟩
  rw [e,QJ.mp f]at d;exact c d
theorem Tj{ps:List Cp}(h:ps.Nodup){p q:Cp}:q∈e7 ps p ↔ (q=p/\p∉ps) ∨ (q≠p/\q∈ps):=by
 unfold e7;by_cases c:p∈ps
 ·rw [if_pos c,h.mem_erase_iff]
  exact⟨fun q=>.inr q,fun q=>q.elim (fun z=>absurd c z.2) id⟩
 ·rw [if_neg c,QD,QJ];by_cases e:q=p
  ·exact⟨fun _=>.inl ⟨e,c⟩,fun _=>.inr e⟩
  ·exact⟨fun z=>.inr ⟨e,z.elim id fun z=>absurd z e⟩,fun z=>.inl (z.elim (fun z=>absurd z.1 e) fun z=>z.2)⟩
theorem Co:∀(ch ps:List Cp),ps.Nodup->ch.Nodup->(ch.foldl e7 ps).Nodup/\∀ q,q∈ch.foldl e7 ps ↔ (q∈ps/\q∉ch) ∨ (q∉ps/\q∈ch)
 | [],ps,h,_=>⟨h,fun q=>⟨fun z=>.inl ⟨z,Jv⟩,fun z=>z.elim (fun z=>z.1) fun z=>nomatch z.2⟩⟩
 | p::ch,ps,h,hc=>by
  obtain⟨b,a⟩:=Ye.mp hc;obtain⟨f,d⟩:=Co ch (e7 ps p) (Sr h p) a
  refine⟨f,fun q=>(d q).trans ?_⟩
  rw [Tj h,Qp];by_cases e:q=p
  ·subst e;by_cases c:q∈ps
   ·simp [c,b]
   ·simp [c,b]
  ·simp [e]
theorem SV(ps:List Cp)(p:Cp):(e7 ps p).length<=ps.length+1:=by
 unfold e7;split
 ·exact QL List.length_erase_le (Nat.le_succ _)
 ·rw [Qd];exact Ql _
theorem HM:∀(ch ps:List Cp),(ch.foldl e7 ps).length<=ps.length+ch.length
 | [],ps=>Ql _
 | p::ch,ps=>by
  have:=HM ch (e7 ps p)
  have:=SV ps p
  rw [YF,Qt];lia
theorem WK{f:D}{n:Int}{ps ch:List Cp}(t:ps.length+ch.length<1000):tF [none,some (.list (ch.map bA))] (f,ps.map ck,n)=some (.none,(f,(ch.foldl e7 ps).map ck,n)):=by
 obtain⟨k,m,p,l,u,o⟩:=CN (i:=2) (g:=cR (xB (l4 0 (eV 2))) (CQ 0 (eV 2)) (CT 0 (eV 2))) bA (fun a ρ Ω=>∃ l,ρ=[.no,.dat (.list (ch.map bA)),l]/\Ω=[(f,(a.foldl e7 ps).map ck,n)]) ch [] [.no,.dat (.list (ch.map bA)),.no] [(f,ps.map ck,n)] (fun a x d ρ Ω e h=>by
  obtain⟨l,rfl,rfl⟩:=h
  have r:a.length+1<=ch.length:=by
   rw [show ch=a++x::d from e,Qd,Qt];lia
  have s:=HM a ps
  refine⟨[.no,.dat (.list (ch.map bA)),.dat (bA x)],_,?_,_,rfl,rfl⟩
  rw [List.foldl_append]
  show cR _ _ _ [.no,.dat (.list (ch.map bA)),.dat (bA x)] [(f,(a.foldl e7 ps).map ck,n)]=some (.nx _ [(f,(e7 (a.foldl e7 ps) x).map ck,n)])
  generalize a.foldl e7 ps=b at *;have q:xB (l4 0 (eV 2)) [.no,.dat (.list (ch.map bA)),.dat (bA x)] [((f,b.map ck,n):K3)]=some (decide (ck x∈b.map ck),[(f,b.map ck,n)]):=rfl;unfold e7;by_cases c:x∈b
  ·have j:=B8.mpr c;rw [decide_eq_true j]at q;rw [if_pos c,<- FG];refine tE q ?_
   show(if ck x∈b.map ck then some (jW.nx _ [(f,(b.map ck).erase (ck x),n)])else none)=_
   rw [if_pos j]
  ·have j:¬ ck x∈b.map ck:=fun z=>c (B8.mp z);rw [decide_eq_false j]at q;rw [if_neg c,Yi];refine AZ q ?_
   show(if ck x∉b.map ck/\(b.map ck).length<1000 then some (jW.nx _ [(f,b.map ck++[ck x],n)])else none)=_
   rw [if_pos ⟨j,by rw [Qi];lia⟩]
   rfl) ⟨.no,rfl,rfl⟩
 subst o;exact RN (Ω:=[]) (ρ:=k) rfl (AY (kA rfl rfl) p)
theorem MB(x y:Bool):cU (.bool x) (.bool y)=some (.bool (!(x == y))):=by cases x <;> cases y <;> rfl
structure Kp(w h:Nat)(W:C->Bool)(ps:List Cp):Prop where
 nd:ps.Nodup
 me:∀ p,p∈ps ↔ p∈vis w h W
theorem Kp.len{w h:Nat}{W:C->Bool}{ps:List Cp}(k:Kp w h W ps):ps.length=(vis w h W).length:=(Hd k.nd (t8 w h W) k.me).length_eq
def qQ(w h:Nat)(W':C->Bool)(c:C)(ps:List Cp)(p:Cp):Bool:=eX p.1 p.2 c && !(bD (aT w h W') p.1 p.2 == decide (p∈ps))
def pW(w h:Nat)(W':C->Bool)(c:C)(acc:List Cp)(s:Sl):aA:=[.no,.dat (aE w h W'),.dat (aB c),.dat (dJ w h W'),.own (acc.map bA),s]
def C1:GS K3:=(cR (xP (eB (aV nI (aD (aF aQ (eV 5) (eC (.int 0))) (aD (aF aQ (eV 5) (eC (.int 1))) (aD (eV 2) aH))))))
  (bM (qD 0 BY (bQ cG (iQ 0 BX) (xP (eC (.int 1)))))
  (cR (xB (bQ cU (xP (aV lI (aD (eV 3) (aD (aF aQ (eV 5) (eC (.int 0))) (aD (aF aQ (eV 5) (eC (.int 1))) aH))))) (l4 0 (eV 5)))) (p8 4 (xP (eV 5))) eL)) eL)
section
variable {w h:Nat}(hw:w<=5)(hh:h<=5){W':C->Bool}{c:C}
include hw hh
theorem PJ{ps acc:List Cp}{x:Cp}{n:Int}(d:bG w h x.1=true)(b:bG w h x.2=true)(f:acc.length<1000):∃ n',C1 (pW w h W' c acc (.dat (bA x))) [(aE w h W',ps.map ck,n)]=some (.nx (pW w h W' c (acc++[x].filter (qQ w h W' c ps)) (.dat (bA x))) [(aE w h W',ps.map ck,n')]):=by
 have a:=G5 (kB hw hh d b) c;have e:=Cj (W:=W') hw hh d b;unfold C1
 cases m:eX x.1 x.2 c with
 | false=>
  rw [m]at a
  refine⟨n,?_⟩
  rw [YL (by unfold qQ;rw [m];exact Qq),List.filter_nil,QR];exact AZ (rP (oB (bF rfl a))) rfl
 | true=>
  rw [m]at a
  refine⟨n+1,tE (rP (oB (bF rfl a))) (c8 (KC (fN (tV rfl rfl) (rP rfl) rfl) rfl rfl) ?_)⟩
  have q:xB (bQ cU (xP (aV lI (aD (eV 3) (aD (aF aQ (eV 5) (eC (.int 0))) (aD (aF aQ (eV 5) (eC (.int 1))) aH))))) (l4 0 (eV 5))) (pW w h W' c acc (.dat (bA x))) [((aE w h W',ps.map ck,n+1):K3)]=some (!(bD (aT w h W') x.1 x.2 == decide (x∈ps)),[(aE w h W',ps.map ck,n+1)]):=by
   refine rB (fN (rP (bF rfl e)) (y:=.bool (decide (ck x∈ps.map ck))) rfl ?_);rw [decide_eq_decide.mpr B8];exact MB _ _
  cases t:(!(bD (aT w h W') x.1 x.2 == decide (x∈ps)))with
  | false=>
   rw [t]at q;rw [YL (by unfold qQ;rw [m,t];exact Qq),List.filter_nil,QR];exact lO q
  | true=>
   rw [t]at q;rw [Y5 (by unfold qQ;rw [m,t];rfl),List.filter_nil];refine tE q ((Ox (ds:=acc.map bA) rfl (rP rfl) (by rw [Qi];lia)).trans ?_);unfold pW;rw [Yi];rfl
end
def chg(w h:Nat)(W':C->Bool)(c:C)(ps:List Cp):List Cp:=(cH (cells w h)).filter (qQ w h W' c ps)
theorem Ia{w h:Nat}(a:w<=4)(b:h<=4):(cH (cells w h)).length<=256:=xT (n:=16) (by rw [oX];exact Jx a b)
theorem zS{w h:Nat}(a:w<=4)(b:h<=4)(W:C->Bool):(vis w h W).length<=256:=QL (Q5 _ _) (Ia a b)
section
variable {w h:Nat}(hw:w<=4)(hh:h<=4){W:C->Bool}{c:C}
include hw hh
theorem Gg{W0:C->Bool}{n:Int}{ps:List Cp}(j:ps.length<=256)(W':C->Bool):∃ n',nH [none,some (aE w h W'),some (aB c)] (aE w h W0,ps.map ck,n)=some (.list ((chg w h W' c ps).map bA),(aE w h W',((chg w h W' c ps).foldl e7 ps).map ck,n')):=by
 have w5:w<=5:=by lia
 have h5:h<=5:=by lia
 have v:hJ [iP w h W']=some (dJ w h W'):=xD w5 h5;have a1:=EG (W:=W') w5 h5;have E:lH [.list ((cells w h).map aB)]=some (.list ((cH (cells w h)).map bA)):=Bu (by rw [oX];exact Jx w5 h5);have l:=Ia hw hh;have o:(chg w h W' c ps).length<=256:=QL (Q5 _ _) l;have s:∀ p∈cH (cells w h),bG w h p.1=true/\bG w h p.2=true:=fun p j=>yG j;unfold chg at o ⊢;generalize cH (cells w h)=b at *
 obtain⟨q,r,m,d,n',A,z⟩:=CN (i:=5) (g:=C1) bA (fun a k Ω=>∃ d n',k=pW w h W' c (a.filter (qQ w h W' c ps)) d/\Ω=[((aE w h W',ps.map ck,n'):K3)]) b [] (pW w h W' c [] .no) [(aE w h W',ps.map ck,n)] (fun a x post k Ω e y=>by
   obtain⟨d,n',rfl,rfl⟩:=y;have e:b=a++x::post:=e;have g:=s x (by rw [e];exact Qv _ Qo)
   have F:a.length<=256:=by rw [e,Qd]at l;lia
   have G:=Q5 (qQ w h W' c ps) a;obtain⟨u,B⟩:=PJ (c:=c) (W':=W') (ps:=ps) (acc:=a.filter (qQ w h W' c ps)) (n:=n') w5 h5 g.1 g.2 (by lia)
   exact⟨_,_,B,.dat (bA x),u,by rw [List.filter_append],rfl⟩) ⟨.no,n,rfl,rfl⟩
 subst A z;rw [JF]at m
 refine⟨n',yE (Ω:=[]) rfl ?_⟩
 unfold AB;rw [show iN 6 [none,some (aE w h W'),some (aB c)]=[.no,.dat (aE w h W'),.dat (aB c),.no,.no,.no]from rfl];refine c8 (KC (rP rfl) rfl rfl) ?_;refine c8 (j4 (rP (bF rfl v))) ?_;refine c8 (Oy (ds:=[]) rfl (by decide)) ?_;refine c8 (AY (kA (bF (cF (bF rfl a1) rfl) E) rfl) m) ?_;have t:=WK (f:=aE w h W') (n:=n') (ps:=ps) (ch:=b.filter (qQ w h W' c ps)) (YX (Nat.add_le_add j o) (by decide));exact c8 (zU (C4 (ds:=[.list ((b.filter (qQ w h W' c ps)).map bA)]) rfl rfl t)) (p7 (rP rfl))
end
end My
namespace My
open PySem PySem.SeqAt L2 DL OB SD SL EL DC KP
section
variable {w h:Nat}(hw:w<=5)(hh:h<=5){W:C->Bool}{c:C}
include hw hh
theorem qK{p:Cp}{V:C->Bool}:p∈vis w h V ↔ p∈cH (cells w h)/\bD (aT w h V) p.1 p.2=true:=QW
theorem PH{ps:List Cp}(k:Kp w h (wm W c) ps):chg w h (wp W c) c ps=cB w h W c:=by
 rw [mB hw hh];refine YC fun p a=>?_
 have e:decide (p∈ps)=bD (aT w h (wm W c)) p.1 p.2:=by
  rw [Yu,decide_eq_true_iff,k.me,qK hw hh]
  exact⟨fun q=>q.2,fun q=>⟨a,q⟩⟩
 unfold qQ;rw [e]
 cases m:eX p.1 p.2 c with
 | false=>rw [De hw hh a m];cases bD (aT w h (wp W c)) p.1 p.2 <;> rfl
 | true=>
  cases q:bD (aT w h (wp W c)) p.1 p.2 with
  | true=>rw [tY hw hh q];rfl
  | false=>cases bD (aT w h (wm W c)) p.1 p.2 <;> rfl
theorem OO{ps:List Cp}(k:Kp w h (wp W c) ps):chg w h (wm W c) c ps=cB w h W c:=by
 rw [mB hw hh];refine YC fun p a=>?_
 have e:decide (p∈ps)=bD (aT w h (wp W c)) p.1 p.2:=by
  rw [Yu,decide_eq_true_iff,k.me,qK hw hh]
  exact⟨fun q=>q.2,fun q=>⟨a,q⟩⟩
 unfold qQ;rw [e]
 cases m:eX p.1 p.2 c with
 | false=>rw [De hw hh a m];cases bD (aT w h (wp W c)) p.1 p.2 <;> rfl
 | true=>
  cases q:bD (aT w h (wp W c)) p.1 p.2 with
  | true=>rw [tY hw hh q];rfl
  | false=>cases bD (aT w h (wm W c)) p.1 p.2 <;> rfl
theorem Ha{p:Cp}:p∈cB w h W c ↔ p∈cH (cells w h)/\bD (aT w h (wm W c)) p.1 p.2=true/\bD (aT w h (wp W c)) p.1 p.2=false:=by
 rw [mB hw hh,QW,QH,Yr]
theorem Km:(cB w h W c).Nodup:=by rw [mB hw hh];exact(Bx (i7 w h)).sublist List.filter_sublist
theorem PV{ps:List Cp}(k:Kp w h (wm W c) ps):Kp w h (wp W c) ((cB w h W c).foldl e7 ps):=by
 obtain⟨b,a⟩:=Co (cB w h W c) ps k.nd (Km hw hh)
 refine⟨b,fun p=>(a p).trans ?_⟩
 rw [k.me,qK hw hh,qK hw hh,Ha hw hh]
 have:=tY (W:=W) (c:=c) (p:=p) hw hh
 cases d:bD (aT w h (wp W c)) p.1 p.2 with
 | true=>rw [d]at this;rw [this rfl];simp
 | false=>cases e:bD (aT w h (wm W c)) p.1 p.2 <;> simp
theorem PX{ps:List Cp}(k:Kp w h (wp W c) ps):Kp w h (wm W c) ((cB w h W c).foldl e7 ps):=by
 obtain⟨b,a⟩:=Co (cB w h W c) ps k.nd (Km hw hh)
 refine⟨b,fun p=>(a p).trans ?_⟩
 rw [k.me,qK hw hh,qK hw hh,Ha hw hh]
 have:=tY (W:=W) (c:=c) (p:=p) hw hh
 cases d:bD (aT w h (wp W c)) p.1 p.2 with
 | true=>rw [d]at this;rw [this rfl];simp
 | false=>cases e:bD (aT w h (wm W c)) p.1 p.2 <;> simp
theorem VH:cB w h (wm W c) c=cB w h W c:=by rw [mB hw hh,mB hw hh,OA,KN]
theorem VI:cB w h (wp W c) c=cB w h W c:=by rw [mB hw hh,mB hw hh,KM,KO]
end
section
variable {w h:Nat}(hw:w<=4)(hh:h<=4){W:C->Bool}{c:C}(hc:bG w h c=true)
include hw hh hc
theorem SI{ps:List Cp}{n:Int}(d:W c=false)(k:Kp w h W ps):∃ ps' n',rF [none,some (aB c)] (aE w h W,ps.map ck,n)=some (.list ((cB w h W c).map bA),(aE w h (wp W c),ps'.map ck,n'))/\Kp w h (wp W c) ps':=by
 have w5:w<=5:=by lia
 have h5:h<=5:=by lia
 have a:Kp w h (wm W c) ps:=by rw [yU d];exact k
 have i:ps.length<=256:=by rw [k.len];exact zS hw hh W
 obtain⟨n',e⟩:=Gg hw hh (c:=c) (W0:=W) (n:=n) i (wp W c);rw [PH w5 h5 a]at e
 refine⟨_,n',yE (Ω:=[]) rfl ?_,PV w5 h5 a⟩
 have m:=Vt hc d;have l:iC [aE w h W,aB c]=some (aE w h (wp W c)):=yS w5 h5 hc;unfold AC;have g:eK iC (cI (iQ 0 lM) (cI (xP (eV 1)) dU)) (iN 2 [none,some (aB c)]) [((aE w h W,ps.map ck,n):K3)]=some (aE w h (wp W c),[(aE w h W,ps.map ck,n)]):=l8 (ds:=[aE w h W,aB c]) (gO (tV (b:=(aE w h W,ps.map ck,n)) rfl rfl) (gO (rP rfl) rfl)) l;have f:=Ir (j:=0) (G:=nH) (gr:=cI (eK iC (cI (iQ 0 lM) (cI (xP (eV 1)) dU))) (cI (xP (eV 1)) dU)) (ρ:=iN 2 [none,some (aB c)]) (Ω:=[((aE w h W,ps.map ck,n):K3)]) (Ω1:=[((aE w h W,ps.map ck,n):K3)]) (b0:=(aE w h W,ps.map ck,n)) (b:=(aE w h W,ps.map ck,n)) (ds:=[aE w h (wp W c),aB c]) rfl (gO g (gO (rP rfl) rfl)) rfl e;exact c8 (zU (l8 (ds:=[aE w h W,aB c]) (gO (tV (b:=(aE w h W,ps.map ck,n)) rfl rfl) (gO (rP rfl) rfl)) m)) (p7 f)
theorem SJ{ps:List Cp}{n:Int}(d:W c=true)(k:Kp w h W ps):∃ ps' n',rH [none,some (aB c)] (aE w h W,ps.map ck,n)=some (.list ((cB w h W c).map bA),(aE w h (wm W c),ps'.map ck,n'))/\Kp w h (wm W c) ps':=by
 have w5:w<=5:=by lia
 have h5:h<=5:=by lia
 have a:Kp w h (wp W c) ps:=by rw [yV d];exact k
 have l:ps.length<=256:=by rw [k.len];exact zS hw hh W
 obtain⟨n',e⟩:=Gg hw hh (c:=c) (W0:=W) (n:=n) l (wm W c);rw [OO w5 h5 a]at e
 refine⟨_,n',yE (Ω:=[]) rfl ?_,PX w5 h5 a⟩
 have f:=q9 (W:=W) hc;rw [d]at f;have m:iD [aE w h W,aB c]=some (aE w h (wm W c)):=yT w5 h5 hc;unfold C3;have i:eK iD (cI (iQ 0 lM) (cI (xP (eV 1)) dU)) (iN 2 [none,some (aB c)]) [((aE w h W,ps.map ck,n):K3)]=some (aE w h (wm W c),[(aE w h W,ps.map ck,n)]):=l8 (ds:=[aE w h W,aB c]) (gO (tV (b:=(aE w h W,ps.map ck,n)) rfl rfl) (gO (rP rfl) rfl)) m;have g:=Ir (j:=0) (G:=nH) (gr:=cI (eK iD (cI (iQ 0 lM) (cI (xP (eV 1)) dU))) (cI (xP (eV 1)) dU)) (ρ:=iN 2 [none,some (aB c)]) (Ω:=[((aE w h W,ps.map ck,n):K3)]) (Ω1:=[((aE w h W,ps.map ck,n):K3)]) (b0:=(aE w h W,ps.map ck,n)) (b:=(aE w h W,ps.map ck,n)) (ds:=[aE w h (wm W c),aB c]) rfl (gO i (gO (rP rfl) rfl)) rfl e;exact c8 (lO (Nz (k:=true) (rB (l8 (ds:=[aE w h W,aB c]) (gO (tV (b:=(aE w h W,ps.map ck,n)) rfl rfl) (gO (rP rfl) rfl)) f)))) (p7 g)
end
theorem HN(a b:C):∀ l:List Cp,∃ L,fT [aB a,aB b] (l.map bA)=some L/\L.length=l.length
 | []=>⟨[],rfl,rfl⟩
 | p::l=>by
  obtain⟨L,e,c⟩:=HN a b l
  refine⟨([p.1.1,p.1.2,p.2.1,p.2.2],bA p)::L,?_,by rw [Qt,Qt,c]⟩
  rw [Qm];unfold fT;rw [show lZ [aB a,aB b] (bA p)=some [p.1.1,p.1.2,p.2.1,p.2.2]from rfl,Qe,e];rfl
theorem V3:∀{ps:List Cp},ps.length<=256->∃ l,iF [.list (ps.map bA)]=some (.list l)/\l.length=ps.length
 | [],_=>⟨[],rfl,rfl⟩
 | p::r,hl=>by
  obtain⟨L,e,a⟩:=HN p.1 p.2 (p::r)
  refine⟨(fU L).map (·.2),?_,by rw [Qi,(pE L).length_eq,a]⟩
  show(if(r.map bA).length<1000 then(fT [aB p.1,aB p.2] ((p::r).map bA)).bind fun l=>some (Uj ((fU l).map (·.2)))else none)=_
  rw [if_pos (by rw [Qi];rw [Qt]at hl;lia),e];rfl
theorem VL{f:D}{n:Int}{ps:List Cp}(a:ps.length<=256):∃ l,rG [none] (f,ps.map ck,n)=some (.list l,(f,ps.map ck,n))/\l.length=ps.length:=by
 obtain⟨l,e,b⟩:=V3 a
 refine⟨l,yE (Ω:=[]) rfl (p7 ?_),b⟩
 show(iF [.list ((ps.map ck).map fun k=>lW (.inr k))]).bind _=_
 rw [Yo,show((fun k=>lW (.inr k)) ∘ ck)=bA from rfl,e];rfl
theorem Gy:∀ l:List Cp,uL (l.map bA)=some (l.map ck)
 | []=>rfl
 | p::l=>by
  rw [Qm];unfold uL;rw [OG,Qe,Gy l];rfl
theorem Bv{w h:Nat}(a:w<=5)(b:h<=5){W:C->Bool}:kF [aE w h W]=some (.list ((vis w h W).map bA)):=by
 rw [OZ a b,WX a b]
theorem P8{w h:Nat}(b:w<=4)(c:h<=4){W:C->Bool}:oQ [aE w h W]=some (aE w h W,(vis w h W).map ck,0):=by
 unfold oQ;dsimp only;rw [Bv (by lia) (by lia),Qe];dsimp only;have a:((vis w h W).map ck).Nodup:=List.Pairwise.map _ (fun x y (n:x≠y) z=>n (Bs z)) (t8 w h W);have d:=zS b c W;rw [Gy,Qe,if_pos ⟨a,by rw [Qi];lia⟩]
section
variable {w h:Nat}(hw:w<=5)(hh:h<=5){W:C->Bool}{c:C}(hc:bG w h c=true){dn ud:List D}(hd:dn.length<1000)
include hw hh hc hd
theorem Bm(a:W c=false):hF [none,some (aB c)] (aE w h W,dn,ud)=some (.int ((cB w h W c).length:Int),(aE w h (wp W c),dn++[.tuple [.str "put",aE w h W]],[])):=by
 have g:=q9 (W:=W) hc;have e:=K8 (W:=W) hw hh hc;have d:iC [aE w h W,aB c]=some (aE w h (wp W c)):=yS (W:=W) hw hh hc;have b:=rR (f:=aE w h W) (wd:=.str "put") (fl:=aE w h (wp W c)) (ud:=ud) hd;unfold hF;dsimp only;rw [g,Qe,wL,Qe,a,if_neg Qq,e,Qe,d,Qe,b];rfl
theorem LJ(a:W c=true):hF [none,some (aB c)] (aE w h W,dn,ud)=some (.int 0,(aE w h (wp W c),dn++[.tuple [.str "put",aE w h W]],[])):=by
 have e:=q9 (W:=W) hc;have d:iC [aE w h W,aB c]=some (aE w h (wp W c)):=yS (W:=W) hw hh hc;have b:=rR (f:=aE w h W) (wd:=.str "put") (fl:=aE w h (wp W c)) (ud:=ud) hd;unfold hF;dsimp only;rw [e,Qe,wL,Qe,a,if_pos rfl,Qe,d,Qe,b];rfl
theorem wB(a:W c=true):gK [none,some (aB c)] (aE w h W,dn,ud)=some (.int ((cB w h W c).length:Int),(aE w h (wm W c),dn++[.tuple [.str "take",aE w h W]],[])):=by
 have g:=q9 (W:=W) hc;have e:=K8 (W:=W) hw hh hc;have d:iD [aE w h W,aB c]=some (aE w h (wm W c)):=yT (W:=W) hw hh hc;have b:=rR (f:=aE w h W) (wd:=.str "take") (fl:=aE w h (wm W c)) (ud:=ud) hd;unfold gK;dsimp only;rw [g,Qe,wL,Qe,a,if_pos rfl,e,Qe,d,Qe,b];rfl
theorem Po(a:W c=false):gK [none,some (aB c)] (aE w h W,dn,ud)=some (.int 0,(aE w h (wm W c),dn++[.tuple [.str "take",aE w h W]],[])):=by
 have e:=q9 (W:=W) hc;have d:iD [aE w h W,aB c]=some (aE w h (wm W c)):=yT (W:=W) hw hh hc;have b:=rR (f:=aE w h W) (wd:=.str "take") (fl:=aE w h (wm W c)) (ud:=ud) hd;unfold gK;dsimp only;rw [e,Qe,wL,Qe,a,if_neg Qq,Qe,d,Qe,b];rfl
end
section
variable {w h:Nat}(hw:w<=5)(hh:h<=5)(W:C->Bool)
include hw hh
theorem SN:(vis w h W).length=(vis w h fun c=>W (mir (w-1) c)).length:=by
 refine KB hw hh hw hh (mir (w-1)) (mir (w-1)) (pC _) (pC _) (fun c=>tM) fun a b g f=>?_;have e:bG w h (mir (w-1) a)=true:=tM.trans g;have d:bG w h (mir (w-1) b)=true:=tM.trans f;rw [WA (kB hw hh g f) _ (kB hw hh e d)];congr 1
 funext c
 show(bG w h (mir (w-1) c) && W (mir (w-1) (mir (w-1) c)))=(bG w h c && W c)
 rw [tM,pC]
theorem SU:(vis w h W).length=(vis h w fun c=>W (swp c)).length:=by
 have d:∀ c,bG h w (swp c)=bG w h c:=fun c=>by
  rw [Yu,j9,j9]
  exact⟨fun q=>⟨q.2.2.1,q.2.2.2,q.1,q.2.1⟩,fun q=>⟨q.2.2.1,q.2.2.2,q.1,q.2.1⟩⟩
 refine KB hw hh hh hw swp swp (fun _=>rfl) (fun _=>rfl) d fun a b f e=>?_;rw [WB (kB hw hh f e) (kB hh hw ((d a).trans f) ((d b).trans e))];congr 1
 funext c
 show(bG h w (swp c) && W (swp (swp c)))=(bG w h c && W c)
 rw [d];rfl
end
end My
namespace My
open PySem PySem.SeqAt L2 DL OB SD SL EL DC KP
def D8:GS BK:=(eS 6 (xP (cO (aD (aV e8 (aD (eV 0) (aD (aF cG (eC (.int 61)) (aF cK (eC (.int 2)) (eV 5))) (aD (aF aQ (eV 1) (eC (.int 0))) aH)))) (aD (aV e8 (aD (eV 0) (aD (aF cG (eC (.int 62)) (aF cK (eC (.int 2)) (eV 5))) (aD (aF aQ (eV 1) (eC (.int 1))) aH)))) aH)))))
def gC:GX BK Bool:=(xB (bQ (jE false) (xP (eV 6)) (bQ aQ (bJ 0 (lL gA) aH) (xP (eC (.int 2))))))
def Aw:GS BK:=(bM (eS 7 (bJ 0 (lL gK) (aD (eV 6) aH))) (cR (xB (bQ cU (xP (eV 7)) (eK eU (cI (bJ 1 (lR rH) (aD (eV 6) aH)) dU)))) (dM (xP (eC (.bool false)))) eL))
def Av:GS BK:=(bM (eS 7 (bQ g8 (xP (eC (.int 0))) (bJ 0 (lL hF) (aD (eV 6) aH)))) (cR (xB (bQ cU (xP (aF g8 (eC (.int 0)) (eV 7))) (eK eU (cI (bJ 1 (lR rF) (aD (eV 6) aH)) dU)))) (dM (xP (eC (.bool false)))) eL))
def gT:GS BK:=(bM (eS 4 (xP (aF cG (eV 4) (eV 7)))) (cR (oO (xB (bQ cU (bJ 0 (lL gA) aH) (bJ 1 (lR rE) aH))) (xB (bQ cU (eK eU (cI (bJ 1 (lR rG) aH) dU)) (xP (eV 4))))) (dM (xP (eC (.bool false)))) eL))
def gB:GS BK:=bM D8 (bM (cR gC Aw Av) gT)
def gI:GS BK:=(cR (xP (eB (aF (jE false) (eV 6) (aF aQ (eV 8) (eC (.int 2)))))) (bM (eS 9 (bJ 0 (lL gK) (aD (eV 6) aH))) (dM (hY (xP (aF oD (eV 9) (eC (.int 0)))) (hY (bQ eA (bJ 0 (lL hF) (aD (eV 6) aH)) (xP (eV 9))) (hY (bQ eA (bJ 0 (lL gA) aH) (xP (eV 8))) (bQ eA (bJ 0 (lL gK) (aD (eV 6) aH)) (xP (eV 9)))))))) eL)
def gE:GS BK:=(bM (eS 9 (bJ 0 (lL hF) (aD (eV 6) aH)))
  (bM (cR (xB (bQ cU (bJ 0 (lL hF) (aD (eV 6) aH)) (xP (eC (.int 0))))) (dM (xP (eC (.bool false)))) eL)
  (dM (hY (xP (aF oD (eV 9) (eC (.int 0)))) (hY (bQ eA (bJ 0 (lL gK) (aD (eV 6) aH)) (xP (eV 9))) (hY (bQ eA (bJ 0 (lL gA) aH) (xP (eV 8))) (bQ eA (bJ 0 (lL gK) (aD (eV 6) aH)) (xP (eC (.int 0))))))))))
def gM:GS BK:=(bM (eS 8 (bJ 0 (lL gA) aH))
  (bM (cR (oO (xB (bQ rT (bJ 0 (lL mH) aH) (xP (eC .none)))) (xB (bQ rT (bJ 0 (lL mG) aH) (xP (eC .none))))) (dM (xP (eC (.bool false)))) eL)
  (bM (cR (xB (bQ cU (eK eU (cI (eK kF (cI (bJ 0 (lL gA) aH) dU)) dU)) (xP (eV 4)))) (dM (xP (eC (.bool false)))) eL)
  (bM (mF (bJ 0 (lL mG) aH))
  (bM (mF (bJ 0 (lL mH) aH))
  (bM (cR (xB (bQ cU (bJ 0 (lL gA) aH) (xP (eV 8)))) (dM (xP (eC (.bool false)))) eL)
  (bM (eS 6 (xP (cO (aD (aV e8 (aD (eV 0) (aD (eC (.int 80)) (aD (aF aQ (eV 1) (eC (.int 0))) aH)))) (aD (aV e8 (aD (eV 0) (aD (eC (.int 81)) (aD (aF aQ (eV 1) (eC (.int 1))) aH)))) aH)))))
  (bM gI
  gE))))))))
section
variable {ρ:aA}{b b':B3}{k k':K3}{gr:aA->Option (List D)}{ds:List D}{d:D}
theorem mL{G:GM B3}(c:gr ρ=some ds)(a:G (none::ds.map some) b=some (d,b')):bJ 0 (lL G) gr ρ [.inl b,.inr k]=some (d,[.inl b',.inr k]):=C4 (r:=(d,(Sum.inl b':BK))) c rfl (by unfold lL;dsimp only;rw [a];rfl)
theorem mR{G:GM K3}(c:gr ρ=some ds)(a:G (none::ds.map some) k=some (d,k')):bJ 1 (lR G) gr ρ [.inl b,.inr k]=some (d,[.inl b,.inr k']):=C4 (r:=(d,(Sum.inr k':BK))) c rfl (by unfold lR;dsimp only;rw [a];rfl)
theorem oH:bJ 0 (lL gA) aH ρ [.inl b,.inr k]=some (b.1,[.inl b,.inr k]):=mL (ds:=[]) rfl rfl
theorem ME:bJ 1 (lR rE) aH ρ [.inl b,.inr k]=some (k.1,[.inl b,.inr k]):=mR (ds:=[]) rfl rfl
end
def fr(ns:List Int)(w h:Nat)(W:C->Bool)(s4 s5 s6 s7 s8 s9:Sl):aA:=[.dat (cV ns),.dat (aE w h W),.no,.no,s4,s5,s6,s7,s8,s9]
theorem tN(i:Int):cU (.int i) (.int i)=some (.bool false):=by rw [MD,beq_self_eq_true];rfl
theorem x9(i:Int):eA (.int i) (.int i)=some (.bool true):=by rw [LY,beq_self_eq_true]
structure Sz(w h:Nat):Prop where
 w1:1<=w
 w4:w<=4
 h1:1<=h
 h4:h<=4
section
variable {w h:Nat}(z:Sz w h)
include z
theorem Sz.w5:w<=5:=Nat.le_succ_of_le z.w4
theorem Sz.h5:h<=5:=Nat.le_succ_of_le z.h4
theorem Sz.fl(W:C->Bool):Fl (aE w h W):=⟨w,h,W,z.w1,z.w4,z.h1,z.h4,rfl⟩
variable {ns:List Int}{W0 W:C->Bool}{s5 s6 s7 s8 s9:Sl}{dn:List D}{ps:List Cp}{n v t:Int}{c:C}
theorem Kk(k:Kp w h W ps)(b:v+t=((vis w h W).length:Int)):gT (fr ns w h W0 (.dat (.int v)) s5 s6 (.dat (.int t)) s8 s9) [.inl (aE w h W,dn,[]),.inr (aE w h W,ps.map ck,n)]=
  some (.nx (fr ns w h W0 (.dat (.int ((vis w h W).length:Int))) s5 s6 (.dat (.int t)) s8 s9) [.inl (aE w h W,dn,[]),.inr (aE w h W,ps.map ck,n)]):=by
 obtain⟨l,e,c⟩:=VL (f:=aE w h W) (n:=n) (ps:=ps) (by rw [k.len];exact zS z.w4 z.h4 W)
 have d:eU [.list l]=some (.int ((vis w h W).length:Int)):=by rw [yM,c,k.len]
 unfold gT;refine c8 (ρ':=fr ns w h W0 (.dat (.int ((vis w h W).length:Int))) s5 s6 (.dat (.int t)) s8 s9) (Ω1:=[.inl (aE w h W,dn,[]),.inr (aE w h W,ps.map ck,n)]) (j4 (rP (a:=.int ((vis w h W).length:Int)) (oo (x:=.int v) (y:=.int t) rfl rfl (by rw [Fj,b])))) ?_;exact lO (Eu (rB (fN oH ME (Hh (z.fl W).sh.shaped))) (rB (fN (l8 (ds:=[.list l]) (gO (mR (ds:=[]) rfl e) rfl) d) (rP (a:=.int ((vis w h W).length:Int)) rfl) (tN _))))
theorem VG(a:bG w h c=true):gC (fr ns w h W0 (.dat (.int v)) s5 (.dat (aB c)) s7 s8 s9) [.inl (aE w h W,dn,[]),.inr (aE w h W,ps.map ck,n)]=some (W c,[.inl (aE w h W,dn,[]),.inr (aE w h W,ps.map ck,n)]):=by
 have e:=Ax false c w h W;rw [if_neg Qq,t0 z.w5 z.h5 a]at e;unfold gC;exact rB (fN (x:=aB c) (y:=iP w h W) (rP rfl) (fN (x:=aE w h W) (y:=.int 2) oH (rP rfl) rfl) e)
theorem Wb(b:bG w h c=true)(k:Kp w h W ps)(i:dn.length<1000):∃ W' dn' ps' n' t,bM (cR gC Aw Av) gT (fr ns w h W0 (.dat (.int ((vis w h W).length:Int))) s5 (.dat (aB c)) s7 s8 s9) [.inl (aE w h W,dn,[]),.inr (aE w h W,ps.map ck,n)]=
  some (.nx (fr ns w h W0 (.dat (.int ((vis w h W').length:Int))) s5 (.dat (aB c)) t s8 s9) [.inl (aE w h W',dn',[]),.inr (aE w h W',ps'.map ck,n')])/\Kp w h W' ps'/\dn'.length=dn.length+1:=by
 have q:=VG z (ns:=ns) (W0:=W0) (W:=W) (s5:=s5) (s7:=s7) (s8:=s8) (s9:=s9) (dn:=dn) (ps:=ps) (n:=n) (v:=((vis w h W).length:Int)) b;have f:=WY z.w5 z.h5 (W:=W) (c:=c)
 have g:eU [.list ((cB w h W c).map bA)]=some (.int ((cB w h W c).length:Int)):=by rw [yM,Qi]
 cases o:W c with
 | true=>
  rw [o]at q;obtain⟨ps',n',e,a⟩:=SJ z.w4 z.h4 b (n:=n) o k;have d:=wB z.w5 z.h5 b (ud:=[]) i o;rw [yV o]at f
  refine⟨wm W c,dn++[.tuple [.str "take",aE w h W]],ps',n',.dat (.int ((cB w h W c).length:Int)),c8 (tE q ?_) (Kk z a (v:=((vis w h W).length:Int)) (t:=((cB w h W c).length:Int)) (by lia)),a,by rw [Qd];rfl⟩
  unfold Aw;exact c8 (j4 (mL (ds:=[aB c]) rfl d)) (lO (rB (fN (x:=.int ((cB w h W c).length:Int)) (rP rfl) (l8 (ds:=[.list ((cB w h W c).map bA)]) (gO (mR (ds:=[aB c]) rfl e) rfl) g) (tN _))))
 | false=>
  rw [o]at q;obtain⟨ps',n',e,a⟩:=SI z.w4 z.h4 b (n:=n) o k;have d:=Bm z.w5 z.h5 b (ud:=[]) i o;rw [yU o]at f
  refine⟨wp W c,dn++[.tuple [.str "put",aE w h W]],ps',n',.dat (.int (0-((cB w h W c).length:Int))),c8 (AZ q ?_) (Kk z a (v:=((vis w h W).length:Int)) (t:=0-((cB w h W c).length:Int)) (by lia)),a,by rw [Qd];rfl⟩
  unfold Av;refine c8 (j4 (fN (x:=.int 0) (rP rfl) (mL (ds:=[aB c]) rfl d) (Lm _ _))) (lO (rB (fN (x:=.int ((cB w h W c).length:Int)) (rP (oo (x:=.int 0) (y:=.int (0-((cB w h W c).length:Int))) rfl rfl ?_)) (l8 (ds:=[.list ((cB w h W c).map bA)]) (gO (mR (ds:=[aB c]) rfl e) rfl) g) (tN _))));rw [Lm];congr 2;lia
theorem Pm(b:ns.length<=63){m:Nat}(k:Kp w h W ps)(j:dn.length<1000):∃ W' dn' ps' n' s6' s7',gB (fr ns w h W0 (.dat (.int ((vis w h W).length:Int))) (.dat (.int (m:Int))) s6 s7 s8 s9) [.inl (aE w h W,dn,[]),.inr (aE w h W,ps.map ck,n)]=
  some (.nx (fr ns w h W0 (.dat (.int ((vis w h W').length:Int))) (.dat (.int (m:Int))) s6' s7' s8 s9) [.inl (aE w h W',dn',[]),.inr (aE w h W',ps'.map ck,n')])/\Kp w h W' ps'/\dn'.length=dn.length+1:=by
 obtain⟨r,g,f⟩:=mM ns b (61+2 * (m:Int)) w (by have:=z.w1;lia);obtain⟨p,d,c⟩:=mM ns b (62+2 * (m:Int)) h (by have:=z.h1;lia);have o:bG w h (dr ns (61+2 * (m:Int)) w,dr ns (62+2 * (m:Int)) h)=true:=j9.mpr ⟨g,f,d,c⟩;have q:cK (.int 2) (.int (m:Int))=some (.int (2 * (m:Int))):=i4 (j3 (by decide) (by decide));generalize dr ns (61+2 * (m:Int)) w=x at *;generalize dr ns (62+2 * (m:Int)) h=y at *;obtain⟨W',dn',ps',n',t,e,i,l⟩:=Wb z (ns:=ns) (W0:=W0) (s5:=.dat (.int (m:Int))) (s7:=s7) (s8:=s8) (s9:=s9) (n:=n) (dn:=dn) o k j
 refine⟨W',dn',ps',n',.dat (aB (x,y)),t,?_,i,l⟩
 unfold gB D8;refine c8 (ρ':=fr ns w h W0 (.dat (.int ((vis w h W).length:Int))) (.dat (.int (m:Int))) (.dat (aB (x,y))) s7 s8 s9) (Ω1:=[.inl (aE w h W,dn,[]),.inr (aE w h W,ps.map ck,n)]) (j4 (rP (a:=aB (x,y)) ?_)) e;exact Em (bF (ds:=[cV ns,.int (61+2 * (m:Int)),.int w]) (cF rfl (cF (oo rfl (oo rfl rfl q) rfl) (cF rfl rfl))) r) (bF (ds:=[cV ns,.int (62+2 * (m:Int)),.int h]) (cF rfl (cF (oo rfl (oo rfl rfl q) rfl) (cF rfl rfl))) p)
end
end My
namespace My
open PySem PySem.SeqAt L2 DL OB SD SL EL DC KP
theorem Oz{B:Type}{a b:GS B}{ρ:aA}{Ω Ω1:List B}{d:D}(h:a ρ Ω=some (.rt d Ω1)):bM a b ρ Ω=some (.rt d Ω1):=by
 unfold bM;rw [h];rfl
section
variable {w h:Nat}(z:Sz w h){ns:List Int}{W0 W:C->Bool}{s4 s5 s7:Sl}{dn:List D}{k:K3}{c:C}(hc:bG w h c=true)(hd:dn.length<900)
include z hc hd
theorem RH:∃ Ω,bM gI gE (fr ns w h W0 s4 s5 (.dat (aB c)) s7 (.dat (aE w h W)) .no) [.inl (aE w h W,dn,[]),.inr k]=some (.rt (.bool true) Ω):=by
 have e:=Ax false c w h W;rw [if_neg Qq,t0 z.w5 z.h5 hc]at e
 have i:oD (.int ((cB w h W c).length:Int)) (.int 0)=some (.bool true):=by rw [Mb,decide_eq_true (Int.natCast_nonneg _)]
 have j:=RC (z.fl W).sh.shaped
 have g:∀ x:D,(dn++[x]).length<1000:=fun x=>by rw [Qd,Qx];lia
 have f:∀ x y:D,(dn++[x]++[y]).length<1000:=fun x y=>by rw [Qd,Qd,Qx,Qx];lia
 have m:∀ x y u:D,(dn++[x]++[y]++[u]).length<1000:=fun x y u=>by rw [Qd,Qd,Qd,Qx,Qx,Qx];lia
 cases o:W c with
 | true=>
  rw [o]at e;have d:=wB z.w5 z.h5 hc (ud:=[]) (dn:=dn) (by lia) o;have a:=Bm z.w5 z.h5 hc (W:=wm W c) (ud:=[]) (g (.tuple [.str "take",aE w h W])) (KL W c);rw [VH z.w5 z.h5,KN,yV o]at a;have b:=wB z.w5 z.h5 hc (W:=W) (ud:=[]) (f (.tuple [.str "take",aE w h W]) (.tuple [.str "put",aE w h (wm W c)])) o
  refine⟨[.inl (aE w h (wm W c),dn++[.tuple [.str "take",aE w h W]]++[.tuple [.str "put",aE w h (wm W c)]]++[.tuple [.str "take",aE w h W]],[]),.inr k],Oz (tE (rP (oB (oo (x:=aB c) (y:=iP w h W) rfl (oo (x:=aE w h W) (y:=.int 2) rfl rfl rfl) e))) ?_)⟩
  refine c8 (ρ':=fr ns w h W0 s4 s5 (.dat (aB c)) s7 (.dat (aE w h W)) (.dat (.int ((cB w h W c).length:Int)))) (j4 (mL (ds:=[aB c]) rfl d)) ?_;exact p7 (pX (rP (oo (x:=.int ((cB w h W c).length:Int)) (y:=.int 0) rfl rfl i)) (pX (fN (y:=.int ((cB w h W c).length:Int)) (mL (ds:=[aB c]) rfl a) (rP rfl) (x9 _)) (pX (fN (x:=aE w h W) (y:=aE w h W) oH (rP rfl) j) (fN (y:=.int ((cB w h W c).length:Int)) (mL (ds:=[aB c]) rfl b) (rP rfl) (x9 _)))))
 | false=>
  rw [o]at e;have d:=Bm z.w5 z.h5 hc (ud:=[]) (dn:=dn) (by lia) o;have a:=LJ z.w5 z.h5 hc (W:=wp W c) (ud:=[]) (g (.tuple [.str "put",aE w h W])) (CO W c);rw [KO]at a;have b:=wB z.w5 z.h5 hc (W:=wp W c) (ud:=[]) (f (.tuple [.str "put",aE w h W]) (.tuple [.str "put",aE w h (wp W c)])) (CO W c);rw [VI z.w5 z.h5,KM,yU o]at b;have l:=Po z.w5 z.h5 hc (W:=W) (ud:=[]) (m (.tuple [.str "put",aE w h W]) (.tuple [.str "put",aE w h (wp W c)]) (.tuple [.str "take",aE w h (wp W c)])) o
  refine⟨[.inl (aE w h (wm W c),dn++[.tuple [.str "put",aE w h W]]++[.tuple [.str "put",aE w h (wp W c)]]++[.tuple [.str "take",aE w h (wp W c)]]++[.tuple [.str "take",aE w h W]],[]),.inr k],c8 (lO (rP (oB (oo (x:=aB c) (y:=iP w h W) rfl (oo (x:=aE w h W) (y:=.int 2) rfl rfl rfl) e)))) ?_⟩
  unfold gE;refine c8 (ρ':=fr ns w h W0 s4 s5 (.dat (aB c)) s7 (.dat (aE w h W)) (.dat (.int ((cB w h W c).length:Int)))) (j4 (mL (ds:=[aB c]) rfl d)) ?_;refine c8 (lO (rB (fN (x:=.int 0) (y:=.int 0) (mL (ds:=[aB c]) rfl a) (rP rfl) (tN 0)))) ?_;exact p7 (pX (rP (oo (x:=.int ((cB w h W c).length:Int)) (y:=.int 0) rfl rfl i)) (pX (fN (y:=.int ((cB w h W c).length:Int)) (mL (ds:=[aB c]) rfl b) (rP rfl) (x9 _)) (pX (fN (x:=aE w h W) (y:=aE w h W) oH (rP rfl) j) (fN (y:=.int 0) (mL (ds:=[aB c]) rfl l) (rP rfl) (x9 _)))))
end
theorem Tl{w h:Nat}(z:Sz w h){ns:List Int}(d:ns.length<=63){W0 W:C->Bool}{s5 s6 s7:Sl}{dn:List D}{k:K3}(u:dn.length<100):∃ Ω,gM (fr ns w h W0 (.dat (.int ((vis w h W).length:Int))) s5 s6 s7 .no .no) [.inl (aE w h W,dn,[]),.inr k]=some (.rt (.bool true) Ω):=by
 obtain⟨s,i,g⟩:=mM ns d 80 w (by have:=z.w1;lia);obtain⟨r,f,e⟩:=mM ns d 81 h (by have:=z.h1;lia);have o:bG w h (dr ns 80 w,dr ns 81 h)=true:=j9.mpr ⟨i,g,f,e⟩;generalize dr ns 80 w=x at *;generalize dr ns 81 h=y at *;have m:=Hb z.w5 z.h5 (W:=W) (dn:=dn) (ud:=[]) (by lia);have l:=FP z.w5 z.h5 (W:=fun c=>W (mir (w-1) c)) (dn:=dn++[.tuple [.str "mirror",aE w h W]]) (ud:=[]) (by rw [Qd,Qx];lia);have j:=FP z.h5 z.w5 (W:=fun c=>W (mir (w-1) (swp c))) (dn:=dn++[.tuple [.str "mirror",aE w h W]]++[.tuple [.str "flip",aE w h fun c=>W (mir (w-1) c)]]) (ud:=[]) (by rw [Qd,Qd,Qx,Qx];lia);have b:=Hb z.w5 z.h5 (W:=fun c=>W (mir (w-1) c)) (dn:=dn++[.tuple [.str "mirror",aE w h W]]++[.tuple [.str "flip",aE w h fun c=>W (mir (w-1) c)]]++[.tuple [.str "flip",aE h w fun c=>W (mir (w-1) (swp c))]]) (ud:=[]) (by rw [Qd,Qd,Qd,Qx,Qx,Qx];lia)
 have p:(aE w h fun c=>W (mir (w-1) (mir (w-1) c)))=aE w h W:=by
  congr 1
  funext c
  rw [pC]
 rw [p]at b;have t:kF [aE h w fun c=>W (mir (w-1) (swp c))]=some (.list ((vis h w fun c=>W (mir (w-1) (swp c))).map bA)):=Bv z.h5 z.w5
 have n:eU [.list ((vis h w fun c=>W (mir (w-1) (swp c))).map bA)]=some (.int ((vis w h W).length:Int)):=by
  rw [yM,Qi,<- SU z.w5 z.h5 (fun c=>W (mir (w-1) c)),<- SN z.w5 z.h5 W]
 obtain⟨Ω,q⟩:=RH z (ns:=ns) (W0:=W0) (W:=W) (s4:=.dat (.int ((vis w h W).length:Int))) (s5:=s5) (s7:=s7) (k:=k) (dn:=dn++[.tuple [.str "mirror",aE w h W]]++[.tuple [.str "flip",aE w h fun c=>W (mir (w-1) c)]]++[.tuple [.str "flip",aE h w fun c=>W (mir (w-1) (swp c))]]++[.tuple [.str "mirror",aE w h fun c=>W (mir (w-1) c)]]) o (by rw [Qd,Qd,Qd,Qd,Qx,Qx,Qx,Qx];lia)
 refine⟨Ω,?_⟩
 unfold gM;refine c8 (ρ':=fr ns w h W0 (.dat (.int ((vis w h W).length:Int))) s5 s6 s7 (.dat (aE w h W)) .no) (j4 oH) ?_;refine c8 (lO (Eu (rB (fN (x:=.none) (y:=.none) (mL (ds:=[]) rfl m) (rP rfl) rfl)) (rB (fN (x:=.none) (y:=.none) (mL (ds:=[]) rfl l) (rP rfl) rfl)))) ?_;refine c8 (lO (rB (fN (y:=.int ((vis w h W).length:Int)) (l8 (ds:=[.list ((vis h w fun c=>W (mir (w-1) (swp c))).map bA)]) (gO (l8 (ds:=[aE h w fun c=>W (mir (w-1) (swp c))]) (gO oH rfl) t) rfl) n) (rP rfl) (tN _)))) ?_;refine c8 (zU (mL (ds:=[]) rfl j)) ?_;refine c8 (zU (mL (ds:=[]) rfl b)) ?_;refine c8 (lO (rB (fN (x:=aE w h W) (y:=aE w h W) oH (rP rfl) (Hh (z.fl W).sh.shaped)))) ?_;refine c8 (ρ':=fr ns w h W0 (.dat (.int ((vis w h W).length:Int))) s5 (.dat (aB (x,y))) s7 (.dat (aE w h W)) .no) (j4 (rP (a:=aB (x,y)) ?_)) q;exact Em (bF (ds:=[cV ns,.int 80,.int w]) (cF rfl (cF rfl (cF rfl rfl))) s) (bF (ds:=[cV ns,.int 81,.int h]) (cF rfl (cF rfl (cF rfl rfl))) r)
theorem main:∀ ns:List Int,ns.length<=63->kU [.list (ns.map J9)]=some (.bool true):=fun ns f=>by
 show kU [cV ns]=_
 obtain⟨w,h,W,S,A,v,O,N⟩:=RM ns f 0 4 (by decide) (by decide);have z:Sz w h:=⟨A,v,O,N⟩;obtain⟨q,X,U⟩:=mM ns f 60 6 (by decide);obtain⟨m,J,Y⟩:∃ m:Nat,1+dr ns 60 6=(m:Int)/\m<=6:=⟨(1+dr ns 60 6).toNat,by lia,by lia⟩
 have fin:∀{b:List BK},sH (c7 10 [cV ns]) []=some (.rt (.bool true) b)->kU [cV ns]=some (.bool true):=fun h=>by
  unfold kU vK;rw [h]
 suffices K:∃ b,sH (c7 10 [cV ns]) []=some (.rt (.bool true) b) by
  obtain⟨b,e⟩:=K;exact fin e
 have I:Kp w h W (vis w h W):=⟨t8 w h W,fun _=>Iff.rfl⟩
 have G:eU [.list ((vis w h W).map bA)]=some (.int ((vis w h W).length:Int)):=by rw [yM,Qi]
 obtain⟨u,Ω1,t,c,dn,ps,n,s5,s6,s7,E,B,k1,l1⟩:=KF (i:=5) (g:=gB) (fun n=>.int (n:Int)) (fun a s b=>∃ c dn ps n s5 s6 s7,s=fr ns w h W (.dat (.int ((vis w h c).length:Int))) s5 s6 s7 .no .no/\b=[.inl (aE w h c,dn,[]),.inr (aE w h c,ps.map ck,n)]/\Kp w h c ps/\dn.length=a) m (fun a s b ha M=>by
  obtain⟨c,dn,ps,n,s5,s6,s7,rfl,rfl,k,l⟩:=M;obtain⟨T,r,p,F,o,j,e,H,Z⟩:=Pm z (W0:=W) (W:=c) (ps:=ps) (dn:=dn) (n:=n) (s6:=s6) (s7:=s7) (s8:=.no) (s9:=.no) f (m:=a) k (by lia)
  exact⟨_,_,e,T,r,p,F,_,o,j,rfl,rfl,H,by lia⟩) m 0 (fr ns w h W (.dat (.int ((vis w h W).length:Int))) .no .no .no .no .no) [.inl (aE w h W,[],[]),.inr (aE w h W,(vis w h W).map ck,0)] (QZ m) ⟨W,[],vis w h W,0,_,_,_,rfl,rfl,I,rfl⟩
 subst E B;rw [<- List.range_eq_range']at t;obtain⟨b,Q⟩:=Tl z f (W0:=W) (W:=c) (s5:=s5) (s6:=s6) (s7:=s7) (dn:=dn) (k:=(aE w h c,ps.map ck,n)) (by lia)
 refine⟨b,?_⟩
 unfold sH;rw [show c7 10 [cV ns]=[.dat (cV ns),.no,.no,.no,.no,.no,.no,.no,.no,.no]from rfl];refine c8 (ρ':=fr ns w h W .no .no .no .no .no .no) (Ω1:=[]) (j4 (rP (a:=aE w h W) (bF (ds:=[cV ns,.int 0,.int 4]) rfl S))) ?_;refine c8 (ρ':=fr ns w h W .no .no .no .no .no .no) (Ω1:=[.inl (aE w h W,[],[])]) rfl ?_;refine c8 (ρ':=fr ns w h W .no .no .no .no .no .no) (Ω1:=[.inl (aE w h W,[],[]),.inr (aE w h W,(vis w h W).map ck,0)]) ?_ ?_
 ·have R:iR oQ [aE w h W]=some (.inr (aE w h W,(vis w h W).map ck,0)):=by
   unfold iR;rw [P8 z.w4 z.h4];rfl
  unfold v4;rw [cF (d:=aE w h W) (ds:=[]) rfl rfl,Qe,R];rfl
 refine c8 (ρ':=fr ns w h W (.dat (.int ((vis w h W).length:Int))) .no .no .no .no .no) (j4 (rP (a:=.int ((vis w h W).length:Int)) (bF (ds:=[.list ((vis w h W).map bA)]) (cF (bF (ds:=[aE w h W]) rfl (Bv z.w5 z.h5)) rfl) G))) ?_;refine c8 (AY (BW (n:=m) (cF (oo (x:=.int 1) (y:=.int (dr ns 60 6)) rfl (bF (ds:=[cV ns,.int 60,.int 6]) rfl q) (by rw [Fj,J])) rfl) (by lia)) t) ?_;exact Q
end My
namespace My
open PySem PySem.Spec PySem.SeqAt PyProof.Rows L2 CL DL OB SD ZL SL EL DC KP ST
theorem us1{p:List YP->Prop}{us:List YP}(h:us.length=1)(q:∀ a,p [a]):p us:=by
 rcases us with _ | ⟨a,_ | ⟨b,r⟩⟩
 ·cases h
 ·exact q a
 ·simp at h
theorem us2{p:List YP->Prop}{us:List YP}(h:us.length=2)(q:∀ a b,p [a,b]):p us:=by
 rcases us with _ | ⟨a,r⟩
 ·cases h
 ·exact us1 (p:=fun r=>p (a::r)) (us:=r) (by simpa using h) fun b=>q a b
theorem AX{p:List YP->Prop}{us:List YP}(h:us.length=3)(q:∀ a b c,p [a,b,c]):p us:=by
 rcases us with _ | ⟨a,r⟩
 ·cases h
 ·exact us2 (p:=fun r=>p (a::r)) (us:=r) (by simpa using h) fun b c=>q a b c
theorem us4{p:List YP->Prop}{us:List YP}(h:us.length=4)(q:∀ a b c d,p [a,b,c,d]):p us:=by
 rcases us with _ | ⟨a,r⟩
 ·cases h
 ·exact AX (p:=fun r=>p (a::r)) (us:=r) (by simpa using h) fun b c d=>q a b c d
theorem all_mk(main:∀ ns:List Int,ns.length<=63->kU [.list (ns.map J9)]=some (.bool true)){l:PySem.W.OpenLaw}{w:J5}{K:PySem.W.Frag}{X:Str->Option YP}{fa:JY}(b4:X "law"=some (.ref fa))(T:∃ a d,n9 K X a d)(BM:∃ C b e,pK K X C/\Ao K C b e)(BN:∃ C b e,sB K X C/\Ap K C b e):
  ∃ fd:J6,(∀(s:JZ) (v:YP),BindsTo s fd ⟨[v],[]⟩ [("_law_script",v)])/\∀ base:Heap,K.In base->base.Ns Zd X->aM l.prog w K X base aO 8 fa fd ["_law_script"] (zJ K kU):=by
 obtain⟨a,d,T⟩:=T;obtain⟨C,b,ee,B,M⟩:=BM;obtain⟨Y,b2,e2,S,M2⟩:=BN;have e:=T.F_qp.m.symm.trans b4;cases e;obtain⟨oc,od,kV,b6,pm,an,b7,ct,b5,e,_⟩:=T.F_qp.F.ex
 refine⟨d 25,fun s v=>by rw [e];exact .of_eq rfl,fun base _ _=>?_⟩
 have a5:=M3 (P:=l.prog) (w:=w) (base:=base) T;have I:=M1 (P:=l.prog) (w:=w) (base:=base) T;have p:=Na (P:=l.prog) (w:=w) (base:=base) T;have a4:=M6 (P:=l.prog) (w:=w) (base:=base) T;have a2:=M8 (P:=l.prog) (w:=w) (base:=base) T;have a3:=M7 (P:=l.prog) (w:=w) (base:=base) T;have a9:=MN (P:=l.prog) (w:=w) (base:=base) T;have a7:=MY (P:=l.prog) (w:=w) (base:=base) T;have r:=MS (P:=l.prog) (w:=w) (base:=base) T;have a6:=M0 (P:=l.prog) (w:=w) (base:=base) T;have b3:=MK (P:=l.prog) (w:=w) (base:=base) T a5;have J:=MX (P:=l.prog) (w:=w) (base:=base) T I;have G:=Nb (P:=l.prog) (w:=w) (base:=base) T a7;have H:=M5 (P:=l.prog) (w:=w) (base:=base) T a3 a9;have O:=MU (P:=l.prog) (w:=w) (base:=base) T a6;have a0:=M9 (P:=l.prog) (w:=w) (base:=base) T b3;have Q:=MP (P:=l.prog) (w:=w) (base:=base) T H;have N:=MW (P:=l.prog) (w:=w) (base:=base) T p r H J;have a8:=MV (P:=l.prog) (w:=w) (base:=base) T O;have u:=MJ (P:=l.prog) (w:=w) (base:=base) T a0;have g:=M4 (P:=l.prog) (w:=w) (base:=base) T u;have q:=MT (P:=l.prog) (w:=w) (base:=base) T u;have t:=MQ (P:=l.prog) (w:=w) (base:=base) T u;have b0:=MM (P:=l.prog) (w:=w) (base:=base) T g;have R:=MO (P:=l.prog) (w:=w) (base:=base) T t p r G Q q J;have E:=RY (P:=l.prog) (w:=w) (base:=base) B M.Fi;have c:=RW (P:=l.prog) (w:=w) (base:=base) B M.build.F;have k:=Ou (D':=Y) E;have f:=sZ (D':=Y) (Vf (P:=l.prog) (w:=w) (base:=base) B M.build.m M.build.b c T.F_qj a4 M.mirror.F);have n:=sZ (D':=Y) (RX (P:=l.prog) (w:=w) (base:=base) B M.build.m M.build.b c T.F_ql a2 M.flip.F);have y:=sZ (D':=Y) (Vh (P:=l.prog) (w:=w) (base:=base) B M.build.m M.build.b c T.F_qh g T.F_q8 q T.F_q4 R M.put.F);have j:=sZ (D':=Y) (Vi (P:=l.prog) (w:=w) (base:=base) B M.build.m M.build.b c T.F_qh g T.F_q6 t T.F_q4 R M.take.F);have z:=sZ (D':=Y) (Vg (P:=l.prog) (w:=w) (base:=base) B M.now.F);have U:=Ve (P:=l.prog) (w:=w) (base:=base) T;have i:=Ov (C:=C) (R0 (P:=l.prog) (w:=w) (base:=base) T S U N M2.Fi);have A:=Vd (P:=l.prog) (w:=w) (base:=base) T S M2.turn.F;have o:=RZ (P:=l.prog) (w:=w) (base:=base) T S M2.turn.m M2.turn.b A p r I G Q M2.chg.F;have G_k_put_solid:=vZ (C:=C) (U8 (P:=l.prog) (w:=w) (base:=base) T S M2.chg.m M2.chg.b o b0 q M2.put.F);have G_k_take_solid:=vZ (C:=C) (Vc (P:=l.prog) (w:=w) (base:=base) T S M2.chg.m M2.chg.b o g t M2.take.F);have x:=vZ (C:=C) (U7 (P:=l.prog) (w:=w) (base:=base) T S M2.now.F);have h:=vZ (C:=C) (U9 (P:=l.prog) (w:=w) (base:=base) T S M2.seen.F);have Z:=Nc (P:=l.prog) (w:=w) (base:=base) T B M S M2 a8 N O n f z y j x G_k_put_solid h G_k_take_solid k i;exact Mp Z main
theorem fo1{K:PySem.W.Frag}{h:Heap}{m:Str->Option YP}{n:Str}{b:Zm}{ps:List Str}{f:JY}{q j:Option JY}{o:Array (Option YP)}{r kV i g d ct:YP}(X:K.In h)(G:h.Ns Zd m)(t:ps.length=1)(u:∀ x0,ZU (PySem.W.fnOf n n (fA b) (dN b) (aS b) .none kV i g j d ct) ⟨[x0],[]⟩=pure (List.zip ps [x0]))
  (a:PySem.W.nsIn K Zd n=some (some (.ref f))) (l:K.lookup f=some ⟨r,q,.func (PySem.W.fnOf n n (fA b) (dN b) (aS b) .none kV i g j d ct),o⟩) (c:PySem.W.codeIn K d n=true) (k:PySem.W.keepIn K (.ref f)=true):Fo K m n b ps f (PySem.W.fnOf n n (fA b) (dN b) (aS b) .none kV i g j d ct):=
 ⟨qE l c k,PySem.W.mg_of X G a,.all fun e s=>us1 (p:=fun e=>ZU _ ⟨e,[]⟩=pure (List.zip _ e)) (s.trans t) u⟩
theorem fo2{K:PySem.W.Frag}{h:Heap}{m:Str->Option YP}{n:Str}{b:Zm}{ps:List Str}{f:JY}{q j:Option JY}{o:Array (Option YP)}{r kV i g d ct:YP}(X:K.In h)(G:h.Ns Zd m)(t:ps.length=2)(u:∀ x0 x1,ZU (PySem.W.fnOf n n (fA b) (dN b) (aS b) .none kV i g j d ct) ⟨[x0,x1],[]⟩=pure (List.zip ps [x0,x1]))
  (a:PySem.W.nsIn K Zd n=some (some (.ref f))) (l:K.lookup f=some ⟨r,q,.func (PySem.W.fnOf n n (fA b) (dN b) (aS b) .none kV i g j d ct),o⟩) (c:PySem.W.codeIn K d n=true) (k:PySem.W.keepIn K (.ref f)=true):Fo K m n b ps f (PySem.W.fnOf n n (fA b) (dN b) (aS b) .none kV i g j d ct):=
 ⟨qE l c k,PySem.W.mg_of X G a,.all fun e s=>us2 (p:=fun e=>ZU _ ⟨e,[]⟩=pure (List.zip _ e)) (s.trans t) u⟩
theorem fo3{K:PySem.W.Frag}{h:Heap}{m:Str->Option YP}{n:Str}{b:Zm}{ps:List Str}{f:JY}{q j:Option JY}{o:Array (Option YP)}{r kV i g d ct:YP}(X:K.In h)(G:h.Ns Zd m)(t:ps.length=3)(u:∀ x0 x1 x2,ZU (PySem.W.fnOf n n (fA b) (dN b) (aS b) .none kV i g j d ct) ⟨[x0,x1,x2],[]⟩=pure (List.zip ps [x0,x1,x2]))
  (a:PySem.W.nsIn K Zd n=some (some (.ref f))) (l:K.lookup f=some ⟨r,q,.func (PySem.W.fnOf n n (fA b) (dN b) (aS b) .none kV i g j d ct),o⟩) (c:PySem.W.codeIn K d n=true) (k:PySem.W.keepIn K (.ref f)=true):Fo K m n b ps f (PySem.W.fnOf n n (fA b) (dN b) (aS b) .none kV i g j d ct):=
 ⟨qE l c k,PySem.W.mg_of X G a,.all fun e s=>AX (p:=fun e=>ZU _ ⟨e,[]⟩=pure (List.zip _ e)) (s.trans t) u⟩
def cn{a:Type}(x:a)(f:Nat->a):Nat->a
 | 0=>x
 | n+1=>f n
theorem fm1{K:PySem.W.Frag}{n q:Str}{b:Zm}{ps:List Str}{C f:JY}{o j:Option JY}{m:Array (Option YP)}{r kV h g d ct:YP}(t:ps.length=1)(u:∀ x0,ZU (PySem.W.fnOf n q (fA b) (dN b) (aS b) .none kV h g j d ct) ⟨[x0],[]⟩=pure (List.zip ps [x0]))
  (a:PySem.W.findIn K (.ref C) n=some (some (.ref f))) (i:PySem.W.isFn K (.ref f)=true) (l:K.lookup f=some ⟨r,o,.func (PySem.W.fnOf n q (fA b) (dN b) (aS b) .none kV h g j d ct),m⟩) (c:PySem.W.codeIn K d q=true) (k:PySem.W.keepIn K (.ref f)=true):Fm K C n q b ps f (PySem.W.fnOf n q (fA b) (dN b) (aS b) .none kV h g j d ct):=
 ⟨qE l c k,⟨a,i,k⟩,.all fun e s=>us1 (p:=fun e=>ZU _ ⟨e,[]⟩=pure (List.zip _ e)) (s.trans t) u⟩
theorem fm2{K:PySem.W.Frag}{n q:Str}{b:Zm}{ps:List Str}{C f:JY}{o j:Option JY}{m:Array (Option YP)}{r kV h g d ct:YP}(t:ps.length=2)(u:∀ x0 x1,ZU (PySem.W.fnOf n q (fA b) (dN b) (aS b) .none kV h g j d ct) ⟨[x0,x1],[]⟩=pure (List.zip ps [x0,x1]))
  (a:PySem.W.findIn K (.ref C) n=some (some (.ref f))) (i:PySem.W.isFn K (.ref f)=true) (l:K.lookup f=some ⟨r,o,.func (PySem.W.fnOf n q (fA b) (dN b) (aS b) .none kV h g j d ct),m⟩) (c:PySem.W.codeIn K d q=true) (k:PySem.W.keepIn K (.ref f)=true):Fm K C n q b ps f (PySem.W.fnOf n q (fA b) (dN b) (aS b) .none kV h g j d ct):=
 ⟨qE l c k,⟨a,i,k⟩,.all fun e s=>us2 (p:=fun e=>ZU _ ⟨e,[]⟩=pure (List.zip _ e)) (s.trans t) u⟩
theorem fm3{K:PySem.W.Frag}{n q:Str}{b:Zm}{ps:List Str}{C f:JY}{o j:Option JY}{m:Array (Option YP)}{r kV h g d ct:YP}(t:ps.length=3)(u:∀ x0 x1 x2,ZU (PySem.W.fnOf n q (fA b) (dN b) (aS b) .none kV h g j d ct) ⟨[x0,x1,x2],[]⟩=pure (List.zip ps [x0,x1,x2]))
  (a:PySem.W.findIn K (.ref C) n=some (some (.ref f))) (i:PySem.W.isFn K (.ref f)=true) (l:K.lookup f=some ⟨r,o,.func (PySem.W.fnOf n q (fA b) (dN b) (aS b) .none kV h g j d ct),m⟩) (c:PySem.W.codeIn K d q=true) (k:PySem.W.keepIn K (.ref f)=true):Fm K C n q b ps f (PySem.W.fnOf n q (fA b) (dN b) (aS b) .none kV h g j d ct):=
 ⟨qE l c k,⟨a,i,k⟩,.all fun e s=>AX (p:=fun e=>ZU _ ⟨e,[]⟩=pure (List.zip _ e)) (s.trans t) u⟩
theorem mk_obj{K:PySem.W.Frag}{h:Heap}{a:Str->Option YP}{C k j i g f d c:JY}{d0 r q p o n l:J6}(X:K.In h)(G:h.Ns Zd a)(E:PySem.W.nsIn K Zd "Builder"=some (some (.ref C)))
  (w:PySem.W.plainGet K C Str.empty=true) (B:PySem.W.hasDictIn K C=true) (v:PySem.W.plainOver K C=true) (u:PySem.W.findIn K (.ref C) "__setattr__"=some (some (.builtin "object.__setattr__"))) (mk:PySem.W.makesIn K C=true) (A:PySem.W.keepIn K (.ref C)=true)
  (z:PySem.W.findIn K (.ref C) "floor"=some none) (y:PySem.W.findIn K (.ref C) "done"=some none) (x:PySem.W.findIn K (.ref C) "undone"=some none) (t:PySem.W.nsIn K Zd "len"=some none) (s:PySem.W.nsIn K Zd "list"=some none)
  (F0:Fm K C "__init__" "Builder.__init__" wY ["self","floor"] k d0) (O:Fm K C "put" "Builder.put" xA ["self","cell"] j r) (N:Fm K C "take" "Builder.take" xC ["self","cell"] i q) (M:Fm K C "mirror" "Builder.mirror" wZ ["self"] g p) (J:Fm K C "flip" "Builder.flip" wX ["self"] f o) (I:Fm K C "build" "Builder.build" wW ["self","word","floor"] d n) (H:Fm K C "now" "Builder.now" w6 ["self"] c l):∃ C b e,pK K a C/\Ao K C b e:=
 ⟨C,(cn k (cn j (cn i (cn g (cn f (cn d (fun _=>c))))))),(cn d0 (cn r (cn q (cn p (cn o (cn n (fun _=>l))))))),⟨⟨w,B,v,u⟩,z,y,x,PySem.W.mg_of X G E,PySem.W.mg_none_of X G t,PySem.W.mg_none_of X G s⟩,⟨mk,F0.m.1,F0.m.2,A⟩,F0.F,F0.b,O,N,M,J,I,H⟩
theorem mk_kep{K:PySem.W.Frag}{h:Heap}{a:Str->Option YP}{C k j i g f d c:JY}{d0 r q p o n l:J6}(X:K.In h)(G:h.Ns Zd a)(A:PySem.W.nsIn K Zd "Keeper"=some (some (.ref C)))
  (u:PySem.W.plainGet K C Str.empty=true) (z:PySem.W.hasDictIn K C=true) (t:PySem.W.plainOver K C=true) (s:PySem.W.findIn K (.ref C) "__setattr__"=some (some (.builtin "object.__setattr__"))) (mk:PySem.W.makesIn K C=true) (y:PySem.W.keepIn K (.ref C)=true)
  (x:PySem.W.findIn K (.ref C) "floor"=some none) (w:PySem.W.findIn K (.ref C) "sights"=some none) (v:PySem.W.findIn K (.ref C) "looks"=some none)
  (F0:Fm K C "__init__" "Keeper.__init__" wR ["self","floor"] k d0) (M:Fm K C "put_solid" "Keeper.put_solid" wT ["self","cell"] j r) (J:Fm K C "take_solid" "Keeper.take_solid" wV ["self","cell"] i q) (I:Fm K C "changed_to" "Keeper.changed_to" wQ ["self","floor","cell"] g p) (H:Fm K C "turn_over" "Keeper.turn_over" yZ ["self","couples"] f o) (E:Fm K C "now" "Keeper.now" wS ["self"] d n) (B:Fm K C "seen" "Keeper.seen" wU ["self"] c l):∃ C b e,sB K a C/\Ap K C b e:=
 ⟨C,(cn k (cn j (cn i (cn g (cn f (cn d (fun _=>c))))))),(cn d0 (cn r (cn q (cn p (cn o (cn n (fun _=>l))))))),⟨⟨u,z,t,s⟩,x,w,v,PySem.W.mg_of X G A⟩,⟨mk,F0.m.1,F0.m.2,y⟩,F0.F,F0.b,M,J,I,H,E,B⟩
theorem mk_txt{K:PySem.W.Frag}{b:Str->Option YP}{f0 f1 f2 f3 f4 f5 f6 f7 f8 f9 s r q p o n m l k j i h g f e c:JY}{d0 d1 d2 d3 d4 d5 d6 d7 d8 d9 M J I H G F E B A z y x w v u t:J6}(F0:Fo K b "is_whole" AN ["thing"] f0 d0)(F1:Fo K b "all_cells" vU ["floor"] f1 d1)(F2:Fo K b "marked" sV ["things"] f2 d2)(F3:Fo K b "mirrored" sT ["floor"] f3 d3)(F4:Fo K b "flipped" sU ["floor"] f4 d4)(F5:Fo K b "crossed" AQ ["one","other"] f5 d5)(F6:Fo K b "couples_beside" AH ["cells"] f6 d6)(F7:Fo K b "is_between" AL ["one_end","middle","other_end"] f7 d7)(F8:Fo K b "all_couples" vQ ["cells"] f8 d8)(F9:Fo K b "_law_cell" AM ["_law_script","_law_k"] f9 d9)(a9:Fo K b "is_whole_couple" AF ["thing"] s M)(a8:Fo K b "open_cells" AK ["floor"] r J)(a7:Fo K b "meets" AS ["one","other","cell"] q I)(a6:Fo K b "lets_see" AO ["solids","one","other"] p H)(a5:Fo K b "_law_drawn" AJ ["_law_script","_law_k","_law_many"] o G)(a4:Fo K b "is_cell" AR ["floor","thing"] n F)(a3:Fo K b "see_each_other" AI ["solids","one","other"] m E)(a2:Fo K b "couples_of" vT ["floor"] l B)(a0:Fo K b "_law_floor" vS ["_law_script","_law_at","_law_most"] k A)(Z:Fo K b "refuse_off_floor" AE ["floor","cell"] j z)(Y:Fo K b "is_solid" sS ["floor","cell"] i y)(X:Fo K b "with_solid" vR ["floor","cell"] h x)(U:Fo K b "without_solid" sR ["floor","cell"] g w)(T:Fo K b "refuse_not_open" AG ["floor","cell"] f v)(S:Fo K b "sights_through" nC ["floor","cell"] e u)(R:Fo K b "law" AT ["_law_script"] c t)(z0:b "isinstance"=none)(z1:b "int"=none)(z2:b "bool"=none)(z3:b "range"=none)(z4:b "dict"=none)(z5:b "sorted"=none)(z6:b "tuple"=none)(z7:b "abs"=none)(z8:b "zip"=none)(z9:b "enumerate"=none)(Q:b "len"=none)(O:b "set"=none)(N:b "list"=none):∃ a d,n9 K b a d:=by
 exact⟨(cn f0 (cn f1 (cn f2 (cn f3 (cn f4 (cn f5 (cn f6 (cn f7 (cn f8 (cn f9 (cn s (cn r (cn q (cn p (cn o (cn n (cn m (cn l (cn k (cn j (cn i (cn h (cn g (cn f (cn e (fun _=>c)))))))))))))))))))))))))),(cn d0 (cn d1 (cn d2 (cn d3 (cn d4 (cn d5 (cn d6 (cn d7 (cn d8 (cn d9 (cn M (cn J (cn I (cn H (cn G (cn F (cn E (cn B (cn A (cn z (cn y (cn x (cn w (cn v (cn u (fun _=>t)))))))))))))))))))))))))),F0,F1,F2,F3,F4,F5,F6,F7,F8,F9,a9,a8,a7,a6,a5,a4,a3,a2,a0,Z,Y,X,U,T,S,R,z0,z1,z2,z3,z4,z5,z6,z7,z8,z9,Q,O,N⟩
theorem walkZ{q:J2}{b:List Str}{u:(Str->Option YP)->Heap->Prop}{K:Params->PySem.W.Frag}{s:List JY}{n t:Nat}{r:PySem.W.RowW}{d:DefRec}{i:List (Str × Expr)}{run:YP->List YP->Sem YP}(e:∀ P,s=(K P).map (·.1))
  (h:PySem.W.WalkO q b u (fun w h=>(K w.params).In h) r d i run):PySem.W.WalkX q b u (PySem.W.X.obsZ s) (PySem.W.X.valZ K n t) r d i run:=
 fun w g f x z G y a o v I m H kV A E l F k B j c p L=>h w g f x z G (PySem.W.InK.keeps w _ _ (PySem.W.X.z_facts e y).2.1 L.keeps) a o v I m H kV A E l F k B j c p
theorem walk{l:PySem.W.OpenLaw}{q:J2}{b:List Str}{p:(Str->Option YP)->Heap->Prop}{e:J5->Heap->Prop}{d:DefRec}{K:Params->PySem.W.Frag}(i:l.most=some 63)(c:d.params.defaults=[])
  (m:∀(w:J5) (h:Heap),e w h->(K w.params).In h)
  (F:∀(w:J5) (mg:Str->Option YP) (fa:JY) (h:Heap),(K w.params).In h->h.Ns Zd mg->mg d.name=some (.ref fa)->
   ∃ fd:J6,(∀(s:JZ) (u:YP),BindsTo s fd ⟨[u],[]⟩ [("_law_script",u)])/\∀ base:Heap,(K w.params).In base->base.Ns Zd mg->aM l.prog w (K w.params) mg base aO 8 fa fd ["_law_script"] (zJ (K w.params) kU)):
  PySem.W.WalkO q b p e l.row.toRowW d [] (fun f vs=>PySem.call f vs):=
 L2.walk_of (n:=63) (k:=8) (x:="_law_script") (CX:=fun _=>aO) (sp:=fun w=>zJ (K w.params) kU) i (by decide) c ⟨rfl,by decide,by decide,rfl⟩ m F (fun _ _ a g j _ o=>⟨a,g,rfl,o,j,fun _=>rfl⟩) fun _ _ _ _ _ z=>z
end My
open PySem PySem.W PyProof.Rows
namespace PySem.W.Fast
def tw2858688803990540608:=0
def tw6457966441400122062:=0
def tw10733999122696824997:=0
def tw9238039893444328421:=0
def tw889498843152129048:=0
def tw1583303422012812521:=0
def tw3764067327184100103:=0
def tw16299844026349919493:=0
def tw11456900366291000938:=0
def tw5181570846852115202:=0
def tw11086249489604208691:=0
def tw8837359518090023106:=0
def tw11626972173697914373:=0
def tw6668516014803677398:=0
def tw22441840804584532:=0
def tw8469439652962770887:=0
def tw2053174183818722335:=0
def tw16619625019698464521:=0
def tw14302729962715775573:=0
def tw14197666290932192569:=0
def tw4049416480327390390:=0
def tw14416322939744281335:=0
def tw14863761281073369703:=0
def tw12674152847940482581:=0
def tw15924793506286257812:=0
def tw17133514587971926221:=0
def tw11580985255323837633:=0
def tw801506792128417409:=0
def tw15522042572304430419:=0
def tw7946495044536673619:=0
def tw9552434684152722193:=0
def tw8776723082174289381:=0
def tw1594739145644533573:=0
def tw3157553023380518788:=0
def tw7299849406470470509:=0
def tw2051910580772891296:=0
def tw4090351671060599521:=0
def tw13365738718210625617:=0
def tw8436202227516313854:=0
def tw12971101596968435318:=0
def tw2314419518782687510:=0
def tw1442412088156961239:=0
def tw3083836360873659413:=0
def tw1850429515978302962:=0
def tw17882576433309528097:=0
def tw13784871986997342362:=0
def tw68565799764820227:=0
def tw1416012191492118385:=0
def tw9107258485488614009:=0
def tw17262984568841967053:=0
def tw12574054607948944838:=0
def tw9869806100810902160:=0
def tw8381259008339330442:=0
def tw10923955520299608410:=0
def tw8751605304250493180:=0
def tw6317516629947781360:=0
def tw4463197273737107855:=0
def tw2074379410620734160:=0
def tw2240490482587980801:=0
def tw9620792763585575276:=0
def tw7282431314104446334:=0
def tw11679006095520342973:=0
def tw8926591528470622525:=0
def tw14180147605417666099:=0
def tw7136145416330463167:=0
def tw2431377778254984940:=0
def tw2076761085525161336:=0
def tw13404488939031485446:=0
def tw3269313815406937980:=0
def tw1498159509057235552:=0
def tw9933456119513933170:=0
def tw16754014139044054532:=0
def tw10723015658718626498:=0
def tw8702775954586203795:=0
def tw1168853361138209865:=0
def tw10017890489972693503:=0
def tw17122226328800371170:=0
def tw11690810590247726328:=0
def tw11769490238072002381:=0
def tw16936820480282034744:=0
def tw9614559149609526067:=0
def tw5070416877962368915:=0
def tw10029500073298222672:=0
def tw13985620787005280727:=0
def tw8040244379541933471:=0
def tw2067179080013898850:=0
def tw10977788512282492806:=0
def tw18292338168405251116:=0
def tw16416763940967842490:=0
def tw4379026717398787009:=0
def tw2596834117318644585:=0
def tw10717116641464057554:=0
def tw2785855781995030936:=0
def tw15986498628321890616:=0
def tw2294524432477329436:=0
def tw4753271994352737519:=0
def tw54331217262607171:=0
def tw16816091669582232864:=0
def tw15397618254463942455:=0
def tw10627368323552618693:=0
def tw7167912915946433932:=0
def tw11700670574819245267:=0
def tw10895701174629675636:=0
def tw3244102884788547812:=0
def tw16535920268722310165:=0
def tw8911795952325162350:=0
def tw247444614901651884:=0
def tw9509635357511312763:=0
def tw14855091347740904438:=0
def tw14585158257431841882:=0
def tw3052910636226233845:=0
def tw12735445530572049333:=0
def tw8677121169675344159:=0
def tw9751515305935439814:=0
def tw13660170901065954173:=0
def tw4474578968993926442:=0
def tw5812695236417888060:=0
def tw3441356061695291719:=0
def tw5383372024070825973:=0
def tw14858668524586196378:=0
def tw7418048106597836634:=0
def tw17022138731958867023:=0
def tw15091399888440061079:=0
def tw8771315902844643248:=0
def tw15615041588738249616:=0
def tw10630908885010171667:=0
def tw6546824392570474244:=0
def tw6208202464510673292:=0
def tw6751007709129813030:=0
def tw2362552577148670161:=0
def tw6400138763930904208:=0
def tw13925479357973152349:=0
def tw10746488139675638238:=0
def tw6980672562508353777:=0
def tw1360776520770949303:=0
def tw17840166792657178404:=0
def tw17384196890138211153:=0
def tw3856643699395181883:=0
def tw17213928612290345397:=0
def tw14409908073007470461:=0
def tw12678318287756176044:=0
def tw11026153012832598513:=0
def tw505764797029402430:=0
def tw908225404880096241:=0
def tw8077096399483719962:=0
def tw6164960063940981695:=0
def tw15891404603244488935:=0
def tw16624963387332176852:=0
def tw11537941038466829126:=0
def tw11260012014212321940:=0
def tw2118373524144685790:=0
def tw12338746646142213793:=0
def tw15687654631839017552:=0
def tw17451825954792602277:=0
def tw17804470453095104195:=0
def tw16691394280279530660:=0
def tw9522317211382660802:=0
def tw2875641643094511710:=0
def tw7951718754982785294:=0
def tw9197064523906871434:=0
def tw5285089354767333778:=0
def tw18292321753472083765:=0
def tw11407907245418467735:=0
def tw144356902666594498:=0
def tw12751802776270417318:=0
def tw10034992813012121050:=0
def tw16074311840157434908:=0
def tw1670324000311306611:=0
def tw3163353676764525283:=0
def tw14610624173822858955:=0
def tw16552675569661811008:=0
def tw9645097162774269716:=0
def tw1107250742409112342:=0
def tw10095917222570871859:=0
def tw18157503422717362659:=0
def tw1893816796505980191:=0
def tw14378936769112724546:=0
def tw3377514703082389624:=0
def tw16936527588915297833:=0
def tw701215637509554415:=0
def tw8377111789419045242:=0
def tw7634323620623763290:=0
def tw2992697568397019294:=0
def tw14779034647706409471:=0
def tw4962475140550031709:=0
def tw13572817741625817506:=0
def tw15679162413804191029:=0
def tw674336916862544714:=0
def tw16147162971592005211:=0
def tw2773750772761339676:=0
def tw13441112426355971063:=0
def tw12556612863588152430:=0
def tw2201075357114944840:=0
def tw8276659971369783783:=0
def tw4829167316552521785:=0
def tw4244817194321397426:=0
def tw5733639541753979484:=0
def tw4197907737137500998:=0
def tw5151792576595724887:=0
def tw3548772400330272976:=0
def tw4637407972512279317:=0
def tw853544682093634376:=0
def tw9912142602505385138:=0
def tw16047322379489459912:=0
def tw3976543989567837162:=0
def tw2981895690089410916:=0
def tw15333422075650113371:=0
def tw4670088503882047296:=0
def tw9444312753569272128:=0
def tw10233241024327852806:=0
def tw1582371832762250921:=0
def tw3298073853755804083:=0
def tw13550662026936049624:=0
def tw7682599403319930264:=0
def tw1262608603002001762:=0
def tw17376381811442954755:=0
def tw9405275529717485365:=0
def tw15318974606502732300:=0
def tw6350339288543460635:=0
def tw9308100905135032374:=0
def tw16844101619961730103:=0
def tw17135674036578706712:=0
def tw4046619475444275971:=0
def tw14383916371076319721:=0
def tw6124484979010607975:=0
def tw11340611777343462554:=0
def tw8473353365228814718:=0
def tw15467581845152066185:=0
def tw10230215765751685388:=0
def tw16287113899788025544:=0
def tw6864736316915000174:=0
def tw3518326718247725721:=0
def tw13363819025875221046:=0
def tw4808839045349388567:=0
def tw5001319626765866688:=0
def tw7220249052700155621:=0
def tw10460319180946145172:=0
def tw16659041237200250076:=0
def tw2754040244054570750:=0
def tw3512011923510778348:=0
def tw6342862576781897618:=0
def tw4322831323127928856:=0
def tw3479577282359194715:=0
def tw12700159243786980776:=0
def tw8192247019037271171:=0
def tw8493580361560958329:=0
def tw8150705576807916373:=0
def tw15012908290759626994:=0
def tw10380659564267330637:=0
def tw13989527553084106483:=0
def tw10598696165523198104:=0
def tw15707534637530211875:=0
def tw2558491419535248674:=0
def tw18337456314921080851:=0
def tw16102936483429169370:=0
def tw7833648719169680405:=0
def tw13445123557071728219:=0
def tw16770562235947362369:=0
def tw10668341501974842558:=0
def tw1089063413131341372:=0
def tw10946197316294781278:=0
def tw7335065285529167540:=0
def tw14635177024202185077:=0
def tw10903962340100891129:=0
def tw10161744505372919105:=0
def tw2150114495137060041:=0
def tw5681724636861491753:=0
def tw18009084620633384333:=0
def tw3771005019831869284:=0
def tw14609244251808820210:=0
def tw9136889831415308591:=0
def tw17465828261742016055:=0
def tw16234147165840465876:=0
def tw843434675522349911:=0
def tw13637808554823359582:=0
def tw644789558642669699:=0
def tw2174232582089358419:=0
def tw15537736541015499345:=0
def tw16252678735163371097:=0
def tw17614681302761058689:=0
def tw11577942625415579880:=0
def tw3571598814798803646:=0
def tw1745278117733208350:=0
def tw3393384448325132778:=0
def tw14423198785184398428:=0
def tw16513439897711748076:=0
def tw4628619212643301508:=0
def tw3849944998218962954:=0
def tw12205891906159011888:=0
def tw9075931062255653757:=0
def tw9858677529084651650:=0
def tw14477681299461509524:=0
def tw17823249162644933353:=0
def tw4743133436540362299:=0
def tw13266051075349940842:=0
def tw5502274018975250152:=0
def tw5774001588847184201:=0
def tw9054435790963801461:=0
def tw11133086269477046013:=0
def tw5270177578084871476:=0
def tw5926094403702037677:=0
def tw6818916329964922503:=0
def tw13070602386923760504:=0
def tw7363297194543821078:=0
def tw6044093791941139504:=0
def tw4145754983559928245:=0
def tw5230016149549370274:=0
def tw16025379433547950147:=0
def tw16431982733169422118:=0
def tw8986867415244996972:=0
def tw6159853214312028716:=0
def tw8620412380872947265:=0
def tw15060312135214372116:=0
def tw5692457252263614788:=0
def tw7711440398496211548:=0
def tw9864971969378098613:=0
def tw10524423868304378332:=0
def tw3310216880962812565:=0
def tw13563811330040521640:=0
def tw14761651024736498931:=0
def tw14930431792522621128:=0
def tw3187536607625992514:=0
def tw1083870062009589842:=0
def tw3470590857256150845:=0
def tw17734007158491294421:=0
def tw16373931872197950642:=0
def tw10843052372167091317:=0
def tw16314905954213783081:=0
def tw763953401082272723:=0
def tw18110735816439260678:=0
def tw13603415514219173530:=0
def tw6015972294970376831:=0
def tw5680797044132529896:=0
def tw15576918579577717540:=0
def tw17637083992220976983:=0
def tw7261130904679793167:=0
def tw10735262624890440622:=0
def tw4994260350415318564:=0
def tw10258801199952602659:=0
def tw8826878230036914407:=0
def tw15142265440629838261:=0
def tw10131023166902014591:=0
def tw4283162334719768041:=0
def tw4130642122105907615:=0
def tw16549359957629693676:=0
def tw18106928908205974077:=0
def tw15346507225266133262:=0
def tw693274850419851329:=0
def tw1038083505988608280:=0
def tw3575670701571433070:=0
def tw4965440986147856979:=0
def tw17464763665128636533:=0
def tw16264912171371542814:=0
def tw11573250744164914353:=0
def tw7681027159065361927:=0
def tw17215620568517550363:=0
def tw14889436271783518349:=0
def tw6293396878147309582:=0
def tw12095829137196907364:=0
def tw10306767845751072574:=0
def tw265447462177515176:=0
def tw12737625038184189334:=0
def tw3307999174697386520:=0
def tw16343299933372409314:=0
def tw10741928800038813679:=0
def tw384335328933607567:=0
def tw9579694985524743423:=0
def tw2118744868681675348:=0
def tw16951369145471758317:=0
def tw11504905558022965934:=0
def tw14054484393776623348:=0
def tw2072556529282896800:=0
def tw15305969682107002891:=0
def tw10860446434407897325:=0
def tw12209995656371563612:=0
def tw15288607247207913220:=0
def tw3775990189529952779:=0
def tw10805456065887552733:=0
def tw10779442424809953985:=0
def tw14213595826281187549:=0
def tw3403455211194228726:=0
def tw518646812452213035:=0
def tw14568176098877262995:=0
def tw17733425749157059924:=0
end PySem.W.Fast
set_option maxRecDepth 100000 in
set_option maxHeartbeats 0 in
theorem PySem.Challenge.cw_lampfloor_k43_whole_builders_holds : PySem.Challenge.rw_lampfloor_k43_whole_builders.Holds := by
 w_on;o_law;z_head;(case hw=>w_witness2)
 k_fill
 refine My.walkZ (fun _=>rfl) (My.walk (l:=PySem.Challenge.rw_lampfloor_k43_whole_builders) rfl rfl (fun w h Y=>Y) ?F)
 case F=>
  intro w mg fa h KX G hmg
  refine' My.all_mk My.main hmg (My.mk_txt (My.fo1 KX G rfl (fun _=>rfl) ?_ ?_ ?_ ?_) (My.fo1 KX G rfl (fun _=>rfl) ?_ ?_ ?_ ?_) (My.fo1 KX G rfl (fun _=>rfl) ?_ ?_ ?_ ?_) (My.fo1 KX G rfl (fun _=>rfl) ?_ ?_ ?_ ?_) (My.fo1 KX G rfl (fun _=>rfl) ?_ ?_ ?_ ?_) (My.fo2 KX G rfl (fun _ _=>rfl) ?_ ?_ ?_ ?_) (My.fo1 KX G rfl (fun _=>rfl) ?_ ?_ ?_ ?_) (My.fo3 KX G rfl (fun _ _ _=>rfl) ?_ ?_ ?_ ?_) (My.fo1 KX G rfl (fun _=>rfl) ?_ ?_ ?_ ?_) (My.fo2 KX G rfl (fun _ _=>rfl) ?_ ?_ ?_ ?_) (My.fo1 KX G rfl (fun _=>rfl) ?_ ?_ ?_ ?_) (My.fo1 KX G rfl (fun _=>rfl) ?_ ?_ ?_ ?_) (My.fo3 KX G rfl (fun _ _ _=>rfl) ?_ ?_ ?_ ?_) (My.fo3 KX G rfl (fun _ _ _=>rfl) ?_ ?_ ?_ ?_) (My.fo3 KX G rfl (fun _ _ _=>rfl) ?_ ?_ ?_ ?_) (My.fo2 KX G rfl (fun _ _=>rfl) ?_ ?_ ?_ ?_) (My.fo3 KX G rfl (fun _ _ _=>rfl) ?_ ?_ ?_ ?_) (My.fo1 KX G rfl (fun _=>rfl) ?_ ?_ ?_ ?_) (My.fo3 KX G rfl (fun _ _ _=>rfl) ?_ ?_ ?_ ?_) (My.fo2 KX G rfl (fun _ _=>rfl) ?_ ?_ ?_ ?_) (My.fo2 KX G rfl (fun _ _=>rfl) ?_ ?_ ?_ ?_) (My.fo2 KX G rfl (fun _ _=>rfl) ?_ ?_ ?_ ?_) (My.fo2 KX G rfl (fun _ _=>rfl) ?_ ?_ ?_ ?_) (My.fo2 KX G rfl (fun _ _=>rfl) ?_ ?_ ?_ ?_) (My.fo2 KX G rfl (fun _ _=>rfl) ?_ ?_ ?_ ?_) (My.fo1 KX G rfl (fun _=>rfl) ?_ ?_ ?_ ?_) (mg_none_of KX G ?_) (mg_none_of KX G ?_) (mg_none_of KX G ?_) (mg_none_of KX G ?_) (mg_none_of KX G ?_) (mg_none_of KX G ?_) (mg_none_of KX G ?_) (mg_none_of KX G ?_) (mg_none_of KX G ?_) (mg_none_of KX G ?_) (mg_none_of KX G ?_) (mg_none_of KX G ?_) (mg_none_of KX G ?_)) (My.mk_obj KX G ?_ ?_ ?_ ?_ ?_ ?_ ?_ ?_ ?_ ?_ ?_ ?_ (My.fm2 rfl (fun _ _=>rfl) ?_ ?_ ?_ ?_ ?_) (My.fm2 rfl (fun _ _=>rfl) ?_ ?_ ?_ ?_ ?_) (My.fm2 rfl (fun _ _=>rfl) ?_ ?_ ?_ ?_ ?_) (My.fm1 rfl (fun _=>rfl) ?_ ?_ ?_ ?_ ?_) (My.fm1 rfl (fun _=>rfl) ?_ ?_ ?_ ?_ ?_) (My.fm3 rfl (fun _ _ _=>rfl) ?_ ?_ ?_ ?_ ?_) (My.fm1 rfl (fun _=>rfl) ?_ ?_ ?_ ?_ ?_)) (My.mk_kep KX G ?_ ?_ ?_ ?_ ?_ ?_ ?_ ?_ ?_ ?_ (My.fm2 rfl (fun _ _=>rfl) ?_ ?_ ?_ ?_ ?_) (My.fm2 rfl (fun _ _=>rfl) ?_ ?_ ?_ ?_ ?_) (My.fm2 rfl (fun _ _=>rfl) ?_ ?_ ?_ ?_ ?_) (My.fm3 rfl (fun _ _ _=>rfl) ?_ ?_ ?_ ?_ ?_) (My.fm2 rfl (fun _ _=>rfl) ?_ ?_ ?_ ?_ ?_) (My.fm1 rfl (fun _=>rfl) ?_ ?_ ?_ ?_ ?_) (My.fm1 rfl (fun _=>rfl) ?_ ?_ ?_ ?_ ?_))
  any_goals k_is
