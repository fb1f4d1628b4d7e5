import PyProof.Rows.All
import Wide.All
import OpenK.AllK
import Wide.FinOn
import PySem.Challenge.RW_lampfloor_k41_whole_keeper
noncomputable section
open PySem renaming wpAny_bind->Qa,wpAny_pure->Qb,wpAny_setState_of->QK,sizeLine_eq->Q5,wpAny_holding->Q7,wpAny_call_entry->Yh,wpAny_newObj_type->Yn,wpAny_forIn_list->Yo,wpAny_callSpecial?_slot->Yt,wpAny_truthy_bool->YB,codeAny_builtin->YS,wpAny_Call_Name_kw->YT,wpAny_storeSet_of->Y7,putSet_of->Jd,wpAny_isInstance->Je,wpAny_typeOf->Jg,wpAny_seqItems->Ji,wpAny_typeNameOfWhole_keyiter->Jj,wpAny_rule->Jm,codeAny_mono->Jn,wpAny_mono->Jp,wpAny_passesOwn->Ju,wpAny_specialOf->Jv,wpAny_setField->JE,plainId_quiet->JR,wpAny_dictEntries->JV,wpAny_setEntries_of->J1,wpAny_field->J7
open List renaming getElem?_eq_some_iff->Qc,getElem?_eq_getElem->Qe,mem_cons_of_mem->Qf,length_map->Qi,mem_cons_self->Qk,mem_cons->Ql,length_append->Qo,map_cons->Qp,getElem?_set_ne->Qq,mem_append_right->Qu,length_cons->Qv,getElem?_set_self->Qw,mem_append->QC,getElem?_map->QE,mem_singleton->QF,append_assoc->QG,size_toArray->QH,getElem?_append_right->QI,mem_map->QM,mem_of_getElem?->QN,append_nil->QP,getElem?_of_mem->QQ,getElem?_append_left->QR,length_take->QS,lookup_cons->QT,take_append_drop->QU,mem_range->QY,pairwise_cons->Q1,mem_append_left->Q2,pairwise_append->Q9,all_eq_true->Yb,nodup_cons->Yc,map_append->Yd,length_filter_le->Ye,pairwise_map->Yf,length_drop->Yg,length_range->Yj,length_singleton->Yk,drop_eq_getElem_cons->Yl,mem_filter->Ym,contains_iff_mem->YA,map_map->YE,getD_eq_getElem?_getD->YF,nodup_nil->YH,getElem_mem->YJ,pairwise_iff_getElem->YK,getElem?_zip_eq_some->YM,getElem?_set->YN,foldl_cons->YR,getElem?_replicate->YX,drop_eq_nil_of_le->Y4,take_of_length_le->Y5,getElem?_eq_none->Jb,cons_append->Jc,filterMap_cons_some->Jh,filter_congr->Jl,not_mem_nil->Jo,perm_ext_iff_of_nodup->Js,filter_sublist->Jz,filter_cons_of_neg->JF,all_eq_not_any_not->JG,eq_nil_of_length_eq_zero->JH,zip_cons_cons->JI,getElem?_take->JK,nil_append->JM,any_cons->JS,mem_iff_getElem->JW,filterMap_cons->J0,length_nil->J4
open Array renaming length_toList->Qd,getElem?_eq_getElem->Qx,getElem?_toList->QA,toList_append->Q6,getElem?_eq_none->Yx,forIn_toList->YG,size_map->YO,perm_iff_toList_perm->Y2,toList_filterMap->Y6,toList_push->Jw
open Bool renaming false_eq_true->Qg,false_ne_true->Qr,and_eq_true->QL,and_eq_true_iff->QO,not_true->Q0,not_eq_true'->YD,eq_iff_iff->Y9,not_false->Jr,or_eq_true->JN,true_and->JQ,and_false->JX,not_eq_true->JZ,and_self->J2,and_true->J3
open PySem.Heap renaming get?_push_of_some->Qh,lt_size->Qs,get?_push_size->Qy,get?_update_self->Ya,size_push->Ys
open Option renaming bind_some->Qj
open Nat renaming le_refl->Qm,ne_of_lt->Qz,le_trans->QJ,le_add_right->QV,lt_of_lt_of_le->QX,zero_add->Q3,zero_le->Q8,not_lt_zero->Yy,le_of_lt->YQ,lt_of_le_of_lt->YU,eq_or_lt_of_le->YV,le_of_not_lt->YY,add_sub_cancel_left->YZ,mul_le_mul->Y8,ne_of_gt->Jf,lt_succ_of_lt->Jk,lt_succ_self->JA,lt_irrefl->JO,add_assoc->JP,le_of_lt_succ->JU,add_zero->JY
open PyProof.Rows renaming wpS_bind->Qt,wpS_pure->QD,wpS_forRange->Yw,callWith_type1->YC,slot_tuple_getitem->Ja,callWith_builtin1->JB,wpS_mono->JC,KK_mirror_equal->J5,wpS_modify->J6
open Option.some renaming inj->QB
open PySem.Heap.SameBut renaming update->QW
open PySem.SeqAt renaming canLay_of_shaped->QZ
open PyProof.Rows.KeyOrd renaming kle_trans->Yi,kle_refl->Yr,kle_of_klt->Y3
open PySem.SetTable renaming insertAt_perm->Yp
open PySem.List renaming filterMap_getElem?_range_length->Yq
open List.Nodup renaming length_le_of_subset->Yu
open PyProof.Rows.F renaming plain_set_update_loop->Yv,entry_set_update_loop->JD
open LawfulBEq renaming eq_of_beq->Yz
open PySem.PassesOwn renaming never->YI
open Classical renaming byContradiction->YL
open PySem.Obj renaming data_mapFields->YW,isFreed_of_fields->JT
open PySem.Around renaming under_plainId->Y0
open Int renaming toNat_natCast->Y1,natCast_nonneg->Jq,ofNat_lt->Jx,toNat_of_nonneg->Jy,emod_lt_of_pos->JJ
open PySem.F renaming slot_tuple_iterator_next->Jt
open Prod renaming ext->JL
open PySem renaming Value->YP,Addr->J8,Shared->J9,starEach->Za,wpAny->Zb,model->Zc,Program->Zd,World->Zf,cLine->Zi,compareOp->Zm,FuncData->Zp,eval->Zr,mainGlobals->Zv,backTo->Zw,bootBuiltins->ZD,Stmt->ZE,binaryOp->ZH,swapsWith->ZI,attributeBase->ZM,wpAny_loadPart'->ZP,behindInMarks->ZR,keywordEach->ZS,sysModules->ZT,foldedSetIterable->ZX,bindArgs->Z7,ofAClassStatement->Ub,assignEach->Uc,firstArgMember->Ug,codeAny->Ui,Scope->Ul,backToKw->Um,setSearchFrom->Ut,filterMap_getElem?_range->Uu,Keyword->Uw,pyNext->Uy,wpAny_pyIter_tuple->UA,sliceBounds->UB,DictEntry->UC,holding->UE,wpAny_pyIter_list->UH,searchCouldBeSeen->UI,isSubtype_type->UK,wpAny_isSame_ref_self->UM,weight_type_call_type->UN,builtinLookup_eq_fast->UO,wpAny_notOrdered_dict->UP,isSubtype_tuple_tuple->UQ,rawInt->UR,wpAny_askSetting->UT,wpAny_attempt->UV,NameKind->UX,wpAny_of_eq->UZ,codeAny_call_builtin->U0,wpAny_execs_nil->U1,codeAny_of_tree->U3,getMethod->U8,entryOfKey->U9,GenState->Vc,wpAny_fieldsOf->Vg,intKind->Vh,hashByValue->Vl,storedH->Vn,IsPart->Vr,atKey->Vs
open PySem.Value renaming ref->Ze,none->Zz,type->ZK,bool->Z3,isInt_shape->UD,int->U7
open PyProof.Rows renaming arrOf->Zg,Keyed->Zs,pendingOf->Zu,SortSt->ZJ,setArr->ZV,IntsAre->Z1,SortKind->Z2,failedOf->Uq,seqObj->UF,pairsOf_size->UG,wpS_get->UU,envOfC->U2,room_in_shaped->Vd,AllBare->Vi,pairsOf->Vk,boot_sorted->Vo,wpS_lift->Vp
open PySem.PyData renaming int->Zh,canLayAll0->Zy,depthAll->ZB,bool->ZF,eqv->ZQ,list->ZY,tuple->Z6,canLay0->Uf,depth->U5
open PySem.NameKind renaming free->Zj,cell->Ur
open PySem.Heap renaming SameBut->Zk
open Or renaming inr->Zl,inl->Zx
open PySem.SetTable renaming insertAt->Zn,sizeAbove->Zo,below->ZC,runEnd->ZZ,eraseAt->Z5,fits->Z9,fill->Us,tooFull->US,turns->Ve,fresh->Vf,grown->Vq
open PySem.Builtin.Tuple renaming tupleHashOf->Zt,tupleExact->ZN,tupleItemsOf->Ue
open PySem.Obj renaming putSet->ZA,mapSeq->Uz,cls_mapFields->UL
open PySem.SeqAt renaming shaped->ZG
open False renaming elim->ZO
open PySem.Builtin.Slice renaming slicePlaces->ZU,sliceAdjust->Uj
open PySem.Builtin.SmallTypes renaming nextOf->ZW
open PySem.Builtin.Frozenset renaming addrOf->Z0,updateFrom->Z8,isAnySet->Uh,sizeOf->Uv
open PySem.Str renaming ofString->Z4
open Ne renaming symm->Ua
open True renaming intro->Ud
open PySem.Calls renaming call_function_entry->Uk
open PySem.Builtin.List renaming listTooLong->Uo
open ForInStep renaming yield->Ux
open PySem.Heap.SameBut renaming refl->UJ
open Bool renaming and_comm->UW
open PySem.SetTable.probe renaming go->UY
open Nat renaming lt_or_ge->U4,lt_trans->U6,le_succ->Vj
open PySem.Moved renaming trans->Vm
set_option Elab.async false
set_option linter.all false
set_option maxRecDepth 100000
set_option maxHeartbeats 4000000
set_option compiler.extract_closed false
set_option genInjectivity false
set_option genSizeOf false
set_option genSizeOfSpec false
set_option bootstrap.genMatcherCode false
open PySem PyProof.Rows
noncomputable section
namespace L2
open PySem.Spec
abbrev fM:=Sum Int Str
def G1:fM->YP->Bool
 | .inl k,v=>Value.isInt k v
 | .inr x,v=>Value.isStrOf x v
def Ly(w:Zf):fM->Int
 | .inl k=>hashInt k
 | .inr x=>hashStr w x
theorem k5:∀{k:fM}{v:YP},G1 k v=true->(∃ i t,k=Sum.inl i/\v=U7 i t) ∨ (∃ x t,k=Sum.inr x/\v=Value.str x t)
 | .inl i,v,h=>by
  obtain⟨t,e⟩:=UD (k:=i) (v:=v) h;exact .inl ⟨i,t,rfl,e⟩
 | .inr x,v,h=>by
  obtain⟨t,e⟩:=Value.isStrOf_shape (x:=x) (v:=v) h;exact .inr ⟨x,t,rfl,e⟩
theorem Rt(a b:Int):decide ((Sum.inl a:fM)=Sum.inl b)=(a == b):=by
 by_cases e:a=b
 ·subst e;simp
 ·have h:¬ (Sum.inl a:fM)=Sum.inl b:=fun q=>e (Sum.inl.inj q);rw [decide_eq_false h]
  exact(beq_eq_false_iff_ne.mpr e).symm
theorem Pw(a b:Str):decide ((Sum.inr a:fM)=Sum.inr b)=decide (a=b):=by
 by_cases e:a=b
 ·subst e;simp
 ·have h:¬ (Sum.inr a:fM)=Sum.inr b:=fun q=>e (Sum.inr.inj q);rw [decide_eq_false h,decide_eq_false e]
theorem Pt(a:Int)(b:Str):decide ((Sum.inl a:fM)=Sum.inr b)=false:=decide_eq_false (fun q=>nomatch q)
theorem Pu(a:Str)(b:Int):decide ((Sum.inr a:fM)=Sum.inl b)=false:=decide_eq_false (fun q=>nomatch q)
def Hm(prog:Zd)(w:Zf):PySem.KeyKind prog w fM where
 is:=G1
 hash:=Ly w
 inj:=fun v a b g d=>by
  rcases k5 g with⟨i,t,rfl,rfl⟩ | ⟨x,t,rfl,rfl⟩
  ·rcases k5 d with⟨j,u,rfl,e⟩ | ⟨y,u,rfl,e⟩
   ·injection e with e1 _;rw [e1]
   ·exact nomatch e
  ·rcases k5 d with⟨j,u,rfl,e⟩ | ⟨y,u,rfl,e⟩
   ·exact nomatch e
   ·injection e with e1 _;rw [e1]
 byValue:=fun k v h=>by
  rcases k5 h with⟨i,t,rfl,rfl⟩ | ⟨x,t,rfl,rfl⟩ <;> rfl
 pyHash:=fun c h=>by
  rcases k5 c with⟨i,t,rfl,rfl⟩ | ⟨x,t,rfl,rfl⟩
  ·exact wpAny_pyHash_int h
  ·exact wpAny_pyHash_str h
 eqBool:=fun f c h=>by
  rcases k5 f with⟨i,t,rfl,rfl⟩ | ⟨x,t,rfl,rfl⟩
  ·rcases k5 c with⟨j,u,rfl,rfl⟩ | ⟨y,u,rfl,rfl⟩
   ·rw [Rt]at h;exact wpAny_eqBool_int h
   ·rw [Pt]at h;exact SeqAt.EqAt.int_str i t y u _ _ _ _ h
  ·rcases k5 c with⟨j,u,rfl,rfl⟩ | ⟨y,u,rfl,rfl⟩
   ·rw [Pu]at h;exact SeqAt.EqAt.str_int x t j u _ _ _ _ h
   ·rw [Pw]at h;exact wpAny_eqBool_str h
 «strs»:=fun k x t v h=>by
  rcases k5 h with⟨i,u,rfl,e⟩ | ⟨y,u,rfl,e⟩
  ·exact nomatch e
  ·injection e with e1 _
   subst e1
   cases v <;> rfl
inductive V where
 | non | bl (b:Bool) | int (i:Int) | str (x:Str) | byt (b:Array UInt8) | flt (b:UInt64) | ref (a:J8) | ty (n:String)
 deriving DecidableEq
def RelV:V->YP->Prop
 | .non,u=>u=Zz
 | .bl b,u=>u=Z3 b
 | .int i,u=>∃ t,u=U7 i t
 | .str x,u=>∃ t,u=Value.str x t
 | .byt b,u=>∃ t,u=Value.bytes b t
 | .flt b,u=>∃ t,u=Value.float b t
 | .ref a,u=>u=Ze a
 | .ty n,u=>u=ZK n
abbrev Vals:List V->List YP->Prop:=Paired RelV
theorem Vals.length{xs:List V}{us:List YP}(r:Vals xs us):xs.length=us.length:=Paired.length r
theorem Vals.get:∀{xs:List V}{us:List YP}{i:Nat}{x:V},Vals xs us->xs[i]?=some x->∃ u,us[i]?=some u/\RelV x u
 | _,_,_,_,.nil,e=>by simp at e
 | _,_,0,_,.cons r _,e=>by simp at e;subst e;exact⟨_,rfl,r⟩
 | _,_,i+1,x,.cons _ t,e=>by
  obtain⟨u,b,a⟩:=Vals.get (i:=i) (x:=x) t (by simpa using e)
  exact⟨u,by simpa using b,a⟩
theorem Vals.append:∀{xs ys:List V}{us ws:List YP},Vals xs us->Vals ys ws->Vals (xs++ys) (us++ws)
 | _,_,_,_,.nil,s=>s
 | _,_,_,_,.cons r t,s=>.cons r (Vals.append t s)
theorem Vals.take:∀{xs:List V}{us:List YP} (n:Nat),Vals xs us->Vals (xs.take n) (us.take n)
 | _,_,0,_=>.nil
 | _,_,_+1,.nil=>.nil
 | _,_,n+1,.cons r t=>.cons r (Vals.take n t)
theorem Vals.drop:∀{xs:List V}{us:List YP} (n:Nat),Vals xs us->Vals (xs.drop n) (us.drop n)
 | _,_,0,r=>r
 | _,_,_+1,.nil=>.nil
 | _,_,n+1,.cons _ t=>Vals.drop n t
def jU:Option V->Option YP->Prop
 | some v,some u=>RelV v u
 | none,none=>True
 | _,_=>False
def KV{κ:Type}:List (κ × V)->List (κ × YP)->Prop:=Paired fun(p:κ × V) (q:κ × YP)=>p.1=q.1/\RelV p.2 q.2
def kV:fM->V
 | .inl i=>.int i
 | .inr x=>.str x
inductive HO where
 | lst (xs:List V)
 | tup (xs:List V)
 | dK (kvs:List (fM × V)) | dT (kvs:List (List fM × V))
 | set (S:Int->Bool) (n:Nat)
 | ins (C dx:J8) (fs:List (Str × V))
 | own (x:J8)
 | xd (fs:List (Str × V))
 | met (f x:J8)
 | rng (lo hi:Int)
 | frz (o:Obj) (u:HO)
 | tbl (ps:Array YP)
 | ext (φ:Heap->Prop)
abbrev Hp:=J8->Option HO
def aJ(H:Hp)(a:J8)(o:HO):Hp:=fun b=>if b=a then some o else H b
theorem cO{H:Hp}{a:J8}{o:HO}:aJ H a o a=some o:=by unfold aJ;rw [if_pos rfl]
theorem aX{H:Hp}{a b:J8}{o:HO}(h:b≠a):aJ H a o b=H b:=by unfold aJ;rw [if_neg h]
theorem Cn{H:Hp}{a b:J8}{o u:HO}(h:H a=some o)(h':H b=some u)(d:o≠u):a≠b:=by
 intro e;subst e;rw [h]at h';exact d (QB h')
theorem iF{H:Hp}{a b:J8}{o:HO}(h:H a=some o)(h':H b=none):a≠b:=by
 intro e;subst e;rw [h]at h';cases h'
section
variable (P:Zd)(w:Zf)
def eH(H:Hp)(h:Heap)(a:J8):HO->Prop
 | .lst c=>c.length<=sizeLine/\∃(its:List YP) (n:Nat),Vals c its/\h.get? a=some { cls:=.type "list",data:=.seq its.toArray n }
 | .tup c=>c.length<=sizeLine/\∃ its:List YP,Vals c its/\IsTup h a its.toArray
 | .dK b=>b.length<=sizeLine/\(a == ZT)=false/\∃ vs,KV b vs/\h.DictOf (Hm P w) a vs
 | .dT b=>b.length<=sizeLine/\(a == ZT)=false/\∃ c:List (List fM × J8 × YP),
   Paired (fun(p:List fM × V) (q:List fM × J8 × YP)=>p.1=q.1/\H q.2.1=some (.tup (p.1.map kV))/\RelV p.2 q.2.2) b c /\
   ∃ o es ep,h.get? a=some o/\o.ExactDict/\o.data=.dict es ep/\es.toList=c.map (U9 (tupleKind (Hm P w)))/\(c.map (·.1)).Nodup
 | .set S n=>h.SetOf (Vh P w) a S n
 | .ins C d fs=>H d=some (.own a)/\fs.length<=1000/\d≠a/\h.get? a=some (PySem.W.instObj C d) /\
   ∃ mA,h.Ns1 d mA/\(∀ f,jU (fs.lookup f) (mA f))/\PySem.Within mA (fs.map (·.1))
 | .own _=>∃ o,h.get? a=some o
 | .xd fs=>∃ mA,h.Ns1 a mA/\∀ f,jU (fs.lookup f) (mA f)
 | .rng g i=>∃ t u v,h.get? a=some { cls:=.type "range",data:=.fields #[.int g t,.int i u,.int 1 v] }
 | .frz o u=>h.get? a=some o/\eH H h a u
 | .tbl e=>h.get? a=some { cls:=.none,data:=.fields e }
 | .met f x=>h.get? a=some (PySem.W.methodObj (.ref f) (.ref x))
 | .ext φ=>φ h/\(∃ o,h.get? a=some o)/\∀ h1 h2:Heap,φ h1->(∀ o,h1.get? a=some o->h2.get? a=some o)->φ h2
def c4(H:Hp)(h:Heap):Prop:=∀ a o,H a=some o->eH P w H h a o
end
section
variable {P:Zd}{w:Zf}{H H':Hp}{h h':Heap}{a:J8}{o:HO}
theorem eH.lt(x:eH P w H h a o):a<h.objs.size:=by
 cases o with
 | lst c=>obtain⟨_,_,_,_,e⟩:=x;exact Qs e
 | tup c=>obtain⟨_,_,_,p⟩:=x;exact p.lt
 | dK b=>obtain⟨_,_,_,_,o,_,_,e,_⟩:=x;exact Qs e
 | dT b=>obtain⟨_,_,_,_,o,_,_,e,_⟩:=x;exact Qs e
 | set S n=>obtain⟨o,_,_,_,e,_⟩:=x;exact Qs e
 | ins C k fs=>obtain⟨_,_,_,e,_⟩:=x;exact Qs e
 | own y=>obtain⟨_,e⟩:=x;exact Qs e
 | xd fs=>obtain⟨_,⟨_,_,_,e,_⟩,_⟩:=x;exact Qs e
 | rng i j=>obtain⟨_,_,_,e⟩:=x;exact Qs e
 | frz g u=>obtain⟨e,_⟩:=x;exact Qs e
 | tbl d=>exact Qs (show h.get? a=some _ from x)
 | met f y=>exact Qs (show h.get? a=some _ from x)
 | ext φ=>obtain⟨_,⟨_,e⟩,_⟩:=x;exact Qs e
theorem Paired.mapP{d c:Type}{F G:d->c->Prop}:∀{l₁:List d}{l₂:List c},Paired F l₁ l₂->(∀ a b,F a b->G a b)->Paired G l₁ l₂
 | _,_,.nil,_=>.nil
 | _,_,.cons r t,f=>.cons (f _ _ r) (Paired.mapP t f)
theorem eH.stay(x:eH P w H h a o)(k:∀ b u,(b=a ∨ H b=some (.own a))->h.get? b=some u->h'.get? b=some u)
  (K:∀ b,H b=some (.own a)->H' b=some (.own a)) (J:∀ b xs,H b=some (.tup xs)->H' b=some (.tup xs)):eH P w H' h' a o:=by
 induction o with
 | lst xs=>obtain⟨z,l,n,r,e⟩:=x;exact⟨z,l,n,r,k _ _ (.inl rfl) e⟩
 | tup xs=>obtain⟨z,l,r,g,e,c⟩:=x;exact⟨z,l,r,g,k _ _ (.inl rfl) e,c⟩
 | dK A=>obtain⟨z,y,F,r,g,i,j,e,c⟩:=x;exact⟨z,y,F,r,g,i,j,k _ _ (.inl rfl) e,c⟩
 | dT A=>
  obtain⟨z,y,xs,r,g,i,j,e,c⟩:=x
  exact⟨z,y,xs,Paired.mapP r fun p q z=>⟨z.1,J _ _ z.2.1,z.2.2⟩,g,i,j,k _ _ (.inl rfl) e,c⟩
 | set S n=>obtain⟨g,i,j,t,e,c⟩:=x;exact⟨g,i,j,t,k _ _ (.inl rfl) e,c⟩
 | ins C Q fs=>
  obtain⟨d,z,G,e,s,⟨m,i,j,M,c⟩,r⟩:=x
  exact⟨K _ d,z,G,k _ _ (.inl rfl) e,s,⟨m,i,j,k _ _ (.inr d) M,c⟩,r⟩
 | own y=>obtain⟨g,e⟩:=x;exact⟨g,k _ _ (.inl rfl) e⟩
 | xd fs=>obtain⟨s,⟨m,i,j,e,c⟩,r⟩:=x;exact⟨s,⟨m,i,j,k _ _ (.inl rfl) e,c⟩,r⟩
 | rng N O=>obtain⟨t,u,v,e⟩:=x;exact⟨t,u,v,k _ _ (.inl rfl) e⟩
 | frz g u I=>obtain⟨e,q⟩:=x;exact⟨k _ _ (.inl rfl) e,I q⟩
 | tbl E=>
  have e:h.get? a=some { cls:=.none,data:=.fields E }:=x
  show h'.get? a=some { cls:=.none,data:=.fields E }
  exact k a _ (.inl rfl) e
 | met f y=>
  have e:h.get? a=some (PySem.W.methodObj (.ref f) (.ref y)):=x
  show h'.get? a=some (PySem.W.methodObj (.ref f) (.ref y))
  exact k a _ (.inl rfl) e
 | ext φ=>obtain⟨p,⟨o,e⟩,B⟩:=x;exact⟨B _ _ p fun o q=>k _ _ (.inl rfl) q,⟨o,k _ _ (.inl rfl) e⟩,B⟩
theorem c4.lt(x:c4 P w H h)(e:H a=some o):a<h.objs.size:=(x a o e).lt
theorem c4.fresh(x:c4 P w H h)(e:h.objs.size<=a):H a=none:=by
 cases q:H a with
 | none=>rfl
 | some u=>exact absurd (QX (x.lt q) e) (JO _)
theorem c4.kept(x:c4 P w H h)(k:∀ b u,h.get? b=some u->h'.get? b=some u):c4 P w H h':=fun a o e=>
 (x a o e).stay (fun b u _ q=>k b u q) (fun _ q=>q) fun _ _ q=>q
theorem c4.laid(x:c4 P w H h)(k:∀ b u,h.get? b=some u->h'.get? b=some u)(i:h.objs.size<=a)(d:eH P w (aJ H a o) h' a o):c4 P w (aJ H a o) h':=fun b u e=>by
 have f:=x.fresh i;by_cases g:b=a
 ·subst g;rw [cO]at e;cases e;exact d
 ·rw [aX g]at e
  exact(x b u e).stay (fun c v _ q=>k c v q) (fun c q=>by rw [aX (iF q f)];exact q) fun c j q=>by rw [aX (iF q f)];exact q
end
def Rd(H:Hp)(a:J8)(u:HO):Prop:=H a=some u ∨ ∃ o,H a=some (.frz o u)
theorem Rd.ok{P:Zd}{w:Zf}{H:Hp}{h:Heap}{a:J8}{u:HO}(r:Rd H a u)(x:c4 P w H h):eH P w H h a u:=by
 rcases r with r | ⟨o,r⟩
 ·exact x a u r
 ·obtain⟨_,q⟩:=x a _ r;exact q
def t9:Option HO->Prop
 | some (.lst _)=>True
 | some (.dK _)=>True
 | some (.dT _)=>True
 | some (.set _ _)=>True
 | some (.ins _ _ _)=>True
 | some (.ext _)=>True
 | _=>False
section
variable {P:Zd}{w:Zf}{H:Hp}{h h':Heap}{x e:J8}{o':HO}
theorem c4.write(ok:c4 P w H h)(i:t9 (H x))(he:e=x ∨ H e=some (.own x))(k:∀ b u,b≠e->h.get? b=some u->h'.get? b=some u)(n:∃ u,h'.get? e=some u)
  (m:eH P w (aJ H x o') h' x o'):c4 P w (aJ H x o') h':=fun b u q=>by
 have d:∀ c y,H c=some (.own y)->c≠x:=fun c y r z=>by subst z;rw [r]at i;exact i
 have f:∀ c g,H c=some (.tup g)->c≠x:=fun c g r z=>by subst z;rw [r]at i;exact i
 by_cases l:b=x
 ·subst l;rw [cO]at q;cases q;exact m
 ·rw [aX l]at q;by_cases a:b=e
  ·have o:H b=some (.own x):=by
    rcases he with z | z
    ·exact absurd (a.trans z) l
    ·rw [a];exact z
   rw [q]at o;cases o;obtain⟨v,p⟩:=n
   exact⟨v,by rw [a];exact p⟩
  ·refine(ok b u q).stay (fun c v j r=>k c v ?_ r) (fun c r=>by rw [aX (d c b r)];exact r) fun c g r=>by rw [aX (f c g r)];exact r
   rcases j with rfl | j
   ·exact a
   ·rintro rfl;rcases he with z | z
    ·exact d c b j z
    ·rw [j]at z;cases z;exact l rfl
end
structure Un(fs ex:List J8)(H H':Hp)(h h':Heap):Prop where
 keep:∀ b o,h.get? b=some o->H b=none->b∉fs->b∉ex->h'.get? b=some o
 slot:∀ b o,h.get? b=some o->H b=none->b∈fs->b∉ex->∃ sl,h'.get? b=some { o with slots:=sl }
 free:∀ b o,h.get? b=some o->H b=none->b∉ex->H' b=none
 there:∀ b o,h.get? b=some o->b∉ex->∃ o',h'.get? b=some o'
 tups:∀ b xs,H b=some (.tup xs)->H' b=some (.tup xs)
 frzs:∀ b o u,H b=some (.frz o u)->H' b=some (.frz o u)
 tbls:∀ b ps,H b=some (.tbl ps)->∃ more,H' b=some (.tbl (ps++more))
section
variable {fs fs' ex ex':List J8}{H H1 H2:Hp}{h h1 h2 h':Heap}{a x e:J8}{o:HO}
theorem Un.any(u:Un fs ex H H1 h h1){b:J8}{a:Obj}(q:h.get? b=some a)(n:H b=none)(c:b∉ex):∃ sl,h1.get? b=some { a with slots:=sl }:=by
 by_cases d:b∈fs
 ·exact u.slot b a q n d c
 ·exact⟨a.slots,u.keep b a q n d c⟩
theorem Un.kept(k:∀ b u,h.get? b=some u->h'.get? b=some u):Un fs ex H H h h':=
 ⟨fun b a q _ _ _=>k b a q,fun b a q _ _ _=>⟨a.slots,k b a q⟩,fun _ _ _ n _=>n,fun b a q _=>⟨a,k b a q⟩,fun _ _ q=>q,fun _ _ _ q=>q,fun _ c q=>⟨#[],by rw [q];simp⟩⟩
theorem Un.refl:Un fs ex H H h h:=Un.kept fun _ _ q=>q
theorem Un.laid(k:∀ b u,h.get? b=some u->h'.get? b=some u)(e:h.objs.size<=a)(c:H a=none):Un fs ex H (aJ H a o) h h' where
 keep:=fun b u q _ _ _=>k b u q
 slot:=fun b u q _ _ _=>⟨u.slots,k b u q⟩
 free:=fun b u q n _=>by rw [aX (Qz (QX (Qs q) e))];exact n
 there:=fun b u q _=>⟨u,k b u q⟩
 tups:=fun b d q=>by rw [aX (iF q c)];exact q
 frzs:=fun b u d q=>by rw [aX (iF q c)];exact q
 tbls:=fun b f q=>⟨#[],by rw [aX (iF q c),q];simp⟩
theorem Un.write(c:t9 (H x))(he:e=x ∨ H e=some (.own x))(k:∀ b u,b≠e->h.get? b=some u->h'.get? b=some u)(f:∃ u,h'.get? e=some u):Un fs ex H (aJ H x o) h h':=by
 have g:∀ b,H b=none->b≠x:=fun b n z=>by subst z;rw [n]at c;exact c
 have i:∀ b,H b=none->b≠e:=fun b n z=>by
  subst z;rcases he with r | r
  ·exact g b n r
  ·rw [n]at r;cases r
 have d:∀ b u,H b=some u->¬ t9 (some u)->b≠x:=fun b u q l z=>by subst z;rw [q]at c;exact l c
 refine⟨fun b u q n _ _=>k b u (i b n) q,fun b u q n _ _=>⟨u.slots,k b u (i b n) q⟩,fun b u q n _=>by rw [aX (g b n)];exact n,fun b u q _=>?_,
  fun b j q=>by rw [aX (d b _ q fun z=>z)];exact q,fun b u j q=>by rw [aX (d b _ q fun z=>z)];exact q,fun b m q=>⟨#[],by rw [aX (d b _ q fun z=>z),q];simp⟩⟩
 by_cases a:b=e
 ·subst a;exact f
 ·exact⟨u,k b u a q⟩
end
def uW(h:Heap)(H:Hp):List J8:=(List.range h.objs.size).filter fun a=>(H a).isSome
def kP(h:Heap)(H:Hp):Heap:=PySem.W.hideAll h (uW h H)
theorem P9(h:Heap)(H:Hp):(kP h H).objs.size=h.objs.size:=PySem.W.hideAll_size _ _
theorem P8(e:h.get? b=some o)(n:H b=none):(kP h H).get? b=some o:=
 PySem.W.hideAll_get _ e fun a=>by
  have q:(H b).isSome=true:=(Ym.mp a).2;rw [n]at q;simp at q
theorem SI(e:(kP h H).get? b=some o):h.get? b=some o/\H b=none:=by
 have a:h.get? b=some o:=PySem.W.of_hideAll (uW h H) e
 refine⟨a,?_⟩
 cases q:H b with
 | none=>rfl
 | some x=>
  have c:b∈uW h H:=Ym.mpr ⟨QY.mpr (Qs a),by simp [q]⟩;have z:(kP h H).get? b=none:=PySem.W.hideAll_none (uW h H) c;rw [z]at e;cases e
structure Mod(K:PySem.W.Frag)(mg:Str->Option YP)(base:Heap):Prop where
 kin:K.In base
 glob:base.Ns Zv mg
 blt:∃ mb,base.Ns builtinsNs mb/\∀ x:Str,x≠"__name__"->mb x=ZD x
 nolimit:base.NoLimit
structure Cx where
 prog:Zd
 w:Zf
 K:PySem.W.Frag
 mg:Str->Option YP
 base:Heap
 A:Around
 N:List Str
 s₀:J9
 H₀:Hp
 env:Env
 outer:List Env
 stack:List Env
 ex:List J8
 fn:Str->Bool
 calm:Bool
 pn:List (J8 × Obj)
 xe:YP->J9->Prop
def iO(l:List Env):List J8:=l.filterMap (·.frame)
abbrev Cx.fs(X:Cx):List J8:=iO X.outer
def fY(a:Ul)(x:Str):Prop:=a.names.lookup x=some .local ∨ a.names.lookup x=some .cell ∨ a.names.lookup x=some .free
def hE(a:Ul)(x:Str):Prop:=a.names.lookup x=some .local ∨ a.names.lookup x=some .cell
def Kw(env:Env)(h:Heap)(m:Str->Option YP)(x:Str)(u:YP):Prop:=
 (env.kindOf x=some .local/\m x=some u) ∨ ((env.kindOf x=some .cell ∨ env.kindOf x=some .free)/\∃ c,env.cells.lookup x=some c/\h.IsCell c (some u))
structure Cx.Ok(X:Cx):Prop where
 mod:Mod X.K X.mg X.base
 kind:X.env.scope.kind=.function
 glob:X.env.globals=Zv
 blt:X.env.builtins=builtinsNs
 above:X.s₀.heap.objs.size<=X.env.locals
 inj:∀ x y c,X.env.cells.lookup x=some c->X.env.cells.lookup y=some c->x=y
 has:∀ x,(X.env.kindOf x=some .cell ∨ X.env.kindOf x=some .free)->∃ c,X.env.cells.lookup x=some c
 cab:∀ x c,X.fn x=true->X.env.cells.lookup x=some c->X.s₀.heap.objs.size<=c
 hd:X.calm=true->X.A.handled=none
 frames:X.A.frames=some X.stack
 stk:X.stack=X.outer ∨ (X.stack=X.env::X.outer/\X.env.frame=some X.env.locals)
 exf:∀ b∈X.ex,b≠X.env.locals/\∀ x c,X.env.cells.lookup x=some c->c≠b
 bs:∀ b o,X.base.get? b=some o->X.s₀.heap.get? b=some o/\X.H₀ b=none
 bsz:X.base.objs.size<=X.s₀.heap.objs.size
 noex:∀ b o,X.base.get? b=some o->b∉X.ex
 exfs:∀ b∈X.ex,b∉X.fs
 funs:X.s₀.heap.FunFrames X.base X.outer
 frf:∀ b∈X.fs,X.H₀ b=none
structure Inv(X:Cx)(pins:List (J8 × Obj))(σ:List (Option V))(H:Hp)(s:J9):Prop where
 ok:X.Ok
 os:s.os=X.s₀.os
 bare:Vi s.gens
 base:Un X.fs X.ex X.H₀ H X.s₀.heap s.heap
 loc:∃ m,s.heap.Ns X.env.locals m/\∀(i:Nat) (x:Str) (v:V),X.N[i]?=some x->σ[i]?=some (some v)->fY X.env.scope x->∃ u,RelV v u/\Kw X.env s.heap m x u
 cell:∀ x c,X.env.cells.lookup x=some c->∃ v,s.heap.IsCell c v
 free:H X.env.locals=none
 freeC:∀ x c,X.env.cells.lookup x=some c->H c=none
 pin:∀ p∈X.pn++pins,s.heap.get? p.1=some p.2/\H p.1=none/\p.1≠X.env.locals/\p.1∉X.fs/\∀ v,p.2.data≠.cell v
 hok:c4 X.prog X.w H s.heap
 len:σ.length=X.N.length
section
variable {X:Cx}{pins:List (J8 × Obj)}{σ:List (Option V)}{H H':Hp}{s:J9}{h':Heap}
theorem Cx.Ok.nofr(ok:X.Ok)(e:X.base.get? b=some o):b∉X.fs:=fun a=>by
 have:=(ok.funs.mem a).1
 rw [e]at this;cases this
theorem Inv.bs(I:Inv X pins σ H s):∀ b o,X.base.get? b=some o->s.heap.get? b=some o/\H b=none:=fun b o e=>
 ⟨I.base.keep b o (I.ok.bs b o e).1 (I.ok.bs b o e).2 (I.ok.nofr e) (I.ok.noex b o e),I.base.free b o (I.ok.bs b o e).1 (I.ok.bs b o e).2 (I.ok.noex b o e)⟩
theorem Inv.bk(I:Inv X pins σ H s):∀ b o,X.base.get? b=some o->s.heap.get? b=some o:=fun b o e=>(I.bs b o e).1
theorem Inv.mod(I:Inv X pins σ H s):Mod X.K X.mg X.base:=I.ok.mod
theorem Inv.kIn(I:Inv X pins σ H s):X.K.In s.heap:=I.ok.mod.kin.keeps I.bk
theorem Inv.lt(I:Inv X pins σ H s):X.env.locals<s.heap.objs.size:=let⟨_,hn,_⟩:=I.loc;hn.lt
theorem Inv.sz(I:Inv X pins σ H s):X.s₀.heap.objs.size<=s.heap.objs.size:=QJ I.ok.above (YQ I.lt)
theorem Inv.nofs(I:Inv X pins σ H s)(h:s.heap.objs.size<=a):a∉X.fs:=fun c=>by
 obtain⟨_,o,b,_⟩:=I.ok.funs.mem c;exact absurd (QX (Qs b) (QJ I.sz h)) (JO _)
theorem Inv.cne(I:Inv X pins σ H s):∀ x c,X.env.cells.lookup x=some c->c≠X.env.locals:=fun x c e z=>by
 obtain⟨v,o,d,f⟩:=I.cell x c e;obtain⟨m,⟨g,h,i,a,b,_⟩,_⟩:=I.loc;rw [z,a]at d;cases d;rw [b]at f;cases f
theorem Inv.funs(I:Inv X pins σ H s):s.heap.FunFrames X.base X.outer:=by
 have all:∀(l:List Env),(∀ b∈iO l,b∈X.fs)->X.s₀.heap.FunFrames X.base l->s.heap.FunFrames X.base l:=by
  intro l
  induction l with
  | nil=>intro _ _;trivial
  | cons p r g=>
   intro f k;obtain⟨m,⟨L,o,a,j,i,n⟩,h⟩:=k;have d:L∈X.fs:=f L (by unfold iO;rw [J0,a];exact Qk);obtain⟨q,e⟩:=I.base.slot L o i (I.ok.frf L d) d fun z=>I.ok.exfs L z d
   exact⟨m,⟨L,_,a,j,e,n⟩,g (fun b c=>f b (by unfold iO;rw [J0,a];exact Qf _ c)) h⟩
 exact all X.outer (fun _ c=>c) I.ok.funs
theorem Inv.stack(I:Inv X pins σ H s):s.heap.FunFrames X.base X.stack:=by
 rcases I.ok.stk with e | ⟨e,b⟩
 ·rw [e];exact I.funs
 ·rw [e];obtain⟨m,a,_⟩:=I.loc;refine .cons (by rw [I.ok.kind];decide) b a ?_ I.funs;exact Heap.get?_none_of_le (QJ I.ok.bsz I.ok.above)
theorem Inv.stkSub(I:Inv X pins σ H s):∀ b∈iO X.stack,b∈X.env.locals::X.fs:=fun b a=>by
 rcases I.ok.stk with e | ⟨e,c⟩
 ·rw [e]at a;exact Qf _ a
 ·rw [e]at a;unfold iO at a;rw [J0,c]at a;exact a
theorem Inv.stkFree(I:Inv X pins σ H s):∀ b∈iO X.stack,H b=none:=fun b a=>by
 rcases Ql.mp (I.stkSub b a)with e | a
 ·rw [e];exact I.free
 ·obtain⟨_,o,c,_⟩:=I.ok.funs.mem a;exact I.base.free b o c (I.ok.frf b a) fun z=>I.ok.exfs b z a
theorem Inv.step{g':Array Vc}{t':Nat}{d':Drawn}{ch:List J8}(I:Inv X pins σ H s)
  (g:∀ b∈ch,(b∈X.ex ∨ X.s₀.heap.objs.size<=b)/\b≠X.env.locals/\(∀ x c,X.env.cells.lookup x=some c->c≠b)/\∀ p∈X.pn++pins,p.1≠b)
  (keep:∀ b o,b≠X.env.locals->b∉X.fs->b∉ch->s.heap.get? b=some o->H b=none->h'.get? b=some o)
  (slot:∀ b o,b≠X.env.locals->b∈X.fs->b∉ch->s.heap.get? b=some o->H b=none->∃ sl,h'.get? b=some { o with slots:=sl }) (free:∀ b o,b∉ch->s.heap.get? b=some o->H b=none->H' b=none)
  (y:∀ b o,b∉ch->s.heap.get? b=some o->∃ o',h'.get? b=some o')
  (E:∀ b xs,H b=some (.tup xs)->H' b=some (.tup xs)) (J:∀ b o u,H b=some (.frz o u)->H' b=some (.frz o u)) (F:∀ b ps,H b=some (.tbl ps)->∃ more,H' b=some (.tbl (ps++more)))
  (ns:∀ m,s.heap.Ns X.env.locals m->h'.Ns X.env.locals m) (N:c4 X.prog X.w H' h') (hg:Vi g'):
  Inv X pins σ H' { s with heap:=h',gens:=g',drawn:=d',toks:=t' }:=by
 have G:∀ b o,X.s₀.heap.get? b=some o->b≠X.env.locals:=fun b o e=>Qz (QX (Qs e) I.ok.above)
 have j:∀ b o,X.s₀.heap.get? b=some o->b∉X.ex->b∉ch:=fun b o e a A=>by
  rcases(g b A).1 with z | z
  ·exact a z
  ·exact absurd (QX (Qs e) z) (JO _)
 have h:∀ x c,X.env.cells.lookup x=some c->∀ v,s.heap.IsCell c v->h'.IsCell c v:=fun x c e v U=>by
  obtain⟨o,B,O⟩:=U;have f:c∉ch:=fun z=>(g c z).2.2.1 x c e rfl;by_cases T:c∈X.fs
  ·obtain⟨sl,q⟩:=slot c o (I.cne x c e) T f B (I.freeC x c e)
   exact⟨_,q,O⟩
  ·exact⟨o,keep c o (I.cne x c e) T f B (I.freeC x c e),O⟩
 refine⟨I.ok,I.os,hg,⟨fun b o e n A a=>?_,fun b o e n A a=>?_,fun b o e n a=>?_,fun b o e a=>?_,fun b xs e=>E b xs (I.base.tups b xs e),fun b o xs e=>J b o xs (I.base.frzs b o xs e),fun b ps e=>?_⟩,?_,fun x c e=>?_,?_,fun x c e=>?_,fun p S=>?_,N,I.len⟩
 ·exact keep b o (G b o e) A (j b o e a) (I.base.keep b o e n A a) (I.base.free b o e n a)
 ·obtain⟨sl,t⟩:=I.base.slot b o e n A a;obtain⟨M,K⟩:=slot b _ (G b o e) A (j b o e a) t (I.base.free b o e n a)
  exact⟨M,K⟩
 ·obtain⟨o',t⟩:=I.base.there b o e a;exact free b o' (j b o e a) t (I.base.free b o e n a)
 ·obtain⟨o',t⟩:=I.base.there b o e a;exact y b o' (j b o e a) t
 ·obtain⟨Y,t⟩:=I.base.tbls b ps e;obtain⟨W,K⟩:=F b _ t
  exact⟨Y++W,by rw [K,Array.append_assoc]⟩
 ·obtain⟨m,Z,hl⟩:=I.loc
  refine⟨m,ns m Z,fun i x v t K e3=>?_⟩
  obtain⟨u,r,l⟩:=hl i x v t K e3
  refine⟨u,r,?_⟩
  rcases l with l | ⟨k,c,e,z⟩
  ·exact .inl l
  ·exact .inr ⟨k,c,e,h x c e _ z⟩
 ·obtain⟨v,z⟩:=I.cell x c e
  exact⟨v,h x c e v z⟩
 ·obtain⟨m,⟨o,_,_,B,_⟩,_⟩:=I.loc;exact free _ o (fun z=>(g _ z).2.1 rfl) B I.free
 ·obtain⟨v,o,B,O⟩:=I.cell x c e;exact free c o (fun z=>(g c z).2.2.1 x c e rfl) B (I.freeC x c e)
 ·obtain⟨e,n,R,Q,d⟩:=I.pin p S;have f:p.1∉ch:=fun z=>(g p.1 z).2.2.2 p S rfl
  exact⟨keep p.1 p.2 R Q f e n,free p.1 p.2 f e n,R,Q,d⟩
theorem Inv.un{t':Nat}(I:Inv X pins σ H s)(u:Un X.fs [] H H' s.heap h')(c:c4 X.prog X.w H' h'):Inv X pins σ H' { s with heap:=h',toks:=t' }:=by
 obtain⟨m,⟨o,t,v,h,r⟩,_⟩:=id I.loc;obtain⟨l,k⟩:=u.any h I.free (by simp)
 exact I.step (g':=s.gens) (d':=s.drawn) (ch:=[]) (fun _ z=>nomatch z) (fun b o _ d _ e n=>u.keep b o e n d (by simp)) (fun b o _ d _ e n=>u.slot b o e n d (by simp)) (fun b o _ e n=>u.free b o e n (by simp)) (fun b o _ e=>u.there b o e (by simp)) u.tups u.frzs u.tbls (fun q j=>by
  obtain⟨p,f,g,a,i⟩:=j;rw [h]at a;cases a
  exact⟨_,f,g,k,i⟩) c I.bare
theorem Inv.call{g':Array Vc}{t':Nat}{d':Drawn}{ch:List J8}(I:Inv X pins σ H s)(u:Un (iO X.stack) ch H H' s.heap h')(g:c4 X.prog X.w H' h')(t:Vi g')
  (f:∀ b∈ch,(b∈X.ex ∨ X.s₀.heap.objs.size<=b)/\b≠X.env.locals/\(∀ x c,X.env.cells.lookup x=some c->c≠b)/\∀ p∈X.pn++pins,p.1≠b):
  Inv X pins σ H' { s with heap:=h',gens:=g',drawn:=d',toks:=t' }:=by
 obtain⟨m,⟨o,E,F,k,r⟩,_⟩:=id I.loc;obtain⟨y,h⟩:=u.any k I.free fun z=>(f _ z).2.1 rfl
 exact I.step (ch:=ch) f (fun b o h v a e n=>u.keep b o e n (fun z=>(Ql.mp (I.stkSub b z)).elim h v) a) (fun b o _ _ a e n=>u.any e n a) (fun b o a e n=>u.free b o e n a) (fun b o a e=>u.there b o e a) u.tups u.frzs u.tbls (fun B q=>by
  obtain⟨A,i,j,d,l⟩:=q;rw [k]at d;cases d
  exact⟨_,i,j,h,l⟩) g t
theorem Inv.turned{t':Nat}{it:J8}(I:Inv X pins σ H s)(k:∀ b o,b≠it->s.heap.get? b=some o->h'.get? b=some o)(h:H it=none)(f:it≠X.env.locals)
  (w:it∈X.ex ∨ X.s₀.heap.objs.size<=it) (t:∀ x c,X.env.cells.lookup x=some c->c≠it) (l:∀ p∈X.pn++pins,p.1≠it):Inv X pins σ H { s with heap:=h',toks:=t' }:=by
 have d:∀ b u,H b=some u->b≠it:=fun b u e z=>by rw [z,h]at e;cases e
 refine I.step (g':=s.gens) (d':=s.drawn) (ch:=[it]) (fun b j=>?_) (fun b o _ _ a e _=>k b o (fun z=>a (by simp [z])) e) (fun b o _ _ a e _=>⟨o.slots,k b o (fun z=>a (by simp [z])) e⟩) (fun _ _ _ _ n=>n)
  (fun b o a e=>⟨o,k b o (fun z=>a (by simp [z])) e⟩) (fun _ _ e=>e) (fun _ _ _ e=>e) (fun b B e=>⟨#[],by rw [e];simp⟩) (fun m i=>?_) (fun b u e=>?_) I.bare
 ·have e:b=it:=by simpa using j
  subst e
  exact⟨w,f,t,l⟩
 ·obtain⟨o,y,A,g,r⟩:=i
  exact⟨o,y,A,k _ o (Ua f) g,r⟩
 ·refine(I.hok b u e).stay (fun c v a q=>k c v ?_ q) (fun _ q=>q) fun _ _ q=>q
  rcases a with z | z
  ·rw [z];exact d b u e
  ·exact d c _ z
theorem Inv.tok(I:Inv X pins σ H s)(t:Nat):Inv X pins σ H { s with toks:=t }:=I.un (h':=s.heap) (t':=t) Un.refl I.hok
theorem Inv.kept(I:Inv X pins σ H s)(k:∀ b u,s.heap.get? b=some u->h'.get? b=some u):Inv X pins σ H { s with heap:=h',toks:=t' }:=I.un (Un.kept k) (I.hok.kept k)
theorem Inv.laid{a:J8}{o:HO}{t':Nat}(I:Inv X pins σ H s)(k:∀ b u,s.heap.get? b=some u->h'.get? b=some u)(d:s.heap.objs.size<=a)(c:eH X.prog X.w (aJ H a o) h' a o):
  Inv X pins σ (aJ H a o) { s with heap:=h',toks:=t' }:=I.un (Un.laid k d (I.hok.fresh d)) (I.hok.laid k d c)
theorem Inv.write(I:Inv X pins σ H s)(d:t9 (H x))(he:e=x ∨ H e=some (.own x))(k:∀ b u,b≠e->s.heap.get? b=some u->h'.get? b=some u)(a:∃ u,h'.get? e=some u)
  (c:eH X.prog X.w (aJ H x o) h' x o):Inv X pins σ (aJ H x o) { s with heap:=h',toks:=t' }:=I.un (Un.write d he k a) (I.hok.write d he k a c)
theorem Inv.pins_of(I:Inv X pins σ H s)(h:∀ p∈pins',s.heap.get? p.1=some p.2/\H p.1=none/\p.1≠X.env.locals/\p.1∉X.fs/\∀ v,p.2.data≠.cell v):Inv X pins' σ H s:=
 ⟨I.ok,I.os,I.bare,I.base,I.loc,I.cell,I.free,I.freeC,fun p a=>(QC.mp a).elim (fun z=>I.pin p (Q2 _ z)) (h p),I.hok,I.len⟩
theorem GC{N:List Str}(c:N.Nodup){i j:Nat}{x:Str}(a:N[i]?=some x)(b:N[j]?=some x):i=j:=by
 obtain⟨g,e⟩:=Qc.mp a;obtain⟨f,d⟩:=Qc.mp b
 exact(List.getElem_inj c).mp (e.trans d.symm)
theorem Wk{M:Model}{A:Around}{E:YP->J9->Prop}{i:Nat}{x:Str}{v:V}{u:YP}{Q:Unit->J9->Prop}(I:Inv X pins σ H s)(hN:X.N.Nodup)(W:X.N[i]?=some x)(B:hE X.env.scope x)(r:RelV v u)
  (h:∀ s',Inv X pins (σ.set i (some v)) H s'->(∃ a,Zk a s.heap s'.heap/\(a=X.env.locals ∨ X.env.cells.lookup x=some a))->Q () s') (hf:X.fn x=true ∨ X.env.scope.names.lookup x=some .local:=by first | exact .inl rfl | exact .inr rfl | assumption):Zb M A (storeName X.env x u) Q E s:=by
 obtain⟨m,hn,hl⟩:=id I.loc
 have Y:(X.env.scope.kind == .class || (X.env.scope.kind == .module && X.env.locals != X.env.globals))=false:=by rw [I.ok.kind];rfl
 have K:i<σ.length:=by rw [I.len];exact(Qc.mp W).1
 have cne:=I.cne
 have g:∀{a:J8}{h':Heap},(∃ o,s.heap.get? a=some o/\H a=none)->Zk a s.heap h'->c4 X.prog X.w H h':=fun{a h'} ha f b ob e=>by
  obtain⟨_,_,F⟩:=ha
  refine(I.hok b ob e).stay (fun c w' t q=>(f.2 c ?_).trans q) (fun _ q=>q) fun _ _ q=>q
  rintro rfl;rcases t with rfl | t
  ·rw [F]at e;cases e
  ·rw [F]at t;cases t
 rcases B with J | J
 ·refine wpAny_storeName_local J hn (fun h' a3 f=>?_) Y;obtain⟨oL,_,_,a2,_⟩:=id hn;refine h _ ⟨I.ok,I.os,I.bare,⟨fun b o e n S B=>?_,fun b o e n S B=>?_,I.base.free,fun b o e B=>?_,I.base.tups,I.base.frzs,I.base.tbls⟩,⟨_,a3,fun j y v' l G e3=>?_⟩,fun y c e=>?_,I.free,I.freeC,fun p hp=>?_,g ⟨oL,a2,I.free⟩ f,by simpa using I.len⟩ ⟨_,f,.inl rfl⟩
  ·exact(f.2 b (Qz (QX (Qs e) I.ok.above))).trans (I.base.keep b o e n S B)
  ·obtain⟨sl,l⟩:=I.base.slot b o e n S B
   exact⟨sl,(f.2 b (Qz (QX (Qs e) I.ok.above))).trans l⟩
  ·obtain⟨o',l⟩:=I.base.there b o e B
   exact⟨o',(f.2 b (Qz (QX (Qs e) I.ok.above))).trans l⟩
  ·by_cases O:j=i
   ·subst O;rw [W]at l;cases l;rw [Qw K]at G;cases G
    exact⟨u,r,.inl ⟨J,by simp⟩⟩
   ·rw [Qq (Ua O)]at G;obtain⟨u',r',q⟩:=hl j y v' l G e3
    refine⟨u',r',?_⟩
    rcases q with⟨k,e⟩ | ⟨k,c,e,z⟩
    ·refine .inl ⟨k,?_⟩
     have:y≠x:=fun e=>O (GC hN l (e ▸ W))
     simp [this,e]
    ·exact .inr ⟨k,c,e,z.sameBut f (cne y c e)⟩
  ·obtain⟨w',z⟩:=I.cell y c e
   exact⟨w',z.sameBut f (cne y c e)⟩
  ·obtain⟨e,n,ne,nf,d⟩:=I.pin p hp
   exact⟨(f.2 p.1 ne).trans e,n,ne,nf,d⟩
 ·have R:X.fn x=true:=by
   rcases hf with z | z
   ·exact z
   ·rw [z]at J;cases J
  obtain⟨c,t⟩:=I.ok.has x (.inl J);obtain⟨w',z⟩:=I.cell x c t;refine wpAny_storeName_cell I.ok.kind J t z (fun h' a0 f=>?_);obtain⟨oc,U,T⟩:=id z;refine h { s with heap:=h' } ⟨I.ok,I.os,I.bare,⟨fun b o e n S B=>?_,fun b o e n S B=>?_,I.base.free,fun b o e B=>?_,I.base.tups,I.base.frzs,I.base.tbls⟩,⟨m,hn.sameBut f (Ua (cne x c t)),fun j y v' l G e3=>?_⟩,fun y c' e=>?_,I.free,I.freeC,fun p hp=>?_,g ⟨oc,U,I.freeC x c t⟩ f,by simpa using I.len⟩ ⟨c,f,.inr t⟩
  ·exact(f.2 b (Qz (QX (Qs e) (I.ok.cab x c R t)))).trans (I.base.keep b o e n S B)
  ·obtain⟨sl,l⟩:=I.base.slot b o e n S B
   exact⟨sl,(f.2 b (Qz (QX (Qs e) (I.ok.cab x c R t)))).trans l⟩
  ·obtain⟨o',l⟩:=I.base.there b o e B
   exact⟨o',(f.2 b (Qz (QX (Qs e) (I.ok.cab x c R t)))).trans l⟩
  ·by_cases O:j=i
   ·subst O;rw [W]at l;cases l;rw [Qw K]at G;cases G
    exact⟨u,r,.inr ⟨.inl J,c,t,a0⟩⟩
   ·rw [Qq (Ua O)]at G;obtain⟨u',r',q⟩:=hl j y v' l G e3
    refine⟨u',r',?_⟩
    rcases q with q | ⟨k,c',e,z'⟩
    ·exact .inl q
    ·refine .inr ⟨k,c',e,z'.sameBut f ?_⟩;rintro rfl;exact O (GC hN l (I.ok.inj _ _ _ e t ▸ W))
  ·by_cases Z:c'=c
   ·subst Z;exact⟨_,a0⟩
   ·obtain⟨w2,z2⟩:=I.cell y c' e
    exact⟨w2,z2.sameBut f Z⟩
  ·obtain⟨e,n,ne,nf,d⟩:=I.pin p hp
   refine⟨(f.2 p.1 ?_).trans e,n,ne,nf,d⟩
   intro q;rw [q,U]at e;have q':oc=p.2:=QB e;exact d w' (by rw [<- q'];exact T)
theorem Hw(I:Inv X pins σ H s)(d:X.N.Nodup)(b:X.N[i]?=some x)(a:hE X.env.scope x)(r:RelV v u)
  (h:∀ s',Inv X pins (σ.set i (some v)) H s'->Q () s') (c:X.fn x=true ∨ X.env.scope.names.lookup x=some .local:=by first | exact .inl rfl | exact .inr rfl | assumption):Zb M A (storeName X.env x u) Q E s:=
 Wk I d b a r (fun s' e _=>h s' e) c
theorem Inv.call'(I:Inv X pins σ H s)(g:s'.os=s.os)(u:Un (iO X.stack) ch H H' s.heap s'.heap)(a:c4 X.prog X.w H' s'.heap)(h:Vi s'.gens)
  (d:∀ b∈ch,(b∈X.ex ∨ X.s₀.heap.objs.size<=b)/\b≠X.env.locals/\(∀ x c,X.env.cells.lookup x=some c->c≠b)/\∀ p∈X.pn++pins,p.1≠b):Inv X pins σ H' s':=by
 obtain⟨i,g',d',t',f⟩:=s';have e:f=s.os:=g;subst e;exact I.call (g':=g') (t':=t') (d':=d') u a h d
end
abbrev XK:=YP->Option J8->Hp->Prop
abbrev St:=List (Option V)
abbrev VK:=V->Hp->Prop
abbrev TE:=St->Hp->VK->Prop
abbrev TT:=St->Hp->(Bool->Hp->Prop)->Prop
abbrev TA:=St->Hp->(List V->Hp->Prop)->Prop
structure jS where
 nx:St->Hp->Prop
 rt:VK
 bk:St->Hp->Prop:=fun _ _=>False
 ct:St->Hp->Prop:=fun _ _=>False
abbrev TS:=jS->St->Hp->Prop
def EP(X:Cx)(a:List (J8 × Obj))(b:St)(Q:VK)(u:YP)(c:J9):Prop:=∃ v H',Inv X a b H' c/\RelV v u/\Q v H'
def TP(X:Cx)(a:List (J8 × Obj))(c:St)(Q:Bool->Hp->Prop)(b:Bool)(d:J9):Prop:=∃ H',Inv X a c H' d/\Q b H'
def AP(X:Cx)(a:List (J8 × Obj))(b:St)(Q:List V->Hp->Prop)(us:List YP)(c:J9):Prop:=∃ vs H',Inv X a b H' c/\Vals vs us/\Q vs H'
def SP(X:Cx)(a:List (J8 × Obj))(D:jS)(f:Flow)(b:J9):Prop:=
 match f with
 | .next=>∃ σ' H',Inv X a σ' H' b/\D.nx σ' H'
 | .brk=>∃ σ' H',Inv X a σ' H' b/\D.bk σ' H'
 | .cont=>∃ σ' H',Inv X a σ' H' b/\D.ct σ' H'
 | .ret u=>∃ v σ' H',Inv X a σ' H' b/\RelV v u/\D.rt v H'
def PE(X:Cx)(e:Expr)(t:TE):Prop:=
 ∀(pins:List (J8 × Obj)) (s:J9) (σ:St) (H:Hp) (Q:VK),Inv X pins σ H s->t σ H Q->Zb (Zc X.prog X.w) X.A (Zr e X.env) (EP X pins σ Q) X.xe s
def PT(X:Cx)(e:Expr)(t:TT):Prop:=
 ∀(pins:List (J8 × Obj)) (s:J9) (σ:St) (H:Hp) (Q:Bool->Hp->Prop),Inv X pins σ H s->t σ H Q->Zb (Zc X.prog X.w) X.A (isTrue e X.env (Zr e X.env)) (TP X pins σ Q) X.xe s
def PW(X:Cx)(e:Expr)(t:TT):Prop:=
 ∀(whole:Sem YP) (pins:List (J8 × Obj)) (s:J9) (σ:St) (H:Hp) (Q:Bool->Hp->Prop),Inv X pins σ H s->t σ H Q->Zb (Zc X.prog X.w) X.A (isTrue e X.env whole) (TP X pins σ Q) X.xe s
theorem PW.pt(h:PW X e t):PT X e t:=h _
def PA(X:Cx)(es:List Expr)(t:TA):Prop:=
 ∀(pos:Pos) (pins:List (J8 × Obj)) (s:J9) (σ:St) (H:Hp) (Q:List V->Hp->Prop),Inv X pins σ H s->t σ H Q->Zb (Zc X.prog X.w) X.A (spliced (Zw pos (Za es X.env))) (AP X pins σ Q) X.xe s
def PS(X:Cx)(a:ZE)(t:TS):Prop:=
 ∀(pins:List (J8 × Obj)) (s:J9) (σ:St) (H:Hp) (D:jS),Inv X pins σ H s->t D σ H->Zb (Zc X.prog X.w) X.A (exec a X.env) (SP X pins D) X.xe s
def fE(X:Cx)(a:List ZE)(t:TS):Prop:=
 ∀(pins:List (J8 × Obj)) (s:J9) (σ:St) (H:Hp) (D:jS),Inv X pins σ H s->t D σ H->Zb (Zc X.prog X.w) X.A (execs a X.env) (SP X pins D) X.xe s
theorem aW{b:Type}{t:Sem b}{Q c:b->J9->Prop}{M:Model}{A:Around}{E:YP->J9->Prop}{s:J9}(h:Zb M A t Q E s)(d:∀ a s,Q a s->c a s):Zb M A t c E s:=Jp h d fun _ _ x=>x
section
variable {X:Cx}
def Ai(i:Nat):TE:=fun a H Q=>∃ v,a[i]?=some (some v)/\Q v H
def tC(v:V):TE:=fun _ H Q=>Q v H
theorem fS(t:X.N[i]?=some x)(n:fY X.env.scope x)(f:(x == ("__debug__":Str))=false:=by decide)(g:(x == ("__classdict__":Str))=false:=by decide):PE X (.Name x pos) (Ai i):=by
 intro d s k H Q I h;obtain⟨v,e,h⟩:=h;obtain⟨m,o,q⟩:=I.loc;obtain⟨u,r,l⟩:=q i x v t e n;have fin:EP X d k Q u s:=⟨v,H,I,r,h⟩;rcases l with⟨b,p⟩ | ⟨b,c,j,a⟩
 ·exact wpAny_Name (wpAny_loadName_local I.ok.kind b o p fin) f
 ·rcases b with b | b
  ·exact wpAny_Name (wpAny_loadName_cell I.ok.kind b j a fin) f
  ·exact wpAny_Name (wpAny_loadName_free I.ok.kind b j a fin g) f
theorem Gk{i j pos}:PE X (.Constant (.int i) j pos) (tC (.int i)):=fun _ _ _ H _ I h=>wpAny_Constant_int ⟨.int i,H,I.tok _,⟨_,rfl⟩,h⟩
theorem GV{b j pos}:PE X (.Constant (.bool b) j pos) (tC (.bl b)):=fun _ _ _ H _ I h=>Constant_bool ⟨.bl b,H,I,rfl,h⟩
def Gl(X:Cx)(x:Str):Prop:=X.env.kindOf x=some .globalImplicit
theorem G5(I:Inv X pins σ H s)(b:Gl X x)(a:X.mg x=some u)(h:Q u s)
  (c:(x == ("__debug__":Str))=false:=by decide):Zb (Zc X.prog X.w) X.A (Zr (.Name x pos) X.env) Q E s:=
 Calls.Name_function_global I.ok.kind b (Calls.loadGlobal_global (by rw [I.ok.glob];exact I.mod.glob.keeps I.bk) a h) c
theorem kE(I:Inv X pins σ H s)(d:Gl X x)(c:X.mg x=none)(a:ZD x=some u)(h:Q u s)
  (b:x≠"__name__":=by decide) (e:(x == ("__debug__":Str))=false:=by decide):Zb (Zc X.prog X.w) X.A (Zr (.Name x pos) X.env) Q E s:=by
 obtain⟨i,g,f⟩:=I.mod.blt;exact Calls.Name_function_global I.ok.kind d (Calls.loadGlobal_builtin (by rw [I.ok.glob];exact I.mod.glob.keeps I.bk) c (by rw [I.ok.blt];exact g.keeps I.bk) ((f x b).trans a) h) e
theorem R6(d:Gl X x)(c:X.mg x=none)(a:ZD x=some u)(r:RelV v u)(b:x≠"__name__":=by decide)(e:(x == ("__debug__":Str))=false:=by decide):PE X (.Name x pos) (tC v):=
 fun _ _ _ H _ I h=>kE I d c a ⟨v,H,I,r,h⟩ b e
variable {a b:Expr}{ta tb:TE}{pos:Pos}
def tB(t:TE):TT:=fun a H Q=>t a H fun x b=>∃ c,x=.bl c/\Q c b
theorem Im{e:Expr}{t:TE}(h:PE X e t)(he:∀ whole,isTrue e X.env whole=(do let v <- whole;standAt e.pos;UE [v] (truthy v)):=by intro _;rfl):PT X e (tB t):=by
 intro a s b H Q I g;refine isTrue_plain (aW (h a s b H _ I g) fun v k ⟨x,j,i,c,f⟩=>?_) (he _);obtain⟨d,rfl,q⟩:=f;cases c;exact YB ⟨j,i,q⟩
variable {tA tB':TT}{rest:List Expr}
def Na(t u:TT):TT:=fun a H Q=>t a H fun c b=>if c=true then u a b Q else Q false b
def Nu(t u:TT):TT:=fun a H Q=>t a H fun c b=>if c=true then Q true b else u a b Q
def Nr(t:TT):TT:=fun a H Q=>t a H fun c b=>Q (!c) b
theorem VB(f:PT X a tA):PW X (.BoolOp .And [a] pos) tA:=by
 intro g b s d H Q I h;refine isTrue_and (aW (f b s d H Q I h) fun c i e=>?_)
 cases c with
 | true=>exact isTrue_and_nil e
 | false=>exact e
theorem Is(f:PT X a tA):PW X (.BoolOp .Or [a] pos) tA:=by
 intro g b s d H Q I h;refine isTrue_or (aW (f b s d H Q I h) fun c i e=>?_)
 cases c with
 | false=>exact isTrue_or_nil e
 | true=>exact e
theorem VA(n:PT X a tA)(m:PW X (.BoolOp .And (b::rest) pos) tB'):PW X (.BoolOp .And (a::b::rest) pos) (Na tA tB'):=by
 intro k d s e H Q I h;refine isTrue_and (aW (n d s e H _ I h) fun c l j=>?_);obtain⟨i,g,f⟩:=j
 cases c with
 | true=>exact m k d l e i Q g f
 | false=>exact⟨i,g,f⟩
theorem Ir(n:PT X a tA)(m:PW X (.BoolOp .Or (b::rest) pos) tB'):PW X (.BoolOp .Or (a::b::rest) pos) (Nu tA tB'):=by
 intro k d s e H Q I h;refine isTrue_or (aW (n d s e H _ I h) fun c l j=>?_);obtain⟨i,g,f⟩:=j
 cases c with
 | true=>exact⟨i,g,f⟩
 | false=>exact m k d l e i Q g f
theorem Il(e:PT X a tA):PT X (.UnaryOp .Not a pos) (Nr tA):=by
 intro b s d H Q I h;exact isTrue_not (e b s d H (fun c f=>Q (!c) f) I h)
def Nb(e d:TE):TE:=fun a H Q=>e a H fun x b=>∃ c,x=.bl c/\if c=true then d a b Q else Q (.bl false) b
def Nv(e d:TE):TE:=fun a H Q=>e a H fun x b=>∃ c,x=.bl c/\if c=true then Q (.bl true) b else d a b Q
def Nt(b:TE):TE:=fun a H Q=>b a H fun x d=>∃ c,x=.bl c/\Q (.bl (!c)) d
theorem RA{op}(h:PE X a t):PE X (.BoolOp op [a] pos) t:=fun b s c H Q I d=>BoolOp_one (h b s c H Q I d)
theorem R5(n:PE X a ta)(m:PE X (.BoolOp .And (b::rest) pos) tb):PE X (.BoolOp .And (a::b::rest) pos) (Nb ta tb):=by
 intro d s f H Q I h;refine BoolOp_and (aW (n d s f H _ I h) fun v k j=>?_);obtain⟨x,i,g,l,e⟩:=j;obtain⟨c,rfl,e⟩:=e;cases l;refine YB ?_
 cases c with
 | true=>exact m d k f i Q g e
 | false=>exact⟨.bl false,i,g,rfl,e⟩
theorem Mq(n:PE X a ta)(m:PE X (.BoolOp .Or (b::rest) pos) tb):PE X (.BoolOp .Or (a::b::rest) pos) (Nv ta tb):=by
 intro d s f H Q I h;refine BoolOp_or (aW (n d s f H _ I h) fun v k j=>?_);obtain⟨x,i,g,l,e⟩:=j;obtain⟨c,rfl,e⟩:=e;cases l;refine YB ?_
 cases c with
 | false=>exact m d k f i Q g e
 | true=>exact⟨.bl true,i,g,rfl,e⟩
theorem Rz(i:PE X a ta):PE X (.UnaryOp .Not a pos) (Nt ta):=by
 intro b s e H Q I h;refine UnaryOp_ (aW (i b s e H _ I h) fun v l f=>?_);obtain⟨x,k,j,g,d⟩:=f;obtain⟨c,rfl,d⟩:=d;cases g;exact not_of (YB ⟨.bl (!c),k,j,rfl,d⟩)
def Nm(t:TT)(e d:TE):TE:=fun a H Q=>t a H fun c b=>if c=true then e a b Q else d a b Q
theorem Rw{c:Expr}(m:PT X c tA)(o:PE X a ta)(n:PE X b tb):PE X (.IfExp c a b pos) (Nm tA ta tb):=by
 intro e s f H Q I h;refine wpAny_IfExp (aW (m e s f H _ I h) fun d g l=>?_);obtain⟨k,j,i⟩:=l
 cases d with
 | true=>exact o e g f k Q j i
 | false=>exact n e g f k Q j i
end
def bV(K:PySem.W.Frag)(H:Hp)(a:J8)(xs:List V):Prop:=
 Rd H a (.lst xs) ∨
  ∃(o:Obj) (its:Array YP) (n:Nat),K.lookup a=some o/\o.cls=.type "list"/\o.dict=none/\o.data=.seq its n/\its.size<=sizeLine/\Vals xs its.toList
def bL(K:PySem.W.Frag)(H:Hp)(a:J8)(xs:List V):Prop:=
 Rd H a (.tup xs) ∨
  ∃(o:Obj) (its:Array YP) (n:Nat),K.lookup a=some o/\o.cls=.type "tuple"/\o.data=.seq its n/\its.size<=sizeLine/\Vals xs its.toList
def KF:YP->Option V
 | .none=>some .non
 | .bool b=>some (.bl b)
 | .int i _=>some (.int i)
 | .str x _=>some (.str x)
 | .bytes b _=>some (.byt b)
 | .float b _=>some (.flt b)
 | .ref a=>some (.ref a)
 | .type n=>some (.ty n)
 | _=>none
theorem RelV.abs(r:RelV x u):KF u=some x:=by
 cases x with
 | non=>cases r;rfl
 | bl _=>cases r;rfl
 | int _=>obtain⟨t,rfl⟩:=r;rfl
 | str _=>obtain⟨t,rfl⟩:=r;rfl
 | byt _=>obtain⟨t,rfl⟩:=r;rfl
 | flt _=>obtain⟨t,rfl⟩:=r;rfl
 | ref _=>cases r;rfl
 | ty _=>cases r;rfl
theorem RelV.inj{x y:V}{u:YP}(r:RelV x u)(q:RelV y u):x=y:=QB (r.abs.symm.trans q.abs)
theorem Vals.inj{xs ys:List V}{us:List YP}(h:Vals xs us)(h':Vals ys us):xs=ys:=by
 induction h generalizing ys with
 | nil=>cases h';rfl
 | cons r t c=>
  cases h' with
  | cons b a=>rw [r.inj b,c a]
section
variable {X:Cx}{pins:List (J8 × Obj)}{σ:St}{H:Hp}{s:J9}{a:J8}{xs ys:List V}
theorem bV.of{K:PySem.W.Frag}(h:H a=some (.lst xs)):bV K H a xs:=.inl (.inl h)
theorem Inv.list(I:Inv X pins σ H s)(h:bV X.K H a xs):∃ its:List YP,Vals xs its/\PlainL s.heap a its.toArray/\xs.length<=sizeLine:=by
 rcases h with h | ⟨o,its,n,c,f,d,b,g,r⟩
 ·obtain⟨z,its,n,r,e⟩:=h.ok I.hok
  exact⟨its,r,⟨_,n,e,rfl,rfl,rfl⟩,z⟩
 ·refine⟨its.toList,r,⟨o,n,I.kIn a o c,f,d,by simpa using b⟩,?_⟩
  have e:=r.length;simp only [Qd]at e;lia
theorem Inv.tuple(I:Inv X pins σ H s)(h:bL X.K H a xs):∃ its:List YP,Vals xs its/\IsTup s.heap a its.toArray/\xs.length<=sizeLine:=by
 rcases h with h | ⟨o,its,n,c,d,b,f,r⟩
 ·obtain⟨z,its,r,p⟩:=h.ok I.hok
  exact⟨its,r,p,z⟩
 ·refine⟨its.toList,r,⟨o,I.kIn a o c,d,n,by simpa using b⟩,?_⟩
  have e:=r.length;simp only [Qd]at e;lia
theorem Inv.list_inj(I:Inv X pins σ H s)(h:bV X.K H a xs)(h':bV X.K H a ys):xs=ys:=by
 obtain⟨b,r,⟨o,n,e,_,_,d⟩,_⟩:=I.list h;obtain⟨its',g,⟨i,j,c,_,_,f⟩,_⟩:=I.list h';rw [e]at c;cases c;rw [d]at f
 injection f with d1 _
 have:b=its':=by simpa using congrArg Array.toList d1
 subst this;exact r.inj g
theorem Inv.tuple_inj(I:Inv X pins σ H s)(h:bL X.K H a xs)(h':bL X.K H a ys):xs=ys:=by
 obtain⟨b,r,⟨o,e,_,n,d⟩,_⟩:=I.tuple h;obtain⟨its',g,⟨i,c,_,j,f⟩,_⟩:=I.tuple h';rw [e]at c;cases c;rw [d]at f
 injection f with d1 _
 have:b=its':=by simpa using congrArg Array.toList d1
 subst this;exact r.inj g
end
abbrev Cx.wish(X:Cx)(E:YP->J9->Prop):Cx:={ X with xe:=E }
abbrev Cx.nox(X:Cx):Cx:=X.wish fun _ _=>False
theorem Cx.Ok.wish{X:Cx}(ok:X.Ok)(E:YP->J9->Prop):(X.wish E).Ok:=
 ⟨ok.mod,ok.kind,ok.glob,ok.blt,ok.above,ok.inj,ok.has,ok.cab,ok.hd,ok.frames,ok.stk,ok.exf,ok.bs,ok.bsz,ok.noex,ok.exfs,ok.funs,ok.frf⟩
theorem Cx.Ok.unwish{X:Cx}{E:YP->J9->Prop}(ok:(X.wish E).Ok):X.Ok:=
 ⟨ok.mod,ok.kind,ok.glob,ok.blt,ok.above,ok.inj,ok.has,ok.cab,ok.hd,ok.frames,ok.stk,ok.exf,ok.bs,ok.bsz,ok.noex,ok.exfs,ok.funs,ok.frf⟩
section
variable {X:Cx}{pins:List (J8 × Obj)}{σ:St}{H:Hp}{s:J9}{E:YP->J9->Prop}
theorem Inv.wish(I:Inv X pins σ H s)(E:YP->J9->Prop):Inv (X.wish E) pins σ H s:=⟨I.ok.wish E,I.os,I.bare,I.base,I.loc,I.cell,I.free,I.freeC,I.pin,I.hok,I.len⟩
theorem Inv.unwish(I:Inv (X.wish E) pins σ H s):Inv X pins σ H s:=⟨I.ok.unwish,I.os,I.bare,I.base,I.loc,I.cell,I.free,I.freeC,I.pin,I.hok,I.len⟩
theorem SP.unwish{D:jS}{f:Flow}{s':J9}(h:SP (X.wish E) pins D f s'):SP X pins D f s':=by
 cases f with
 | next=>obtain⟨a,b,I,q⟩:=h;exact⟨a,b,I.unwish,q⟩
 | brk=>obtain⟨a,b,I,q⟩:=h;exact⟨a,b,I.unwish,q⟩
 | cont=>obtain⟨a,b,I,q⟩:=h;exact⟨a,b,I.unwish,q⟩
 | ret u=>obtain⟨v,a,b,I,r,q⟩:=h;exact⟨v,a,b,I.unwish,r,q⟩
theorem fE.nox{b:List ZE}{t:TS}(h:fE X.nox b t):fE X b t:=fun a s c H D I d=>
 Jp (h a s c H D (I.wish _) d) (fun _ _ q=>q.unwish) fun _ _ z=>ZO z
end
section
variable {X:Cx}{st:ZE}{rest:List ZE}{t u:TS}{e:Expr}{te:TE}{pos:Pos}
def Nq:TS:=fun D a H=>D.nx a H
def Ny(t u:TS):TS:=fun D a H=>t { D with nx:=u D } a H
theorem Ik:fE X [] Nq:=fun _ _ a H _ I h=>U1 ⟨a,H,I,h⟩
theorem yA(g:PS X st t)(e:fE X rest u):fE X (st::rest) (Ny t u):=by
 intro a s c H D I h;refine wpAny_execs_cons (aW (g a s c H { D with nx:=u D } I h) fun f d q=>?_)
 cases f with
 | next=>
  obtain⟨b,j,i,q⟩:=q;exact e a d b j D i q
 | ret v=>exact q
 | brk=>exact q
 | cont=>exact q
theorem wG(c:PS X st t):fE X [st] t:=by
 intro a s b H D I h;refine wpAny_execs_cons (aW (c a s b H D I h) fun f d q=>?_)
 cases f with
 | next=>exact U1 q
 | ret v=>exact q
 | brk=>exact q
 | cont=>exact q
theorem Inv.quiet{a:List (J8 × Obj)}{b:St}{H:Hp}{s:J9}(I:Inv X a b H s):interactive X.env=false:=by simp [interactive,I.ok.kind]
def Nk(te:TE):TS:=fun D a H=>te a H fun _ b=>D.nx a b
theorem qK(he:PE X e te)(hs:ZI e none pos.line X.env=pure false:=by rfl):PS X (.Expr e pos) (Nk te):=by
 intro a s b H D I h;exact wpAny_Expr_any (aW (he a s b H _ I h) fun v g ⟨x,f,d,i,c⟩=>⟨b,f,d,c⟩) I.quiet hs
def Nx(te:TE):TS:=fun D a H=>te a H D.rt
theorem BP(he:PE X e te):PS X (.Return (some e) pos) (Nx te):=by
 intro a s b H D I h;exact wpAny_Return_some (aW (he a s b H _ I h) fun v i ⟨x,g,f,c,d⟩=>⟨x,b,g,f,c,d⟩)
def Nn(c:TT)(t u:TS):TS:=fun D a H=>c a H fun b d=>if b=true then t D a d else u D a d
theorem Ij{c:Expr}{a b:List ZE}{g:TT}(n:PT X c g)(p:fE X a t)(o:fE X b u):PS X (.If c a b pos) (Nn g t u):=by
 intro e s f H D I h;refine wpAny_If (aW (n e s f H _ I h) fun d i m=>?_);obtain⟨l,k,j⟩:=m
 cases d with
 | true=>exact p e i f l D k j
 | false=>exact o e i f l D k j
end
abbrev TG:=V->St->Hp->(St->Hp->Prop)->Prop
abbrev mW:=List V->St->Hp->(St->Hp->Prop)->Prop
def PG(X:Cx)(a:Expr)(t:TG):Prop:=
 ∀(pins:List (J8 × Obj)) (s:J9) (σ:St) (H:Hp) (v:V) (u:YP) (Q:St->Hp->Prop),Inv X pins σ H s->RelV v u->t v σ H Q->
  Zb (Zc X.prog X.w) X.A (assign a X.env u) (fun _ b=>∃ σ' H',Inv X pins σ' H' b/\Q σ' H') X.xe s
def mR(X:Cx)(a:List Expr)(t:mW):Prop:=
 ∀(pins:List (J8 × Obj)) (s:J9) (σ:St) (H:Hp) (vs:List V) (us:List YP) (Q:St->Hp->Prop),Inv X pins σ H s->Vals vs us->t vs σ H Q->
  Zb (Zc X.prog X.w) X.A (assignInOrder ((Uc a X.env).map (·.2)) us) (fun _ b=>∃ σ' H',Inv X pins σ' H' b/\Q σ' H') X.xe s
section
variable {X:Cx}{pos:Pos}
def sS(i:Nat):TG:=fun v a H Q=>Q (a.set i (some v)) H
theorem BK(e:X.N.Nodup)(c:X.N[i]?=some x)(b:hE X.env.scope x)(d:X.fn x=true ∨ X.env.scope.names.lookup x=some .local:=by first | exact .inl rfl | exact .inr rfl | assumption):PG X (.Name x pos) (sS i):=by
 intro a s g H v u Q I r h;exact wpAny_assign_Name (Hw I e c b r (fun j f=>⟨_,H,f,h⟩) d)
def Lo:mW:=fun b a H Q=>b=[]/\Q a H
def Ln(t:TG)(u:mW):mW:=fun c b H Q=>∃ v r,c=v::r/\t v b H fun a d=>u r a d Q
theorem TW:mR X [] Lo:=by
 intro a s b H c d Q I r h;obtain⟨e,h⟩:=h;subst e;cases r;exact assignInOrder_nil ⟨b,H,I,h⟩
theorem TV{e:Expr}{es:List Expr}{t:TG}{u:mW}(k:PG X e t)(j:mR X es u)
  (hs:(Uc (e::es) X.env).map (·.2)=assign e X.env::(Uc es X.env).map (·.2):=by rfl):mR X (e::es) (Ln t u):=by
 intro a s c H o q Q I r h;obtain⟨v,p,l,h⟩:=h;subst l
 cases r with
 | cons r g=>
  rw [hs];refine assignInOrder_cons (aW (k a s c H _ _ _ I r h) fun _ f d=>?_);obtain⟨b,n,m,i⟩:=d;exact j a f b n _ _ Q m g i
def Lp(K:PySem.W.Frag)(n:Nat)(t:mW):TG:=fun v b H Q=>∃ a xs,v=.ref a/\bL K H a xs/\xs.length=n/\t xs b H Q
theorem TU(y:X.calm=true)(h:mR X es t)
  (w:(Uc es X.env).length=n:=by rfl) (f:(Uc es X.env).findIdx? (·.1)=none:=by rfl):PG X (.Tuple es k pos) (Lp X.K n t):=by
 intro c s g H v u Q I r d;obtain⟨a,j,A,q,x,d⟩:=d;subst A;cases r;obtain⟨l,i,p,E⟩:=I.tuple q;refine assign_Tuple_tuple (I.ok.hd y) p (by simp [w,<- x,i.length]) f fun z m=>?_;have B:Inv X c g H { s with heap:=z }:=I.kept (t':=s.toks) fun b o e=>m b o (Qz (Qs e)) e;exact h c _ g H j _ Q B (by simpa using i) d
def Nc(te:TE)(g:TG):TS:=fun D a H=>te a H fun x b=>g x a b D.nx
theorem lA{i:Nat}{x:Str}{e:Expr}{te:TE}{a:Pos}(l:X.N.Nodup)(j:X.N[i]?=some x)(g:hE X.env.scope x)(he:PE X e te)(hs:ZI e (some (.Name x a)) pos.line X.env=pure false:=by rfl)(k:X.fn x=true ∨ X.env.scope.names.lookup x=some .local:=by first | exact .inl rfl | exact .inr rfl | assumption):
  PS X (.Assign [.Name x a] e pos) (Nc te (sS i)):=by
 intro b s c H D I h;refine wpAny_Assign_Name (aW (he b s c H _ I h) fun v q ⟨y,o,n,d,f⟩=>?_) hs;exact Hw n l j g d (fun p m=>⟨_,o,m,f⟩) k
def Wp(c:TT)(e:TS):TS:=fun D a H=>∃ W:Nat->St->Hp->Prop,(∃ m,W m a H)/\∀ m a H,W m a H->
 c a H fun b d=>if b=true then ∃ N:St->Hp->Prop,(∀ σ' H',N σ' H'->∃ m',m'<m/\W m' σ' H')/\e { D with nx:=N,ct:=N,bk:=D.nx } a d else D.nx a d
theorem Vw(q:PassesOwn (Zc X.prog X.w) X.A X.env X.xe)(M:PT X c tc)(O:fE X body tb):PS X (.While c body [] pos) (Wp tc tb):=by
 intro d s y H D I h;obtain⟨W,⟨K,E⟩,turn⟩:=h;refine wpAny_While (codeAny_whileLoop (fun n J=>∃ σ' H',Inv X d σ' H' J/\W n σ' H') ?_ K ⟨y,H,I,E⟩);rintro n G ⟨e,x,Q,B⟩;refine Ju q (aW (M d G e x _ Q (turn n e x B)) fun b F z=>?_);obtain⟨u,t,j⟩:=z
 cases b with
 | true=>
  obtain⟨N,r,j⟩:=j;rw [if_pos rfl];refine Ju q (aW (O d F e u _ t j) fun f R i=>?_)
  cases f with
  | next=>
   obtain⟨a,g,p,l⟩:=i;obtain⟨m,o,k⟩:=r a g l
   exact⟨m,o,a,g,p,k⟩
  | cont=>
   obtain⟨a,g,p,l⟩:=i;obtain⟨m,o,k⟩:=r a g l
   exact⟨m,o,a,g,p,k⟩
  | brk=>exact i
  | ret v=>exact i
 | false=>
  rw [if_neg Qr];exact U1 ⟨e,u,t,j⟩
end
structure It where
 go:Nat->Hp->Prop
 yld:Nat->Hp->V->Hp->Prop
 stop:Nat->Hp->Prop
def gO(X:Cx)(a:List (J8 × Obj))(H:Hp)(b:J8):Prop:=
 H b=none/\b≠X.env.locals/\b∉X.fs/\(b∈X.ex ∨ X.s₀.heap.objs.size<=b)/\(∀ x c,X.env.cells.lookup x=some c->c≠b)/\∀ p∈X.pn++a,p.1≠b
theorem Inv.fpOk(I:Inv X pins σ H s)(a:s.heap.objs.size<=b)(f:H' b=none):gO X pins H' b:=by
 refine⟨f,Jf (QX I.lt a),I.nofs a,.inr (QJ I.sz a),fun x c e z=>?_,fun p d z=>?_⟩
 ·obtain⟨v,q⟩:=I.cell x c e;exact absurd (QX q.lt (by rw [z];exact a)) (JO _)
 ·exact absurd (QX (Qs (I.pin p d).1) (by rw [z];exact a)) (JO _)
structure lK(P:Zd)(w:Zf)(K:PySem.W.Frag)(tg:Expr)(J:It)(fp:List J8)(it:J8)(tn:Nat->Heap->Prop):Prop where
 mem:it∈fp
 obj:∀ i h,tn i h->∀ b∈fp,∃ o,h.get? b=some o/\∀ v,o.data≠.cell v
 keep:∀ i h h',tn i h->(∀ b∈fp,∀ o,h.get? b=some o->h'.get? b=some o)->tn i h'
 item:∀(X:Cx),X.prog=P->X.w=w->X.K=K->X.calm=true->∀(i:Nat) (pins:List (J8 × Obj)) (s:J9) (σ:St) (H:Hp) (E:YP->J9->Prop),Inv X pins σ H s->(∀ b∈fp,gO X pins H b)->tn i s.heap->J.go i H->
  Zb (Zc P w) X.A (Uy (.ref it)) (fun r s1=>∃ u,r=some u /\
   Zb (Zc P w) X.A (letOwnedTupleGo tg (.ref it) u) (fun _ s2=>∃ x H',Inv X pins σ H' s2/\RelV x u/\J.yld i H x H'/\tn (i+1) s2.heap/\∀ b∈fp,H' b=none) E s1) E s
 done:∀(X:Cx),X.prog=P->X.w=w->X.K=K->X.calm=true->∀(i:Nat) (pins:List (J8 × Obj)) (s:J9) (σ:St) (H:Hp) (E:YP->J9->Prop),Inv X pins σ H s->(∀ b∈fp,gO X pins H b)->tn i s.heap->J.stop i H->
  Zb (Zc P w) X.A (Uy (.ref it)) (fun r s1=>r=none/\Inv X pins σ H s1) E s
 self:∀(A:Around) (i:Nat) (s:J9) (Q:YP->J9->Prop) (E:YP->J9->Prop),tn i s.heap->Q (.ref it) s->Zb (Zc P w) A (pyIter (.ref it)) Q E s
abbrev TI:=St->Hp->(It->Hp->Prop)->Prop
def Dc(X:Cx)(a:List (J8 × Obj))(e:St)(f:Expr)(R:It->Hp->Prop)(c:YP)(d:J9):Prop:=
 ∃(it:J8) (fp:List J8) (tn:Nat->Heap->Prop) (J:It) (H':Hp),c=.ref it/\Inv X a e H' d/\lK X.prog X.w X.K f J fp it tn/\tn 0 d.heap/\(∀ b∈fp,gO X a H' b)/\R J H'
def PI(X:Cx)(c a:Expr)(b:TI):Prop:=
 ∀(pins:List (J8 × Obj)) (s:J9) (σ:St) (H:Hp) (R:It->Hp->Prop),Inv X pins σ H s->b σ H R->
  Zb (Zc X.prog X.w) X.A (Zr a X.env) (fun v d=>Zb (Zc X.prog X.w) X.A (pyIter v) (Dc X pins σ c R) X.xe d) X.xe s
theorem Ay(b:s.heap.get? it=some o)(e:o.cls=.type n)(d:o.data=.fields vs)
  (c:["enumerate","zip","dict_itemiterator","dict_reverseitemiterator","odict_iterator","itertools.zip_longest","itertools.pairwise"].contains n=false) (a:Q () s):Zb M A (letOwnedTupleGo tg (.ref it) u) Q E s:=by
 unfold letOwnedTupleGo
 cases tg <;> first
  | exact Qb a
  | (cases u <;> first
    | exact Qb a
    | (refine Qa (wpAny_load b ?_)
       rw [e,d]
       show Zb M A (if(["enumerate","zip","dict_itemiterator","dict_reverseitemiterator","odict_iterator","itertools.zip_longest","itertools.pairwise"].contains n && vs[0]? == some (UR _))=true then _ else _) Q E s
       rw [if_neg (by intro h;rw [c,Bool.false_and]at h;cases h)]
       exact Qb a))
def CN(K:PySem.W.Frag)(a:J8):It:=
 ⟨fun i H=>∃ xs x,bV K H a xs/\xs[i]?=some x,fun i H x b=>b=H/\∀ xs,bV K H a xs->xs[i]?=some x,fun i H=>∃ xs,bV K H a xs/\xs.length<=i⟩
def CO(K:PySem.W.Frag)(a:J8):It:=
 ⟨fun i H=>∃ xs x,bL K H a xs/\xs[i]?=some x,fun i H x b=>b=H/\∀ xs,bL K H a xs->xs[i]?=some x,fun i H=>∃ xs,bL K H a xs/\xs.length<=i⟩
def t7(a:Int)(n:Nat):It:=⟨fun i _=>i<n,fun i H x b=>b=H/\x=.int (a+i),fun i _=>n<=i⟩
theorem WA{P:Zd}{w:Zf}{K:PySem.W.Frag}{U:Expr}(a it:J8):lK P w K U (CN K a) [it] it (fun i h=>h.IsListIter it a i) where
 mem:=by simp
 obj:=fun i h f b j=>by
  have e:b=it:=by simpa using j
  subst e;obtain⟨o,e,c,d⟩:=f
  exact⟨o,e,fun v z=>by rw [d]at z;cases z⟩
 keep:=fun i h q f k=>f.at fun o e=>k it (by simp) o e
 item:=by
  intro X F A G S i g s R H E I n f B;subst F A G;obtain⟨T,x,m,y⟩:=B;obtain⟨t,r,p,hz⟩:=I.list m;obtain⟨u,hu,Z⟩:=r.get y;obtain⟨Q,O,f2,N,M,J⟩:=n it (by simp);refine wpAny_pyNext_list_item f p.isList (x:=u) (by simpa using hu) fun q l Y=>?_;have I1:Inv X g R H { s with heap:=q }:=I.turned (t':=s.toks) (fun b o j e=>(Y.2 b j).trans e) Q O N M J;obtain⟨o,e,c,d⟩:=id l
  exact⟨u,rfl,Ay (s:={ s with heap:=q }) e c d (by decide) ⟨x,H,I1,Z,⟨rfl,fun ys hy=>by rw [I.list_inj hy m];exact y⟩,l,fun b j=>(n b j).1⟩⟩
 done:=by
  intro X F A G S i g s R H E I n f B;subst F A G;obtain⟨T,m,y⟩:=B;obtain⟨t,r,p,hz⟩:=I.list m;obtain⟨Q,O,f2,N,M,J⟩:=n it (by simp);have hl:=r.length;exact wpAny_pyNext_list_end (I.ok.hd S) f p.isList (by simp;lia) fun q eb=>⟨rfl,I.turned (t':=s.toks) (fun b o j e=>eb b o j e) Q O N M J⟩
 self:=fun _ _ _ _ _ f h=>wpAny_pyIter_listiter f h
theorem WC{P:Zd}{w:Zf}{K:PySem.W.Frag}{U:Expr}(a it:J8):lK P w K U (CO K a) [it] it (fun i h=>h.IsTupleIter it a i) where
 mem:=by simp
 obj:=fun i h f b l=>by
  have e:b=it:=by simpa using l
  subst e;obtain⟨o,e,c,d⟩:=f
  exact⟨o,e,fun v z=>by rw [d]at z;cases z⟩
 keep:=fun i h r f k=>f.at fun o e=>k it (by simp) o e
 item:=by
  intro X F A G S i g s R H E I q f B;subst F A G;obtain⟨T,x,n,y⟩:=B;obtain⟨j,t,p,hz⟩:=I.tuple n;obtain⟨u,hu,Z⟩:=t.get y;obtain⟨Q,O,f2,N,M,J⟩:=q it (by simp);refine wpAny_pyNext_tuple_item f (show s.heap.IsTuple a j.toArray from p) (x:=u) (by simpa using hu) fun r m Y=>?_;have I1:Inv X g R H { s with heap:=r }:=I.turned (t':=s.toks) (fun b o l e=>(Y.2 b l).trans e) Q O N M J;obtain⟨o,e,c,d⟩:=id m
  exact⟨u,rfl,Ay (s:={ s with heap:=r }) e c d (by decide) ⟨x,H,I1,Z,⟨rfl,fun ys hy=>by rw [I.tuple_inj hy n];exact y⟩,m,fun b l=>(q b l).1⟩⟩
 done:=by
  intro X F A G S i g s R H E I q f B;subst F A G;obtain⟨T,n,y⟩:=B;obtain⟨j,t,p,hz⟩:=I.tuple n;obtain⟨Q,O,f2,N,M,J⟩:=q it (by simp);have hl:=t.length;exact wpAny_pyNext_tuple_end (I.ok.hd S) f (show s.heap.IsTuple a j.toArray from p) (by simp;lia) fun r eb=>⟨rfl,I.turned (t':=s.toks) (fun b o l e=>eb b o l e) Q O N M J⟩
 self:=fun _ _ _ _ _ f h=>wpAny_pyIter_tupleiter f h
theorem WB{P:Zd}{w:Zf}{K:PySem.W.Frag}{N:Expr}(it:J8)(g:Int)(n:Nat):lK P w K N (t7 g n) [it] it (fun i h=>IsRangeIter h it (g+(i:Nat) * 1) ((n:Int)-(i:Nat)) 1) where
 mem:=by simp
 obj:=fun i h a b d=>by
  have e:b=it:=by simpa using d
  subst e
  exact⟨_,a,fun v z=>by
   have M:Data.fields _=Data.cell v:=z
   cases M⟩
 keep:=fun i h l a k=>k it (by simp) _ a
 item:=by
  intro X r m u q i c s G H E I j a p;subst r m u;obtain⟨F,B,R,A,y,x⟩:=j it (by simp);have W:=Walks.range (prog:=X.prog) (w:=X.w) (I.ok.hd q) it g 1 n;refine W.item i s _ _ p a fun v l J Q f O=>?_;obtain⟨t,rfl⟩:=Q;have T:Inv X c G H { s with heap:=l,toks:=J }:=I.turned (fun b o d e=>O b o (by simpa using d) e) F B A y x
  refine⟨_,rfl,Ay (s:={ s with heap:=l,toks:=J }) (n:="range_iterator") f rfl rfl (by decide) ⟨.int (g+i),H,T,⟨t,?_⟩,⟨rfl,rfl⟩,f,fun b d=>(j b d).1⟩⟩
  rw [Int.mul_one]
 done:=by
  intro X r m u q i c s G H E I j a p;subst r m u;obtain⟨F,B,R,A,y,x⟩:=j it (by simp);exact wpAny_pyNext_range_end (I.ok.hd q) a (by have:n<=i:=p;lia) fun l S=>⟨rfl,I.turned (t':=s.toks) (fun b o d e=>S b o d e) F B A y x⟩
 self:=fun _ _ _ _ _ a h=>wpAny_pyIter_rangeiter a h
section
variable {X:Cx}{tg:Expr}
theorem Tj{c:List (J8 × Obj)}{d:St}{H:Hp}{s:J9}{R:It->Hp->Prop}{E:YP->J9->Prop}{lo a:Int}{t u v:Tok}{tk:Nat}(I:Inv X c d H s)(j:-(2 ^ 62)<=lo)(i:lo<2 ^ 62)(h:-(2 ^ 62)<=a)(g:a<2 ^ 62)
  (q:R (t7 lo (a-lo).toNat) H):Zb (Zc X.prog X.w) X.A (pyIter (.ref s.heap.objs.size)) (Dc X c d tg R) E { s with heap:=s.heap.push { cls:=.type "range",data:=.fields #[.int lo t,.int a u,.int 1 v] },toks:=tk }:=by
 refine wpAny_pyIter_range (IsRange.new ..) (small_one j i h g) ?_;have I1:Inv X c d H { s with heap:=s.heap.push { cls:=.type "range",data:=.fields #[.int lo t,.int a u,.int 1 v] },toks:=tk }:=I.kept fun b o e=>Qh _ e
 refine⟨(s.heap.push { cls:=.type "range",data:=.fields #[.int lo t,.int a u,.int 1 v] }).objs.size,[(s.heap.push { cls:=.type "range",data:=.fields #[.int lo t,.int a u,.int 1 v] }).objs.size],_,_,H,rfl,
  I1.kept (t':=tk) fun b o e=>Qh _ e,WB _ lo (a-lo).toNat,?_,fun b f=>?_,q⟩
 ·have l:lo+((0:Nat):Int) * 1=lo:=by simp
  have k:(((a-lo).toNat:Nat):Int)-((0:Nat):Int)=Builtin.Range.rangeSize lo a 1:=by rw [rangeSize_one];split <;> lia
  show IsRangeIter _ _ (lo+((0:Nat):Int) * 1) ((((a-lo).toNat:Nat):Int)-((0:Nat):Int)) 1
  rw [l,k];exact Qy _ rfl
 ·have e:b=(s.heap.push { cls:=.type "range",data:=.fields #[.int lo t,.int a u,.int 1 v] }).objs.size:=by simpa using f
  subst e;exact I1.fpOk (Qm _) (I1.hok.fresh (Qm _))
def iT(c:TA):TI:=fun a H R=>c a H fun b d=>∃ j:Int,b=[.int j]/\-(2 ^ 62)<=j/\j<2 ^ 62/\R (t7 0 j.toNat) d
theorem TZ{a:Expr}{d:TA}{p pos:Pos}(m:Gl X "range")(l:X.mg "range"=none)(n:PA X [a] d)(hs:Za [a] X.env=[(false,Zr a X.env)]:=by rfl):PI X tg (.Call (.Name "range" p) [a] [] pos) (iT d):=by
 intro b s f H R I h;refine Call_ (kE I m l boot_range (YC (aW (n pos b s f H _ I h) fun v w ⟨u,x,o,i,c⟩=>?_) hs rfl));obtain⟨j,e,c,k,q⟩:=c;subst e
 cases i with
 | cons r g=>
  cases g;obtain⟨t,rfl⟩:=r;exact call_range_1 (Tj o (by lia) (by lia) c k (by simpa using q))
def Nl(c:TI)(g:TG)(d:TS):TS:=fun D a H=>c a H fun J f=>∃ W:Nat->Nat->St->Hp->Prop,(∃ m,W 0 m a f)/\∀ i m a H,W i m a H->
 (J.stop i H/\D.nx a H) ∨ (J.go i H/\∃ N:St->Hp->Prop,(∀ σ' H',N σ' H'->∃ m',m'<m/\W (i+1) m' σ' H')/\∀ x H',J.yld i H x H'->g x a H' fun b e=>d { D with nx:=N,ct:=N,bk:=D.nx } b e)
def tH(a:List J8)(h:Heap):List (J8 × Obj):=a.filterMap fun b=>(h.get? b).map fun o=>(b,o)
theorem xS(a:b∈fp)(e:h.get? b=some o):(b,o)∈tH fp h:=List.mem_filterMap.mpr ⟨b,a,by rw [e];rfl⟩
theorem SJ(a:p∈tH fp h):p.1∈fp/\h.get? p.1=some p.2:=by
 obtain⟨b,c,e⟩:=List.mem_filterMap.mp a
 cases q:h.get? b with
 | none=>rw [q]at e;cases e
 | some o=>
  rw [q]at e;have d:(b,o)=p:=QB e;subst d
  exact⟨c,q⟩
theorem Inv.pinned(I:Inv X pins σ H s)(h:∀ b∈fp,gO X pins H b)(g:∀ b∈fp,∃ o,s.heap.get? b=some o/\∀ v,o.data≠.cell v):Inv X (pins++tH fp s.heap) σ H s:=
 I.pins_of fun p f=>(QC.mp f).elim (fun z=>I.pin p (Qu _ z)) fun z=>by
  obtain⟨a,e⟩:=SJ z;obtain⟨k,j,i,_⟩:=h p.1 a;obtain⟨o,c,d⟩:=g p.1 a;rw [e]at c;cases c
  exact⟨e,k,j,i,d⟩
theorem Inv.unpinned(I:Inv X (pins++pl) σ H s):Inv X pins σ H s:=I.pins_of fun p a=>I.pin p (Qu _ (Q2 _ a))
theorem Ii(G:PassesOwn (Zc X.prog X.w) X.A X.env X.xe)(hc:X.calm=true)(hi:PI X tg iter wi)(hg:PG X tg g)(l:fE X body tb)
  (hs:∀ x,ZX iter X.env x=pure x:=by intro _;rfl):PS X (.For tg iter body [] pos) (Nl wi g tb):=by
 intro c s σ H D I h;refine wpAny_For (aW (hi c s σ H _ I h) fun v s1 h1=>aW h1 fun a0 s2 h2=>?_) hs;obtain⟨it,M,tn,J,H2,e,I2,T,R,f2,W,⟨m0,w0⟩,turn⟩:=h2;subst e;have k:∀{H':Hp},(∀ b∈M,H' b=none)->∀ b∈M,gO X c H' b:=fun hn b l=>⟨hn b l,(f2 b l).2⟩;refine codeAny_forLoop_any (fun n s'=>∃ i σ' H',Inv X c σ' H' s'/\tn i s'.heap/\(∀ b∈M,H' b=none)/\W i n σ' H') ?_ m0 ⟨0,σ,H2,I2,R,fun b l=>(f2 b l).1,w0⟩;rintro n s3 ⟨i,j,O,I3,E,K,w3⟩;rcases turn i n j O w3 with⟨B,qn⟩ | ⟨go,N,hN,step⟩
 ·refine Ju G (aW (T.done X rfl rfl rfl hc i c s3 j O X.xe I3 (k K) E B) fun r s4 y=>?_);obtain⟨U,I4⟩:=y;subst U;exact U1 ⟨j,O,I4,qn⟩
 ·refine Ju G (aW (T.item X rfl rfl rfl hc i c s3 j O X.xe I3 (k K) E go) fun r s4 y=>?_);obtain⟨u,U,h4⟩:=y;subst U;refine Ju G (aW h4 fun _ s5 y=>?_);obtain⟨x,H5,I5,r5,y5,z,Y⟩:=y;have Z:=I5.pinned (k Y) (T.obj _ _ z);refine Ju G (aW (hg _ s5 j H5 x u _ Z r5 (step x H5 y5)) fun _ s6 y=>?_);obtain⟨Q,H6,I6,q6⟩:=y;refine Ju G (aW (l _ s6 Q H6 _ I6 q6) fun f S t=>?_)
  have p:∀{a:St}{q:Hp},Inv X (c++tH M s5.heap) a q S->N a q->∃ m,m<n/\∃ i σ' H',Inv X c σ' H' S/\tn i S.heap/\(∀ b∈M,H' b=none)/\W i m σ' H':=fun{a q} I7 F=>by
   obtain⟨m',hm,w7⟩:=hN a q F
   refine⟨m',hm,i+1,a,q,I7.unpinned,T.keep _ _ _ z fun b l o e=>(I7.pin (b,o) (Qu _ (Qu _ (xS l e)))).1,fun b l=>?_,w7⟩
   obtain⟨o,e,d⟩:=T.obj _ _ z b l
   exact(I7.pin (b,o) (Qu _ (Qu _ (xS l e)))).2.1
  cases f with
  | next=>obtain⟨a,q,I7,F⟩:=t;exact p I7 F
  | cont=>obtain⟨a,q,I7,F⟩:=t;exact p I7 F
  | brk=>obtain⟨a,q,I7,t⟩:=t;exact⟨a,q,I7.unpinned,t⟩
  | ret v=>obtain⟨x7,a,q,I7,r7,t⟩:=t;exact⟨x7,a,q,I7.unpinned,r7,t⟩
end
abbrev R2:=V->V->Hp->VK->Prop
def bH(X:Cx)(f:YP->YP->Sem YP)(r:R2):Prop:=
 ∀(pins:List (J8 × Obj)) (s:J9) (σ:St) (H:Hp) (x y:V) (v u:YP) (Q:VK),Inv X pins σ H s->RelV x v->RelV y u->r x y H Q->
  Zb (Zc X.prog X.w) X.A (f v u) (EP X pins σ Q) X.xe s
def mY(X:Cx)(f:YP->Sem YP)(r:V->Hp->VK->Prop):Prop:=
 ∀(pins:List (J8 × Obj)) (s:J9) (σ:St) (H:Hp) (x:V) (v:YP) (Q:VK),Inv X pins σ H s->RelV x v->r x H Q->
  Zb (Zc X.prog X.w) X.A (f v) (EP X pins σ Q) X.xe s
def cU(X:Cx)(f:YP)(r:List V->Hp->VK->Prop):Prop:=
 ∀(pins:List (J8 × Obj)) (s:J9) (σ:St) (H:Hp) (xs:List V) (us:List YP) (Q:VK),Inv X pins σ H s->Vals xs us->r xs H Q->
  Zb (Zc X.prog X.w) X.A (call f us) (EP X pins σ Q) X.xe s
def nG(r:R2)(c b:TE):TE:=fun a H Q=>c a H fun x e=>b a e fun y d=>r x y d Q
def NC(r:V->Hp->VK->Prop)(b:TE):TE:=fun a H Q=>b a H fun x c=>r x c Q
def rI(C:Int->Int->Prop)(g:Int->Int->V):R2:=fun x y H Q=>∃ i j,x=.int i/\y=.int j/\C i j/\Q (g i j) H
def lU(g:Int->Int->V):R2:=fun x y H Q=>∃ i j,x=.int i/\y=.int j/\Q (g i j) H
def rU(g:Int->V):V->Hp->VK->Prop:=fun x H Q=>∃ i,x=.int i/\Q (g i) H
section
variable {X:Cx}{a b c:Expr}{ta tb tc:TE}{pos:Pos}
theorem y7(o:PE X a ta)(n:PE X b tb){c:List (J8 × Obj)}{s:J9}{d:St}{H:Hp}{R:V->V->Hp->Prop}(I:Inv X c d H s)
  (h:ta d H fun x H1=>tb d H1 fun y H2=>R x y H2) {Q:YP->J9->Prop}{f:YP->YP->Sem YP}
  (m:∀ v u s2 x y H2,Inv X c d H2 s2->RelV x v->RelV y u->R x y H2->Zb (Zc X.prog X.w) X.A (f v u) Q X.xe s2):
  Zb (Zc X.prog X.w) X.A (Zr a X.env) (fun v s₁=>Zb (Zc X.prog X.w) X.A (Zr b X.env) (fun u s₂=>Zb (Zc X.prog X.w) X.A (f v u) Q X.xe s₂) X.xe s₁) X.xe s:=by
 refine aW (o c s d H _ I h) fun v g e=>?_;obtain⟨x,H1,q,j,l⟩:=e;refine aW (n c g d H1 _ q l) fun u s2 e=>?_;obtain⟨y,H2,p,i,k⟩:=e;exact m v u s2 x y H2 p j i k
theorem Go{op:Operator}{r:R2}(i:bH X (ZH op) r)(k:PE X a ta)(j:PE X b tb):PE X (.BinOp a op b pos) (nG r ta tb):=by
 intro c s d H Q I h;exact wpAny_BinOp (y7 k j I h fun v u e x y m l g f q=>i c e d m x y v u Q l g f q)
theorem Mr(g:mY X (unaryOp op) r)(i:PE X a ta):PE X (.UnaryOp op a pos) (NC r ta):=by
 intro b s c H Q I h;exact UnaryOp_ (aW (i b s c H _ I h) fun v d ⟨x,k,j,e,f⟩=>g b d c k x v Q j e f)
theorem zE{f:YP->YP->Sem YP}{C:Int->Int->Prop}{g:Int->Int->Int}
  (a:∀(i j:Int) (t u:Tok) (s:J9) (Q:YP->J9->Prop) (E:YP->J9->Prop),C i j->Q (.int (g i j) s.toks) { s with toks:=s.toks+1 }->Zb (Zc X.prog X.w) X.A (f (.int i t) (.int j u)) Q E s):
  bH X f (rI C fun i j=>.int (g i j)):=by
 intro b s l H x y v u Q I e d h;obtain⟨i,j,rfl,rfl,k,q⟩:=h;obtain⟨t,rfl⟩:=e;obtain⟨c,rfl⟩:=d;exact a i j t c s _ _ k ⟨.int (g i j),H,I.tok _,⟨_,rfl⟩,q⟩
theorem DH{f:YP->YP->Sem YP}{g:Int->Int->Int}
  (a:∀(i j:Int) (t u:Tok) (s:J9) (Q:YP->J9->Prop) (E:YP->J9->Prop),Q (.int (g i j) s.toks) { s with toks:=s.toks+1 }->Zb (Zc X.prog X.w) X.A (f (.int i t) (.int j u)) Q E s):
  bH X f (lU fun i j=>.int (g i j)):=by
 intro b s k H x y v u Q I e d h;obtain⟨i,j,rfl,rfl,q⟩:=h;obtain⟨t,rfl⟩:=e;obtain⟨c,rfl⟩:=d;exact a i j t c s _ _ ⟨.int (g i j),H,I.tok _,⟨_,rfl⟩,q⟩
theorem zD{f:YP->YP->Sem YP}{g:Int->Int->Bool}
  (a:∀(i j:Int) (t u:Tok) (s:J9) (Q:YP->J9->Prop) (E:YP->J9->Prop),Q (.bool (g i j)) s->Zb (Zc X.prog X.w) X.A (f (.int i t) (.int j u)) Q E s):
  bH X f (lU fun i j=>.bl (g i j)):=by
 intro b s k H x y v u Q I e d h;obtain⟨i,j,rfl,rfl,q⟩:=h;obtain⟨t,rfl⟩:=e;obtain⟨c,rfl⟩:=d;exact a i j t c s _ _ ⟨.bl (g i j),H,I,rfl,q⟩
def Kn(i j:Int):Prop:=0<j/\j<1073741824
def tY(i j:Int):Prop:=(-(2 ^ 64)<i/\i<2 ^ 64) ∨ (-(2 ^ 64)<j/\j<2 ^ 64)
theorem tY.ok{i j:Int}(h:tY i j):IntMulOk i j:=by
 rcases h with⟨b,a⟩ | ⟨b,a⟩
 ·exact .of_left (intBits_le_64 b a)
 ·exact .of_right (intBits_le_64 b a)
theorem RM:bH X (ZH .Add) (lU fun i j=>.int (i+j)):=DH fun _ _ _ _ _ _ _ q=>add_int q
theorem RT:bH X (ZH .Sub) (lU fun i j=>.int (i-j)):=DH fun _ _ _ _ _ _ _ q=>sub_int q
theorem RS:bH X (ZH .Mult) (rI tY fun i j=>.int (i * j)):=zE fun _ _ _ _ _ _ _ a q=>mul_int q a.ok
theorem RO:bH X (ZH .FloorDiv) (rI Kn fun i j=>.int (i / j)):=zE fun i j _ _ _ _ _ a q=>by
 have c:(0:Int)<j:=a.1;have b:j<1073741824:=a.2;exact floordiv_int (by lia) (by rw [Int.fdiv_eq_ediv_of_nonneg i (by lia)];exact q) (.inl (PyProof.noPylong_small (by lia)))
theorem RQ:bH X (ZH .Mod) (rI (fun _ j=>0<j) fun i j=>.int (i % j)):=zE fun i j _ _ _ _ _ a q=>by
 have b:(0:Int)<j:=a;exact mod_int' (by lia) (by rw [Int.fmod_eq_emod_of_nonneg i (by lia)];exact q)
theorem ND{f:YP->Sem YP}{g:Int->Int}
  (a:∀(i:Int) (t:Tok) (s:J9) (Q:YP->J9->Prop) (E:YP->J9->Prop),Q (.int (g i) s.toks) { s with toks:=s.toks+1 }->Zb (Zc X.prog X.w) X.A (f (.int i t)) Q E s):
  mY X f (rU fun i=>.int (g i)):=by
 intro b s d H x v Q I c h;obtain⟨i,rfl,q⟩:=h;obtain⟨t,rfl⟩:=c;exact a i t s _ _ ⟨.int (g i),H,I.tok _,⟨_,rfl⟩,q⟩
theorem VN:mY X (unaryOp .USub) (rU fun i=>.int (-i)):=ND fun _ _ _ _ _ q=>neg_int q
theorem Mo:bH X (Zm .Lt) (lU fun i j=>.bl (decide (i<j))):=zD fun _ _ _ _ _ _ _ q=>lt_int q
theorem Mn:bH X (Zm .LtE) (lU fun i j=>.bl (decide (i<=j))):=zD fun _ _ _ _ _ _ _ q=>le_int q
theorem Mm:bH X (Zm .Gt) (lU fun i j=>.bl (decide (j<i))):=zD fun _ _ _ _ _ _ _ q=>gt_int q
theorem bH.or{f:YP->YP->Sem YP}{r e:R2}(h:bH X f r)(h':bH X f e):bH X f (fun x y H Q=>r x y H Q ∨ e x y H Q):=by
 intro a s b H x y v u Q I d c q;rcases q with q | q
 ·exact h a s b H x y v u Q I d c q
 ·exact h' a s b H x y v u Q I d c q
theorem dR(b:Expr)(h:op≠.In:=by decide)(a:op≠.NotIn:=by decide):ZR op b=false:=by
 have d:(op == CmpOp.In)=false:=by cases op <;> first | rfl | exact absurd rfl h
 have c:(op == CmpOp.NotIn)=false:=by cases op <;> first | rfl | exact absurd rfl a
 cases b <;> simp [ZR,d,c]
theorem GW{op:CmpOp}{r:R2}(i:bH X (Zm op) r)(l:PE X a ta)(k:PE X b tb)(j:ZR op b=false):PE X (.Compare a [op] [b] pos) (nG r ta tb):=by
 intro c s d H Q I h;exact wpAny_Compare1 (y7 l k I h fun v u e x y n m g f q=>i c e d n x y v u Q m g f q) j
def v7(t:TE):TT:=fun a H Q=>t a H fun x b=>∃ k,x=.bl k/\Q k b
theorem BQ(q:bH X (Zm op) r)(A:PE X a ta)(w:PE X b tb)(t:ZR op b=false):PT X (.Compare a [op] [b] pos) (v7 (nG r ta tb)):=by
 intro d s f H Q I h
 refine wpAny_isTrue_Compare1 (aW (A d s f H _ I h) fun v i ⟨x,K,F,m,p⟩=>aW (w d i f K _ F p) fun u g ⟨y,J,E,l,o⟩=>
  aW (q d g f J x y v u _ E m l o) fun c M ⟨z,G,B,j,k,e,n⟩=>?_) t
 subst e;cases j;exact YB ⟨G,B,n⟩
def v6(r g:R2)(f e d:TE):TE:=fun a H Q=>f a H fun x j=>e a j fun y i=>r x y i fun z b=>∃ k,z=.bl k /\
 (if k=true then d a b fun c h=>g y c h Q else Q (.bl false) b)
theorem Ru(M:bH X (Zm op) r)(i:bH X (Zm op') r')(S:PE X a ta)(R:PE X b tb)(O:PE X c tc)
  (N:lastMarks [op,op'] [b,c]=false:=by with_unfolding_all rfl):PE X (.Compare a [op,op'] [b,c] pos) (v6 r r' ta tb tc):=by
 intro f s g H Q I h
 refine Compare_chain (aW (S f s g H _ I h) fun v A ⟨x,H1,W,F,K⟩=>chain_link (aW (R f A g H1 _ W K) fun u w ⟨y,Z,U,j,J⟩=>
  aW (M f w g Z x y v u _ U F j J) fun d t ⟨z,n,m,E,k,e,l⟩=>?_)) N
 subst e;cases E;refine YB ?_
 cases k with
 | false=>exact ite_ff ⟨.bl false,n,m,rfl,l⟩
 | true=>exact ite_tt (chain_last (aW (O f t g n _ m l) fun p q ⟨o,Y,T,B,G⟩=>i f q g Y y o u p Q T j B G))
theorem Vy(S:bH X (Zm op) r)(i:bH X (Zm op') r')(Y:PE X a ta)(W:PE X b tb)(U:PE X c tc)
  (T:lastMarks [op,op'] [b,c]=false:=by with_unfolding_all rfl):PT X (.Compare a [op,op'] [b,c] pos) (v7 (v6 r r' ta tb tc)):=by
 intro f s g H Q I h
 refine isTrue_chain (aW (Y f s g H _ I h) fun v B ⟨x,H1,I1,J,O⟩=>test_link (aW (W f B g H1 _ I1 O) fun u A ⟨y,H2,I2,j,N⟩=>
  aW (S f A g H2 x y v u _ I2 J j N) fun d w ⟨z,n,m,G,k,e,l⟩=>?_)) T
 subst e;cases G;refine YB ?_
 cases k with
 | false=>
  obtain⟨k',e',R⟩:=l;cases e';exact ite_ff ⟨n,m,R⟩
 | true=>
  refine ite_tt (test_last (aW (U f w g n _ m l) fun q t ⟨p,H4,I4,F,M⟩=>aW (i f t g H4 y p u q _ I4 j F M) fun d' s5 o=>?_));obtain⟨z2,H5,I5,E,k2,Z,K⟩:=o;subst Z;cases E;exact YB ⟨H5,I5,K⟩
theorem Ch:(sizeLine:Nat)<2 ^ 63:=by rw [Q5];decide
theorem g7(r:Vals [x] us):∃ u,us=[u]/\RelV x u:=by
 cases r with
 | cons b a=>cases a;exact⟨_,rfl,b⟩
theorem Cz(r:Vals [x,y] us):∃ u w',us=[u,w']/\RelV x u/\RelV y w':=by
 cases r with
 | cons d c=>
  cases c with
  | cons b a=>cases a;exact⟨_,_,rfl,d,b⟩
theorem N7:cU X (.builtin "abs") (fun xs H Q=>∃ i,xs=[.int i]/\Q (.int (if i<0 then -i else i)) H):=by
 intro a s b H xs c Q I r h;obtain⟨i,rfl,q⟩:=h;obtain⟨u,rfl,t,rfl⟩:=g7 r;exact call_abs_int fun u d=>⟨.int (if i<0 then -i else i),H,I.tok _,⟨_,rfl⟩,q⟩
theorem Ev(c:X.calm=true):cU X (.builtin "max") (fun xs H Q=>∃ i j,xs=[.int i,.int j]/\Q (.int (if j > i then j else i)) H):=by
 intro b s d H xs f Q I r h;obtain⟨i,j,rfl,q⟩:=h;obtain⟨u,e,rfl,⟨t,rfl⟩,⟨l,rfl⟩⟩:=Cz r;refine max_two_ints (I.ok.hd c) fun m g k=>⟨_,H,I.kept k,?_,q⟩;by_cases a:j > i
 ·rw [if_pos a,if_pos a];exact⟨_,rfl⟩
 ·rw [if_neg a,if_neg a];exact⟨_,rfl⟩
theorem Ew(c:X.calm=true):cU X (.builtin "min") (fun xs H Q=>∃ i j,xs=[.int i,.int j]/\Q (.int (if j<i then j else i)) H):=by
 intro b s d H xs f Q I r h;obtain⟨i,j,rfl,q⟩:=h;obtain⟨u,e,rfl,⟨t,rfl⟩,⟨l,rfl⟩⟩:=Cz r;refine min_two_ints (I.ok.hd c) fun m g k=>⟨_,H,I.kept k,?_,q⟩;by_cases a:j<i
 ·rw [if_pos a,if_pos a];exact⟨_,rfl⟩
 ·rw [if_neg a,if_neg a];exact⟨_,rfl⟩
end
structure mQ(h:Heap)(x dx C:J8)(mA:Str->Option YP):Prop where
 obj:h.get? x=some (PySem.W.instObj C dx)
 ns:h.Ns1 dx mA
 ne:dx≠x
theorem PZ{h:Heap}{f:J8}{c:Str->Option YP}(n:h.Ns1 f c):∃ od,h.get? f=some od/\∀ name,PySem.W.lookIn name od=some (c name):=by
 obtain⟨o,d,p,i,l,k,_,j⟩:=n
 refine⟨o,i,fun name=>?_⟩
 have e:=j name;unfold nsFind findBy at e;rw [<- Array.find?_toList]at e;unfold PySem.W.lookIn;rw [l];dsimp only;split
 ·rename_i y q;rw [q]at e;exact congrArg some e
 ·rename_i q;rw [q]at e
  have a:d.toList.any (·.refKey)=false:=by
   rw [List.any_eq_false];intro y g;obtain⟨z,t,b⟩:=k y (Array.mem_toList_iff.mp g)
   simp [DictEntry.refKey,b]
  have m:¬ d.toList.any (·.refKey)=true:=by rw [a];exact Qr
  rw [if_neg m];exact congrArg some e
theorem mQ.look(I:mQ h x dx C mA):∃ od,PySem.W.InstAt h x (PySem.W.instObj C dx) C (some od)/\∀ name,PySem.W.lookIn name od=some (mA name):=
 let⟨od,ho,hl⟩:=PZ I.ns
 ⟨od,⟨I.obj,rfl,rfl,ho⟩,hl⟩
section
variable {prog:Zd}{w:Zf}{A:Around}{E:YP->J9->Prop}{s:J9}{K:PySem.W.Frag}{x dx C f:J8}{mA:Str->Option YP}{name:Str}{v:YP}
theorem P2(X:K.In s.heap)(I:mQ s.heap x dx C mA)(e:PySem.W.plainGet K C name=true)(d:PySem.W.hasDictIn K C=true)
  (f:PySem.W.findIn K (.ref C) name=some none) (b:mA name=some v) (a:PySem.W.handedIn v=true) (h:Q v { s with toks:=s.toks+1 }):
  Zb (Zc prog w) A (getAttr (.ref x) name expr) Q E s:=by
 obtain⟨g,J,c⟩:=I.look;exact PySem.W.get_value X J (PySem.W.plainGet_of e).1 (PySem.W.findObj_own d f rfl (by rw [c,b])) a h
theorem P3(X:K.In s.heap)(I:mQ s.heap x dx C mA)(a:PySem.W.plainGet K C name=true)
  (g:PySem.W.findIn K (.ref C) name=some (some (.ref f))) (d:PySem.W.isFn K (.ref f)=true) (c:mA name=none) (h:Q (.ref f,[.ref x]) s):
  Zb (Zc prog w) A (U8 (.ref x) name pl) Q E s:=by
 obtain⟨b,J,e⟩:=I.look;exact PySem.W.method_fn X J (PySem.W.plainGet_of a).1 (PySem.W.plainGet_of a).2 g (beq_iff_eq.mp d) (by show(PySem.W.lookIn name b).map (·.isSome)=some false;rw [e,c];rfl) h
theorem TM(X:K.In s.heap)(I:mQ s.heap x dx C mA)
  (hs:PySem.W.findIn K (.ref C) "__setattr__"=some (some (.builtin "object.__setattr__"))) (m:PySem.W.plainOver K C=true) (l:PySem.W.takerIn K C name=some none) (n:PySem.W.hasDictIn K C=true)
  (k:PySem.Within mA ns) (hsz:ns.length<=sizeLine)
  (h:∀ h',mQ h' x dx C (fun y=>if y=name then some v else mA y)->Zk dx s.heap h'->Q () { s with heap:=h',toks:=s.toks+2 }):
  Zb (Zc prog w) A (setAttr (.ref x) name v) Q E s:=by
 obtain⟨t,J,z⟩:=I.look;refine PySem.W.set_plain X J hs (PySem.W.osa_open (s:={ s with toks:=s.toks+1 }) (r:=none) X J m l fun b=>?_);obtain⟨B,o,g⟩:=PySem.W.any_some n;have j:s.heap.get? x=some ⟨.ref C,some dx,.plain,#[]⟩:=I.obj;refine Qa (Qb (Qa (Qa (wpAny_loadPart j (Qa (PySem.W.Looks.here (s:={ s with toks:=s.toks+1 }) (PySem.W.looks_clsIn X o) ?_))))));rw [g];refine Qb (a:=some dx) (Qa (Qb (Qa ?_)));refine wpAny_nsSet1 (s:={ s with toks:=s.toks+1 }) I.ns fun h' d c=>?_;obtain⟨u,p,q,e,f,i⟩:=d.count (PySem.Within.cons name v k);refine Qa (wpAny_lookBehind e (by rw [f];exact pastItsLine_dict (QJ i (by rw [Qv];lia))) ?_);exact Qb (h _ ⟨(c.2 _ (Ua I.ne)).trans I.obj,d,I.ne⟩ c)
theorem P1(X:K.In s.heap)(b:PySem.W.makesIn K C=true)
  (c:PySem.W.findIn K (.ref C) "__init__"=some (some (.ref f))) (e:PySem.W.typeIn K (.ref f)=some (.type "function"))
  (h:Ui (Zc prog w) (A.under (.builtin "type.__call__" ⟨.ref C::vs,kw⟩)) (.call (.ref f) ⟨.ref (s.heap.objs.size+1)::vs,kw⟩) (PySem.W.InitBack (s.heap.objs.size+1) R)
   { s with heap:=(s.heap.push PySem.W.emptyDict).push (PySem.W.instObj C s.heap.objs.size) }):
  Ui (Zc prog w) A (.call (.ref C) ⟨vs,kw⟩) R s:=by
 obtain⟨j,g,d,t,i⟩:=s;exact PySem.W.make_core (PySem.W.makes_of X b) (PySem.W.looks_findIn X c) (fun a=>PySem.W.bind_fn X a e) (.inl rfl) h
end
def cP(f:Str)(v:V):List (Str × V)->List (Str × V)
 | []=>[(f,v)]
 | (g,x)::r=>if g=f then(g,v)::r else(g,x)::cP f v r
theorem Hh(f g:Str)(v:V):∀ fs:List (Str × V),(cP f v fs).lookup g=if g=f then some v else fs.lookup g
 | []=>by
  show List.lookup g [(f,v)]=_
  by_cases h:g=f
  ·have a:(g == f)=true:=beq_iff_eq.mpr h;simp only [List.lookup,a,if_pos h]
  ·have a:(g == f)=false:=beq_eq_false_iff_ne.mpr h;simp only [List.lookup,a,if_neg h]
 | (k,x)::r=>by
  have c:=Hh f g v r;rw [show cP f v ((k,x)::r)=(if k=f then(k,v)::r else(k,x)::cP f v r)from rfl];by_cases b:k=f
  ·rw [if_pos b];by_cases h:g=k
   ·have a:(g == k)=true:=beq_iff_eq.mpr h;simp only [List.lookup,a,if_pos (h.trans b)]
   ·have a:(g == k)=false:=beq_eq_false_iff_ne.mpr h;simp only [List.lookup,a,if_neg (fun e:g=f=>h (e.trans b.symm))]
  ·rw [if_neg b];by_cases h:g=k
   ·have a:(g == k)=true:=beq_iff_eq.mpr h;simp only [List.lookup,a,if_neg (fun e:g=f=>b (h.symm.trans e))]
   ·have a:(g == k)=false:=beq_eq_false_iff_ne.mpr h;simp only [List.lookup,a];exact c
theorem Ca(f:Str)(v:V):∀ fs:List (Str × V),f∈(cP f v fs).map (·.1)/\∀ g,g∈fs.map (·.1)->g∈(cP f v fs).map (·.1)
 | []=>⟨by simp [cP],fun g h=>by simp at h⟩
 | (k,x)::r=>by
  obtain⟨c,b⟩:=Ca f v r;rw [show cP f v ((k,x)::r)=(if k=f then(k,v)::r else(k,x)::cP f v r)from rfl];by_cases a:k=f
  ·rw [if_pos a];subst a
   exact⟨by simp,fun g h=>by simpa using h⟩
  ·rw [if_neg a]
   refine⟨?_,fun g h=>?_⟩
   ·rw [Qp];exact Qf _ c
   ·rw [Qp]at h ⊢;rcases Ql.mp h with e | e
    ·exact Ql.mpr (.inl e)
    ·exact Qf _ (b g e)
theorem Ha(f:Str)(v:V):∀ fs:List (Str × V),(cP f v fs).length<=fs.length+1
 | []=>by simp [cP]
 | (k,x)::r=>by
  have b:=Ha f v r;rw [show cP f v ((k,x)::r)=(if k=f then(k,v)::r else(k,x)::cP f v r)from rfl];by_cases a:k=f
  ·rw [if_pos a,Qv,Qv];lia
  ·rw [if_neg a,Qv,Qv];lia
theorem jU.some_of(r:jU (some v) o):∃ u,o=some u/\RelV v u:=by
 cases o with
 | none=>exact(show False from r).elim
 | some u=>exact⟨u,rfl,r⟩
theorem jU.none_of(r:jU none o):o=none:=by
 cases o with
 | none=>rfl
 | some u=>exact(show False from r).elim
theorem P7(r:RelV v u):PySem.W.handedIn u=true:=by
 cases v with
 | non=>cases(show u=Zz from r);rfl
 | bl b=>cases(show u=Z3 b from r);rfl
 | int i=>obtain⟨t,e⟩:=(show ∃ t,u=U7 i t from r);cases e;rfl
 | str x=>obtain⟨t,e⟩:=(show ∃ t,u=Value.str x t from r);cases e;rfl
 | byt b=>obtain⟨t,e⟩:=(show ∃ t,u=Value.bytes b t from r);cases e;rfl
 | flt b=>obtain⟨t,e⟩:=(show ∃ t,u=Value.float b t from r);cases e;rfl
 | ref a=>cases(show u=Ze a from r);rfl
 | ty n=>cases(show u=ZK n from r);rfl
section
variable {P:Zd}{w:Zf}{H H':Hp}{h h':Heap}{a C dx:J8}{fs fs':List (Str × V)}
theorem B5(b:c4 P w H h)(e:H a=some (.ins C dx fs)):∃ mA,mQ h a dx C mA/\(∀ f,jU (fs.lookup f) (mA f))/\PySem.Within mA (fs.map (·.1))/\fs.length<=1000/\H dx=some (.own a):=by
 obtain⟨d,z,g,c,mA,n,r,q⟩:=(show eH P w H h a (.ins C dx fs)from b a _ e)
 exact⟨mA,⟨c,n,g⟩,r,q,z,d⟩
end
structure fC(K:PySem.W.Frag)(C:J8):Prop where
 pg:PySem.W.plainGet K C Str.empty=true
 hd:PySem.W.hasDictIn K C=true
 po:PySem.W.plainOver K C=true
 sa:PySem.W.findIn K (.ref C) "__setattr__"=some (some (.builtin "object.__setattr__"))
theorem fC.get{K:PySem.W.Frag}{C:J8}(c:fC K C)(f:Str):PySem.W.plainGet K C f=true:=c.pg
def iC(K:PySem.W.Frag)(C:J8)(f:Str):Prop:=PySem.W.findIn K (.ref C) f=some none
theorem iC.taker{K:PySem.W.Frag}{C:J8}{f:Str}(n:iC K C f):PySem.W.takerIn K C f=some none:=by
 unfold PySem.W.takerIn;rw [show PySem.W.findIn K (.ref C) f=some none from n];rfl
structure kJ(K:PySem.W.Frag)(C:J8)(m:Str)(f:J8):Prop where
 at_:PySem.W.findIn K (.ref C) m=some (some (.ref f))
 fn:PySem.W.isFn K (.ref f)=true
 kp:PySem.W.keepIn K (.ref f)=true
section
variable {X:Cx}{pins:List (J8 × Obj)}{σ:St}{H:Hp}{s:J9}{a C dx:J8}{fs:List (Str × V)}{f:Str}{v:V}{A:Around}{E:YP->J9->Prop}
theorem P4(I:Inv X pins σ H s)(e:H a=some (.ins C dx fs))(c:fC X.K C)(n:iC X.K C f)(l:fs.lookup f=some v)
  (h:∀ u s',Inv X pins σ H s'->RelV v u->Q u s'):Zb (Zc X.prog X.w) A (getAttr (.ref a) f b) Q E s:=by
 obtain⟨g,O,r,_,_,_⟩:=B5 I.hok e;obtain⟨u,i,d⟩:=jU.some_of (v:=v) (o:=g f) (by rw [<- l];exact r f);exact P2 I.kIn O (c.get f) c.hd n i (P7 d) (h u _ (I.tok _) d)
theorem Fr(I:Inv X pins σ H s)(e:H a=some (.ins C dx fs))(c:fC X.K C)(k:kJ X.K C m g)(l:fs.lookup m=none)
  (h:Q (.ref g,[.ref a]) s):Zb (Zc X.prog X.w) A (U8 (.ref a) m pl) Q E s:=by
 obtain⟨b,O,r,_,_,_⟩:=B5 I.hok e;have d:b m=none:=jU.none_of (by rw [<- l];exact r m);exact P3 I.kIn O (c.get m) k.at_ k.fn d h
theorem TN(I:Inv X pins σ H s)(e:H a=some (.ins C dx fs))(c:fC X.K C)(n:iC X.K C f)(F:fs.length<1000)(l:RelV y u)
  (h:∀ s',Inv X pins σ (aJ H a (.ins C dx (cP f y fs))) s'->Q () s'):Zb (Zc X.prog X.w) A (setAttr (.ref a) f u) Q E s:=by
 obtain⟨i,O,r,d,_,j⟩:=B5 I.hok e
 have m:(fs.map (·.1)).length<=sizeLine:=by rw [Qi,Q5];lia
 refine TM I.kIn O c.sa c.po n.taker c.hd d m fun B O' k=>h _ ?_;have t:∃ o,B.get? dx=some o:=let⟨o,_,_,e',_⟩:=O'.ns;⟨o,e'⟩;refine I.write (x:=a) (e:=dx) (by rw [e];exact Ud) (.inr j) (fun b q v z=>(k.2 b v).trans z) t ?_
 refine⟨by rw [aX O.ne];exact j,?_,O.ne,O'.obj,_,O'.ns,fun g=>?_,fun g p=>?_⟩
 ·have:=Ha f y fs;lia
 ·show jU ((cP f y fs).lookup g) (if g=f then some u else i g)
  rw [Hh];by_cases q:g=f
  ·rw [if_pos q,if_pos q];exact l
  ·rw [if_neg q,if_neg q];exact r g
 ·by_cases q:g=f
  ·rw [q];exact(Ca f y fs).1
  ·refine(Ca f y fs).2 g (d g fun z=>p ?_)
   show(if g=f then some u else i g)=none
   rw [if_neg q];exact z
theorem Inv.made(I:Inv X pins σ H s):Inv X pins σ (aJ (aJ H s.heap.objs.size (.own (s.heap.objs.size+1))) (s.heap.objs.size+1) (.ins C s.heap.objs.size []))
  { s with heap:=(s.heap.push PySem.W.emptyDict).push (PySem.W.instObj C s.heap.objs.size) }:=by
 have d:(s.heap.push PySem.W.emptyDict).get? s.heap.objs.size=some PySem.W.emptyDict:=Qy s.heap rfl
 have i:((s.heap.push PySem.W.emptyDict).push (PySem.W.instObj C s.heap.objs.size)).get? (s.heap.objs.size+1)=some (PySem.W.instObj C s.heap.objs.size):=by
  have:=Qy (s.heap.push PySem.W.emptyDict) (o:=PySem.W.instObj C s.heap.objs.size) rfl
  rwa [Ys]at this
 have h:(s.heap.push PySem.W.emptyDict).Ns s.heap.objs.size (fun _=>none):=⟨PySem.W.emptyDict,#[],_,d,rfl,(fun e g=>absurd g (by simp)),fun _=>rfl⟩;have I1:=I.laid (a:=s.heap.objs.size) (o:=.own (s.heap.objs.size+1)) (h':=s.heap.push PySem.W.emptyDict) (t':=s.toks) (fun b u q=>Qh _ q) (Qm _) ⟨_,d⟩;refine I1.laid (a:=s.heap.objs.size+1) (o:=.ins C s.heap.objs.size []) (t':=s.toks) (fun b u q=>Qh _ q) (Nat.le_of_eq (Ys _ _)) ?_;have c:s.heap.objs.size≠s.heap.objs.size+1:=Qz (JA _)
 refine⟨by rw [aX c,cO],Q8 _,c,i,fun _=>none,(Heap.Ns1.of_empty h).at fun o q=>Qh _ q,fun _=>Ud,fun y f=>absurd rfl f⟩
theorem NZ(a:ZM e f env (Zr e env)=Zr e env)
  (h:Zb (Zc prog w) A (Zr e env) (fun o s₁=>Zb (Zc prog w) A (getAttr o f true) Q E s₁) E s):Zb (Zc prog w) A (Zr (.Attribute e f pos) env) Q E s:=
 Attribute_any_ h (by rw [arm_eval_Attribute,a])
end
def DV(K:PySem.W.Frag)(d:TE)(f:Str):TE:=fun c H Q=>d c H fun x b=>∃ a C dx fs v,x=.ref a/\b a=some (.ins C dx fs)/\fC K C/\iC K C f/\fs.lookup f=some v/\Q v b
def MI(K:PySem.W.Frag)(e d:TE)(f:Str):TS:=fun D b H=>d b H fun y g=>e b g fun x c=>∃ a C dx fs,x=.ref a/\c a=some (.ins C dx fs)/\fC K C/\iC K C f/\fs.length<1000 /\
 D.nx b (aJ c a (.ins C dx (cP f y fs)))
section
variable {X:Cx}{o e value:Expr}{f:Str}{pos pos' tpos:Pos}{ta tv:TE}
theorem qJ(he:PE X e ta)(k:ZM e f X.env (Zr e X.env)=Zr e X.env):PE X (.Attribute e f pos) (DV X.K ta f):=by
 intro b s d H Q I h;refine NZ k (aW (he b s d H _ I h) fun u z g=>?_);obtain⟨x,t,r,i,a,C,A,fs,v,m,o,c,n,l,q⟩:=g;subst m
 obtain rfl:u=Ze a:=i
 exact P4 r o c n l fun w y p j=>⟨v,t,p,j,q⟩
theorem x9(p:PE X o ta)(m:PE X value tv)(hs:ZI value (some (.Attribute o f pos')) pos.line X.env=pure false):PS X (.Assign [.Attribute o f pos'] value pos) (MI X.K ta tv f):=by
 intro b s d H D I h;refine plainObj_wpAny_Assign_Attribute (aW (m b s d H _ I h) fun u e ⟨y,A,z,g,q⟩=>aW (p b e d A _ z q) fun k E ⟨x,G,w,i,a,C,F,fs,r,t,c,n,l,j⟩=>?_) hs;subst r
 obtain rfl:k=Ze a:=i
 exact TN w t c n l g fun B v=>⟨d,_,v,j⟩
end
section
variable {X:Cx}{pins:List (J8 × Obj)}{σ:St}{H:Hp}{s:J9}{A:Around}{E:YP->J9->Prop}{Q:YP->J9->Prop}{c:YP}{b:Bool}
end
structure cA(k:Nat)(A:Around):Prop where
 hd:A.handled=none
 dp:A.depth+3 * k+5<recursionLimit
 un:A.units+16 * k+200<Zi
 gd:A.guards=some []
theorem cA.mono(r:cA k A)(h:j<=k):cA j A:=⟨r.hd,by have:=r.dp;lia,by have:=r.un;lia,r.gd⟩
theorem cA.deeper(r:cA (k+1) A)(env:Env):cA k (A.deeper env):=
 ⟨r.hd,by have:=r.dp;show A.depth+1+3 * k+5<_;lia,by have:=r.un;show A.units+3+16 * k+200<_;lia,r.gd⟩
theorem P0{A:Around}{C:J8}{us:List YP}{a:List (Str × YP)}:(A.under (.builtin "type.__call__" ⟨.ref C::us,a⟩)).depth=A.depth+1:=by
 first | rfl | simp [Around.under,Code.weight,Code.isCreation,Code.isGuard,Code.isCaller,Code.frames,Code.isFrame,guardIds]
theorem Pj{A:Around}{C:J8}{us:List YP}{a:List (Str × YP)}:(A.under (.builtin "type.__call__" ⟨.ref C::us,a⟩)).units=A.units+1:=by
 first | rfl | simp [Around.under,Code.cUnits,Code.frames,Code.isFrame]
theorem cA.make(r:cA (k+1) A)(C:J8)(us:List YP)(a:List (Str × YP)):cA k (A.under (.builtin "type.__call__" ⟨.ref C::us,a⟩)):=
 ⟨r.hd,by have:=r.dp;rw [P0];lia,by have:=r.un;rw [Pj];lia,by first | exact r.gd | simpa [Around.under,Code.guards,Code.isGuard,pushGuards,guardIds]using r.gd⟩
theorem cA.depth(r:cA k A):A.depth<recursionLimit:=by have:=r.dp;lia
def DX:TA:=fun _ H Q=>Q [] H
def Nh(d:TE)(c:TA):TA:=fun a H Q=>d a H fun x f=>c a f fun b e=>Q (x::b) e
section
variable {X:Cx}{e:Expr}{es:List Expr}{te:TE}{t:TA}{pos:Pos}
theorem iV:PA X [] DX:=fun _ _ _ _ H Q I h=>Calls.spliced_nil ⟨[],H,I,.nil,h⟩
theorem gY(n:PE X e te)(m:PA X es t)(hs:Za (e::es) X.env=(false,Zr e X.env)::Za es X.env:=by rfl):PA X (e::es) (Nh te t):=by
 intro b a s c H Q I h;rw [hs]
 show Zb _ _ (spliced ((false,Zr e X.env)::Zw b (Za es X.env))) _ _ s
 refine Calls.spliced_cons (aW (n a s c H _ I h) fun u g d=>?_);obtain⟨x,r,p,j,l⟩:=d;exact aW (m b a g c r _ p l) fun v w ⟨f,q,o,i,k⟩=>⟨x::f,q,o,.cons j i,k⟩
def NB(t:TA):TE:=fun c H Q=>t c H fun a b=>a.length<=sizeLine/\∀ p,b p=none->Q (.ref p) (aJ b p (.tup a))
def No(t:TA):TE:=fun c H Q=>t c H fun a b=>a.length<=sizeLine/\∀ p,b p=none->Q (.ref p) (aJ b p (.lst a))
theorem RC{x1}(h:PA X es t):PE X (.Tuple es x1 pos) (NB t):=by
 intro a s f H Q I j;refine wpAny_Tuple_spliced (aW (h pos a s f H _ I j) fun i c ⟨g,d,I1,r,z,q⟩=>⟨by rw [<- r.length];exact z,?_⟩);have k:d c.heap.objs.size=none:=I1.hok.fresh (Qm _)
 refine⟨.ref c.heap.objs.size,aJ d c.heap.objs.size (.tup g),I1.laid (t':=c.toks) (fun b u e=>Qh _ e) (Qm _) ?_,rfl,q _ k⟩
 exact⟨z,i,r,⟨_,Qy _ rfl,rfl,_,rfl⟩⟩
theorem BJ(h:PA X es t):PE X (.List es pos) (No t):=by
 intro a s f H Q I j;refine wpAny_List_spliced (aW (h pos a s f H _ I j) fun i c ⟨g,d,I1,r,z,q⟩=>⟨by rw [<- r.length];exact z,?_⟩);have k:d c.heap.objs.size=none:=I1.hok.fresh (Qm _)
 refine⟨.ref c.heap.objs.size,aJ d c.heap.objs.size (.lst g),I1.laid (t':=c.toks) (fun b u e=>Qh _ e) (Qm _) ?_,rfl,q _ k⟩
 exact⟨z,i,0,r,Qy _ rfl⟩
end
abbrev Sp:=List V->Hp->VK->XK->Prop
abbrev g9:=List Env->Hp->J9->XK->YP->J9->Prop
structure mP(P:Zd)(w:Zf)(K:PySem.W.Frag)(mg:Str->Option YP)(base:Heap)(A:Around)(outer:List Env)(s:J9)(H:Hp):Prop where
 frames:A.frames=some outer
 mod:Mod K mg base
 bs:∀ b o,base.get? b=some o->s.heap.get? b=some o/\H b=none
 bsz:base.objs.size<=s.heap.objs.size
 funs:s.heap.FunFrames base outer
 frf:∀ b∈iO outer,H b=none
 hok:c4 P w H s.heap
 bare:Vi s.gens
def CE(outer:List Env)(P:Zd)(w:Zf)(H:Hp)(s:J9)(Q:VK)(u:YP)(a:J9):Prop:=
 ∃ v H',a.os=s.os/\Vi a.gens/\Un (iO outer) [] H H' s.heap a.heap/\c4 P w H' a.heap/\RelV v u/\Q v H'
def CR(CX:g9)(outer:List Env)(P:Zd)(w:Zf)(H:Hp)(s:J9)(Q:VK)(E:XK)(r:Result)(a:J9):Prop:=
 match r with
 | .ok (.ret u)=>CE outer P w H s Q u a
 | .ok _=>False
 | .error e=>CX outer H s E e a
structure aM(P:Zd)(w:Zf)(K:PySem.W.Frag)(mg:Str->Option YP)(base:Heap)(CX:g9)(k:Nat)(f:J8)(fd:Zp)(ps:List Str)(sp:Sp):Prop where
 len:∀ vs H Q E,sp vs H Q E->vs.length=ps.length
 run:∀(A:Around) (outer:List Env) (s:J9) (H:Hp) (args:Args) (us:List YP) (vs:List V) (Q:VK) (E:XK),cA k A->mP P w K mg base A outer s H->BindsTo s fd args (ps.zip us)->Vals vs us->sp vs H Q E->
  Ui (Zc P w) A (.call (.ref f) args) (CR CX outer P w H s Q E) s
theorem aM.imp{P:Zd}{w:Zf}{K:PySem.W.Frag}{c:Str->Option YP}{base:Heap}{CX:g9}{k:Nat}{f:J8}{d:Zp}{ps:List Str}{sp sp':Sp}(F:aM P w K c base CX k f d ps sp)
  (h:∀ vs H Q E,sp' vs H Q E->sp vs H Q E):aM P w K c base CX k f d ps sp':=
 ⟨fun vs H Q E q=>F.len vs H Q E (h _ _ _ _ q),fun A a s H b e vs Q E j l m g i=>F.run A a s H b e vs Q E j l m g (h _ _ _ _ i)⟩
theorem mP.make{P:Zd}{w:Zf}{K:PySem.W.Frag}{a:Str->Option YP}{base:Heap}{A:Around}{outer:List Env}{s:J9}{H:Hp}(e:mP P w K a base A outer s H)(C:J8)(us:List YP)(b:List (Str × YP)):
  mP P w K a base (A.under (.builtin "type.__call__" ⟨.ref C::us,b⟩)) outer s H:=⟨by first | exact e.frames | (simpa [Around.under,Code.envs,Code.isFrame,pushEnvs]using e.frames),e.mod,e.bs,e.bsz,e.funs,e.frf,e.hok,e.bare⟩
section
variable {X:Cx}{pins:List (J8 × Obj)}{σ:St}{H:Hp}{s s':J9}
theorem Inv.env0(I:Inv X pins σ H s):mP X.prog X.w X.K X.mg X.base X.A X.stack s H:=
 ⟨I.ok.frames,I.ok.mod,I.bs,QJ I.ok.bsz I.sz,I.stack,I.stkFree,I.hok,I.bare⟩
theorem Inv.after(I:Inv X pins σ H s)(h:CE X.stack X.prog X.w H s Q u s'):EP X pins σ Q u s':=by
 obtain⟨v,i,os,a,un,e,r,q⟩:=h;obtain⟨f,g,d,t,c⟩:=s'
 obtain rfl:c=s.os:=os
 exact⟨v,i,I.call (h':=f) (g':=g) (d':=d) (t':=t) (ch:=[]) un e a (fun b z=>absurd z (by simp)),r,q⟩
end
def Ng(sp:Sp)(a:List V)(E:XK)(t:TA):TE:=fun b H Q=>t b H fun c d=>sp (c++a) d Q E
def Hy(C:J8)(m:Str)(sp:Sp)(b:List V)(E:XK)(f:TE)(t:TA):TE:=fun c H Q=>f c H fun x d=>∃ a dx fs,x=.ref a/\d a=some (.ins C dx fs)/\fs.lookup m=none /\
 t c d fun e g=>sp (x::(e++b)) g Q E
def Np(C:J8)(sp:Sp)(a:List V)(E:XK)(t:TA):TE:=fun c H Q=>t c H fun d b=>∀ x dx,b x=none->b dx=none->dx≠x->
 sp (.ref x::(d++a)) (aJ (aJ b dx (.own x)) x (.ins C dx [])) (fun v e=>v=.non/\Q (.ref x) e) E
def Binds(K:PySem.W.Frag)(a:Zp)(ps:List Str)(ds:List YP):Prop:=
 ∀(s:J9) (us:List YP),K.In s.heap->(us++ds).length=ps.length->BindsTo s a ⟨us,[]⟩ (ps.zip (us++ds))
theorem Binds.all{K:PySem.W.Frag}{b:Zp}{ps:List Str}(h:∀ us:List YP,us.length=ps.length->Z7 b ⟨us,[]⟩=pure (ps.zip us)):Binds K b ps []:=fun s us _ a=>by
 rw [QP]at a ⊢;exact .of_eq (h us a)
def nQ(CX:g9)(X:Cx)(E:XK):Prop:=∀(pins:List (J8 × Obj)) (σ:St) (H:Hp) (s:J9) (e:YP) (s':J9),Inv X pins σ H s->CX X.stack H s E e s'->X.xe e s'
section
variable {X:Cx}{CX:g9}{k:Nat}{f C:J8}{fd:Zp}{ps:List Str}{sp:Sp}{dvs:List V}{ds:List YP}{E:XK}{x m:Str}{p pos apos:Pos}{e o:Expr}{es:List Expr}{ta:TE}{t:TA}
theorem Bm(F:aM X.prog X.w X.K X.mg X.base CX k f fd ps sp)(g:cA k X.A)(l:Binds X.K fd ps ds)(j:Vals dvs ds)(d:nQ CX X E)
  (I:Inv X pins σ H s) (r:Vals vs us) (h:sp (vs++dvs) H Q E):Zb (Zc X.prog X.w) X.A (call (.ref f) us) (EP X pins σ Q) X.xe s:=by
 have b:Vals (vs++dvs) (us++ds):=r.append j
 have i:(us++ds).length=ps.length:=by rw [<- b.length];exact F.len _ _ _ _ h
 refine wpAny_call (Jn (F.run X.A X.stack s H ⟨us,[]⟩ (us++ds) (vs++dvs) Q E g I.env0 (l s us I.kIn i) b h) fun r c a=>?_)
 cases r with
 | error e=>exact d pins σ H s e c I a
 | ok fl=>
  cases fl with
  | ret u=>exact I.after a
  | next=>exact ZO a
  | brk=>exact ZO a
  | cont=>exact ZO a
theorem tG(F:aM X.prog X.w X.K X.mg X.base CX k f fd ps sp)(g:cA k X.A)(l:Gl X x)(i:X.mg x=some (.ref f))(j:PySem.W.keepIn X.K (.ref f)=true)(n:Binds X.K fd ps ds)(m:Vals dvs ds)(d:nQ CX X E)
  (o:PA X (e::es) t) (b:(x == ("__debug__":Str))=false:=by decide) (he:Za (e::es) X.env=(false,Zr e X.env)::Za es X.env:=by rfl) (hpl:(Zw pos (Za es X.env)).any (·.1)=false:=by rfl):
  PE X (.Call (.Name x p) (e::es) [] pos) (Ng sp dvs E t):=by
 intro a s c H Q I h;refine YT (G5 I l i ?_ b);refine PySem.W.callWith_K (h₀:=X.base) I.ok.mod.kin j (aW (o pos a s c H _ I h) fun v y ⟨u,z,I1,r,q⟩=>⟨I1.kIn,?_⟩) he hpl;exact Bm F g n m d I1 r q
theorem Gn(he:PE X o ta)(c:fC X.K C)(i:kJ X.K C m f)(F:aM X.prog X.w X.K X.mg X.base CX k f fd ps sp)(B:cA k X.A)(J:Binds X.K fd ps ds)(G:Vals dvs ds)(y:nQ CX X E)(M:PA X (e::es) t)
  (d:Za (e::es) X.env=(false,Zr e X.env)::Za es X.env:=by rfl) (hpl:(Zw pos (Za es X.env)).any (·.1)=false:=by rfl)
  (z:Zr (.Call (.Attribute o m apos) (e::es) [] pos) X.env=(do
   let ov <- Zr o X.env
   standAt apos.atName
   let(f,first) <- UE [ov] (U8 ov m pl)
   callWith pos f first (Zw pos (Za (e::es) X.env)) (Um pos (ZS [] X.env))):=by rfl):
  PE X (.Call (.Attribute o m apos) (e::es) [] pos) (Hy C m sp dvs E ta t):=by
 intro b s g H Q I h;refine PySem.W.methodCall_KW (pl:=pl) (aW (he b s g H _ I h) fun u n ⟨x,R,j,p,a,T,fs,N,O,l,q⟩=>?_) z;subst N
 obtain rfl:u=Ze a:=p
 refine Fr j O c i l ?_;refine PySem.W.callWith_K (first:=[.ref a]) (h₀:=X.base) I.ok.mod.kin i.kp (aW (M pos b n g R _ j q) fun us S ⟨vs,U,I2,r,v⟩=>⟨I2.kIn,?_⟩) d hpl;exact Bm (us:=.ref a::us) (vs:=.ref a::vs) F B J G y I2 (.cons rfl r) v
theorem Ry(he:PE X o ta)(c:fC X.K C)(d:kJ X.K C m f)(F:aM X.prog X.w X.K X.mg X.base CX k f fd ps sp)(n:cA k X.A)(r:Binds X.K fd ps ds)(p:Vals dvs ds)(i:nQ CX X E)
  (j:Zr (.Call (.Attribute o m apos) [] [] pos) X.env=(do
   let ov <- Zr o X.env
   standAt apos.atName
   let(f,first) <- UE [ov] (U8 ov m pl)
   callWith pos f first (Zw pos (Za [] X.env)) (Um pos (ZS [] X.env))):=by rfl):
  PE X (.Call (.Attribute o m apos) [] [] pos) (Hy C m sp dvs E ta DX):=by
 intro b s e H Q I h;refine PySem.W.methodCall_KW (pl:=pl) (aW (he b s e H _ I h) fun u y ⟨x,B,I1,g,a,z,fs,t,v,l,q⟩=>?_) j;subst t
 obtain rfl:u=Ze a:=g
 refine Fr I1 v c d l ?_;exact PySem.W.callWith_K0 (first:=[.ref a]) I1.kIn d.kp (Bm (us:=[.ref a]) (vs:=[.ref a]) F n r p i I1 (.cons rfl .nil) q)
structure Mk(K:PySem.W.Frag)(C f:J8):Prop where
 makes:PySem.W.makesIn K C=true
 init:PySem.W.findIn K (.ref C) "__init__"=some (some (.ref f))
 fn:PySem.W.isFn K (.ref f)=true
 kp:PySem.W.keepIn K (.ref C)=true
theorem Tt(M:Mk X.K C f)(F:aM X.prog X.w X.K X.mg X.base CX k f fd ps sp)(l:cA (k+1) X.A)(o:Binds X.K fd ps ds)(n:Vals dvs ds)
  (j:nQ CX X E) (I:Inv X pins σ H s) (r:Vals vs us)
  (h:∀ x dx,H x=none->H dx=none->dx≠x->sp (.ref x::(vs++dvs)) (aJ (aJ H dx (.own x)) x (.ins C dx [])) (fun v H2=>v=.non/\Q (.ref x) H2) E):
  Zb (Zc X.prog X.w) X.A (call (.ref C) us) (EP X pins σ Q) X.xe s:=by
 have c:=h (s.heap.objs.size+1) s.heap.objs.size (I.hok.fresh (Vj _)) (I.hok.fresh (Qm _)) (Qz (JA _));have I2:=Inv.made (C:=C) I;have b:Vals (V.ref (s.heap.objs.size+1)::(vs++dvs)) (Ze (s.heap.objs.size+1)::(us++ds)):=.cons rfl (r.append n)
 have m:(Ze (s.heap.objs.size+1)::us++ds).length=ps.length:=by
  have e:=b.length;rw [F.len _ _ _ _ c]at e;exact e.symm
 refine wpAny_call (P1 (f:=f) I.kIn M.makes M.init (beq_iff_eq.mp M.fn) (Jn (F.run _ X.stack _ _ ⟨Ze (s.heap.objs.size+1)::us,[]⟩ (Ze (s.heap.objs.size+1)::(us++ds)) _ _ E (l.make C us [])
  (I2.env0.make C us []) (o _ (Ze (s.heap.objs.size+1)::us) I2.kIn m) b c) fun r d a=>?_))
 cases r with
 | error e=>exact j pins σ _ _ e d I2 a
 | ok fl=>
  cases fl with
  | ret u=>
   obtain⟨v,t,q,g,p,i⟩:=I2.after a;subst p
   exact⟨g,⟨V.ref (s.heap.objs.size+1),t,q,rfl,i⟩⟩
  | next=>exact ZO a
  | brk=>exact ZO a
  | cont=>exact ZO a
theorem Rx(M:Mk X.K C f)(F:aM X.prog X.w X.K X.mg X.base CX k f fd ps sp)(g:cA (k+1) X.A)(j:Gl X x)(i:X.mg x=some (.ref C))(m:Binds X.K fd ps ds)(l:Vals dvs ds)(d:nQ CX X E)
  (n:PA X (e::es) t) (b:(x == ("__debug__":Str))=false:=by decide) (he:Za (e::es) X.env=(false,Zr e X.env)::Za es X.env:=by rfl) (hpl:(Zw pos (Za es X.env)).any (·.1)=false:=by rfl):
  PE X (.Call (.Name x p) (e::es) [] pos) (Np C sp dvs E t):=by
 intro a s c H Q I h;refine YT (G5 I j i ?_ b);refine PySem.W.callWith_K (h₀:=X.base) I.ok.mod.kin M.kp (aW (n pos a s c H _ I h) fun u v ⟨o,y,I1,r,q⟩=>⟨I1.kIn,?_⟩) he hpl;exact Tt M F g m l d I1 r q
end
section
variable {X:Cx}{CX:g9}{k:Nat}{f C:J8}{fd:Zp}{ps ks:List Str}{sp:Sp}{E:XK}{x m:Str}{p pos apos kpos:Pos}{e o:Expr}{es:List Expr}{kws:List Uw}{te ta:TE}{t tk:TA}{nm:Option Str}
variable {g:List YP->List YP->List YP}{gV:List V->List V->List V}
end
structure bQ(N P:List Str)(sc:Ul):Prop where
 kind:sc.kind=.function
 co:sc.isCoroutine=false
 gen:sc.isGenerator=false
 nd:N.Nodup
 pre:N.take P.length=P
 par:∀ x∈P,sc.names.lookup x=some .local ∨ sc.names.lookup x=some .cell
 nofree:∀ y∈sc.names,y.2≠.free
theorem Es{a:Str->Option UX}{x:Str}:∀{binds:List (Str × YP)}{m:Str->Option YP},(∀ v,(x,v)∉binds)->bindL a binds m x=m x
 | [],_,_=>rfl
 | (n,v)::r,m,h=>by
  unfold bindL;rw [Es fun w b=>h w (Qf _ b)];split
  ·have:x≠n:=by rintro rfl;exact h v Qk
   simp [this]
  ·rfl
theorem Ep{a:Str->Option UX}{x:Str}:∀{binds:List (Str × YP)}{m:Str->Option YP},(∀ v,(x,v)∉binds)->bindC a binds m x=m x
 | [],_,_=>rfl
 | (n,v)::r,m,h=>by
  unfold bindC;rw [Ep fun w b=>h w (Qf _ b)];split
  ·rfl
  ·have:x≠n:=by rintro rfl;exact h v Qk
   simp [this]
theorem Er{a:Str->Option UX}{x:Str}{v:YP}:∀{P:List Str}{vs:List YP}{i:Nat}{m:Str->Option YP},P.Nodup->P[i]?=some x->vs[i]?=some v->a x=some .local->
  bindL a (P.zip vs) m x=some v
 | [],_,_,_,_,h,_,_=>by simp at h
 | _::_,[],_,_,_,_,h,_=>by simp at h
 | p::P,w::vs,0,m,nd,h1,h2,hk=>by
  simp at h1 h2;subst h1;subst h2
  show bindL a ((p,w)::P.zip vs) m p=_
  unfold bindL;rw [Es fun v b=>(Yc.mp nd).1 (List.of_mem_zip b).1,if_pos hk];simp
 | p::P,w::vs,i+1,m,nd,h1,h2,hk=>by
  show bindL a ((p,w)::P.zip vs) m x=_
  unfold bindL;exact Er (i:=i) (Yc.mp nd).2 (by simpa using h1) (by simpa using h2) hk
theorem Eo{a:Str->Option UX}{x:Str}{v:YP}:∀{P:List Str}{vs:List YP}{i:Nat}{m:Str->Option YP},P.Nodup->P[i]?=some x->vs[i]?=some v->a x≠some .local->
  bindC a (P.zip vs) m x=some v
 | [],_,_,_,_,h,_,_=>by simp at h
 | _::_,[],_,_,_,_,h,_=>by simp at h
 | p::P,w::vs,0,m,nd,h1,h2,hk=>by
  simp at h1 h2;subst h1;subst h2
  show bindC a ((p,w)::P.zip vs) m p=_
  unfold bindC;rw [Ep fun v b=>(Yc.mp nd).1 (List.of_mem_zip b).1,if_neg hk];simp
 | p::P,w::vs,i+1,m,nd,h1,h2,hk=>by
  show bindC a ((p,w)::P.zip vs) m x=_
  unfold bindC;exact Eo (i:=i) (Yc.mp nd).2 (by simpa using h1) (by simpa using h2) hk
def start(N:List Str)(vs:List V):St:=vs.map some++List.replicate (N.length-vs.length) none
def jV(CX:g9)(P:Zd)(w:Zf)(K:PySem.W.Frag)(mg:Str->Option YP)(base:Heap)(N:List Str)(a:Str)(scope:Ul)(f:J8)(c:YP)(A:Around)(outer:List Env)(s:J9)(H:Hp)(E:XK):Cx where
 prog:=P
 w:=w
 K:=K
 mg:=mg
 base:=base
 A:=A.deeper (U2 a scope s.heap.objs.size f c)
 N:=N
 s₀:=s
 H₀:=H
 env:=U2 a scope s.heap.objs.size f c
 outer:=outer
 stack:=U2 a scope s.heap.objs.size f c::outer
 ex:=[]
 calm:=true
 fn:=fun _=>true
 pn:=[]
 xe:=fun e d=>Zb (Zc P w) (A.deeper (U2 a scope s.heap.objs.size f c)) (leaving (U2 a scope s.heap.objs.size f c) e) (fun _ b=>CX outer H s E e b) (fun g b=>CX outer H s E g b) d
theorem Ey{a:Ul}{n:Nat}{x:Str}(h:a.names.lookup x=some .cell):∃ c,(cellsFrom n a.names []).lookup x=some c:=by
 have q:=PySem.W.cellsFrom_some a.names n [] (.inl h);exact Option.isSome_iff_exists.mp q
theorem Rg{CX:g9}{P:Zd}{w:Zf}{K:PySem.W.Frag}{I:Str->Option YP}{base:Heap}{N ps:List Str}{d:Str}{scope:Ul}{f:J8}{G:YP}{A:Around}{outer:List Env}{s s1:J9}{H:Hp}{E:XK}{us:List YP}{vs:List V}
  (S:bQ N ps scope) (R:A.handled=none) (j:mP P w K I base A outer s H) (X:vs.length=ps.length) (r:Vals vs us)
  (x:InCallC s s.heap.objs.size (bindL (U2 d scope s.heap.objs.size f G).kindOf (ps.zip us) fun _=>none) (cellsFrom (s.heap.objs.size+1) scope.names []) (bindC (U2 d scope s.heap.objs.size f G).kindOf (ps.zip us) fun _=>none) s1):
  Inv (jV CX P w K I base N d scope f G A outer s H E) [] (start N vs) H s1:=by
 have Q:ps.length<=N.length:=by have:=congrArg List.length S.pre;rw [QS]at this;lia
 obtain⟨F,U,rfl,M⟩:=x.done;have l:∀ b:J8,b∉(jV CX P w K I base N d scope f G A outer s H E).ex:=fun b z=>absurd (show b∈([]:List J8)from z) (by simp)
 refine⟨⟨j.mod,S.kind,rfl,rfl,Qm _,fun y z c F g=>?_,fun y m=>?_,fun y c _ h=>?_,fun _=>R,Around.frames_deeper j.frames,.inr ⟨rfl,rfl⟩,fun b z=>absurd z (l b),j.bs,j.bsz,fun b _ _=>l b,fun b z=>absurd z (l b),j.funs,j.frf⟩,
  rfl,j.bare,Un.kept M,⟨_,x.toInCall.ns,fun i y v F g Y=>?_⟩,fun y c h=>⟨_,x.cell y c h⟩,j.hok.fresh (Qm _),fun y c h=>?_,fun p t=>absurd (show p∈([]:List (J8 × Obj))from t) (by simp),j.hok.kept M,?_⟩
 ·exact name_of_addr x.apart (PySem.mem_of_lookup F) (PySem.mem_of_lookup g)
 ·have m:scope.names.lookup y=some .cell ∨ scope.names.lookup y=some .free:=m;rcases m with m | m
  ·exact Ey m
  ·exact absurd rfl (S.nofree _ (PySem.mem_of_lookup m))
 ·exact YQ (x.above y c (PySem.mem_of_lookup h))
 ·have B:i<vs.length:=by
   unfold start at g;by_cases B:i<vs.length
   ·exact B
   ·rw [QI (by simpa using B)]at g;rw [YX]at g
    split at g <;> cases g
  have T:vs[i]?=some v:=by
   unfold start at g;rw [QR (by simpa using B),QE]at g
   cases e:vs[i]? with
   | none=>rw [e]at g;cases g
   | some a=>rw [e]at g;cases g;rfl
  obtain⟨u,J,O⟩:=r.get T
  have t:ps[i]?=some y:=by
   rw [<- S.pre,List.getElem?_take_of_lt (by lia)];exact F
  have o:ps.Nodup:=by rw [<- S.pre];exact S.nd.sublist (List.take_sublist _ _)
  refine⟨u,O,?_⟩
  rcases S.par y (QN t)with k | k
  ·exact .inl ⟨k,Er o t J k⟩
  ·obtain⟨c,e⟩:=Ey (n:=s.heap.objs.size+1) k;refine .inr ⟨.inl k,c,e,?_⟩;have q:=x.cell y c e;rw [Eo o t J (by show scope.names.lookup y≠_;rw [k];decide)]at q;exact q
 ·exact j.hok.fresh (YQ (x.above y c (PySem.mem_of_lookup h)))
 ·unfold start
  show _=N.length
  rw [Qo,Qi,List.length_replicate];lia
theorem Ll{CX:g9}{P:Zd}{w:Zf}{K:PySem.W.Frag}{B:Str->Option YP}{base:Heap}{k:Nat}{f:J8}{name a:Str}{d:Arguments}{g:List ZE}{scope:Ul}{U kV z T c ct oc:YP}{Y od:Option J8}
  {G:Array (Option YP)}{N ps:List Str}{sp:Sp} (lk:K.lookup f=some ⟨oc,od,.func (PySem.W.fnOf name a d g scope U kV z T Y c ct),G⟩) (R:PySem.W.codeIn K c a=true) (S:bQ N ps scope)
  (len:∀ vs H Q E,sp vs H Q E->vs.length=ps.length)
  (j:∀(A:Around) (outer:List Env) (s:J9) (H:Hp) (vs:List V) (Q:VK) (E:XK),cA k (A.deeper (U2 a scope s.heap.objs.size f c))->sp vs H Q E->
   ∃ t,fE (jV CX P w K B base N a scope f c A outer s H E) g t/\t { nx:=fun _ H'=>Q .non H',rt:=Q } (start N vs) H):
  aM P w K B base CX (k+1) f (PySem.W.fnOf name a d g scope U kV z T Y c ct) ps sp:=by
 refine⟨len,fun A outer s H X us vs Q E O p hb r m=>?_⟩
 have hl:=len _ _ _ _ m;have Z:K.In s.heap:=p.mod.kin.keeps fun b o e=>(p.bs b o e).1;have M:s.heap.NoLimit:=p.mod.nolimit.keeps fun b o e=>(p.bs b o e).1
 have i:∀ y∈ps.zip us,scope.names.lookup y.1=some .local ∨ (scope.names.lookup y.1=some .cell/\((cellsFrom (s.heap.objs.size+1) scope.names []).lookup y.1).isSome=true):=fun zz hy=>by
  obtain⟨n,v⟩:=zz;rcases S.par n (List.of_mem_zip hy).1 with q | q
  ·exact .inl q
  ·exact .inr ⟨q,PySem.W.cellsFrom_some _ _ _ (.inl q)⟩
 refine codeAny_call_function O.depth (Z _ _ lk) rfl S.co S.gen rfl (PySem.W.codeRec_of Z R) (hb _ _ _ _ ?_);refine wpAny_newFunctionEnv_cells S.kind i fun a0 he s1 x=>?_;subst he
 refine⟨M.keeps x.toInCall.keep,codeAny_func ?_⟩
 obtain⟨t,ht,hq⟩:=j A outer s H vs Q E (O.deeper _) m;have I:Inv (jV CX P w K B base N a scope f c A outer s H E) [] (start N vs) H s1:=Rg S O.hd p hl r x;refine Jp (ht [] s1 (start N vs) H _ I hq) (fun fl s' l=>?_) fun e s' l=>l
 have fin:∀{h:St}{H':Hp}{v:V}{u:YP},Inv (jV CX P w K B base N a scope f c A outer s H E) [] h H' s'->RelV v u->Q v H'->CE outer P w H s Q u s':=
  fun{h H' v u} J F q=>⟨v,H',J.os,J.bare,J.base,J.hok,F,q⟩
 cases fl with
 | ret u=>
  obtain⟨v,h,H',J,F,q⟩:=l;exact fin J F q
 | next=>
  obtain⟨h,H',J,q⟩:=l;exact fin (v:=V.non) (u:=Zz) J rfl q
 | brk=>
  obtain⟨_,_,_,q⟩:=l;exact ZO q
 | cont=>
  obtain⟨_,_,_,q⟩:=l;exact ZO q
section
variable {X:Cx}{x:Str}{p pos:Pos}{e:Expr}{es:List Expr}{t:TA}{id T:String}{r:List V->Hp->VK->Prop}
def Af(r:List V->Hp->VK->Prop)(t:TA):TE:=fun a H Q=>t a H fun b c=>r b c Q
theorem BH(o:cU X (.builtin id) r)(n:Gl X x)(m:X.mg x=none)(k:ZD x=some (.builtin id))(q:PA X (e::es) t)(l:x≠"__name__":=by decide)(b:(x == ("__debug__":Str))=false:=by decide)
  (he:Za (e::es) X.env=(false,Zr e X.env)::Za es X.env:=by rfl) (hpl:(Zw pos (Za es X.env)).any (·.1)=false:=by rfl):PE X (.Call (.Name x p) (e::es) [] pos) (Af r t):=by
 intro a s c H Q I h;refine YT (kE I n m k ?_ l b);exact JB (aW (q pos a s c H _ I h) fun f g ⟨d,v,u,i,j⟩=>o a g c v d f Q u i j) he hpl
theorem BI(o:cU X (.type T) r)(n:Gl X x)(m:X.mg x=none)(k:ZD x=some (.type T))(q:PA X (e::es) t)(l:x≠"__name__":=by decide)(b:(x == ("__debug__":Str))=false:=by decide)
  (he:Za (e::es) X.env=(false,Zr e X.env)::Za es X.env:=by rfl) (hpl:(Zw pos (Za es X.env)).any (·.1)=false:=by rfl):PE X (.Call (.Name x p) (e::es) [] pos) (Af r t):=by
 intro a s c H Q I h;refine YT (kE I n m k ?_ l b);exact YC (aW (q pos a s c H _ I h) fun f g ⟨d,v,u,i,j⟩=>o a g c v d f Q u i j) he hpl
end
end L2
namespace HT
def lexLt:List Int->List Int->Bool
 | [],[]=>false
 | [],_::_=>true
 | _::_,[]=>false
 | x::xs,y::ys=>if x=y then lexLt xs ys else decide (x<y)
theorem lexLt_cons(x y:Int)(xs a:List Int):lexLt (x::xs) (y::a)=if x=y then lexLt xs a else decide (x<y):=rfl
theorem lexLt_nil_nil:lexLt [] []=false:=rfl
theorem PR(y:Int)(a:List Int):lexLt [] (y::a)=true:=rfl
theorem PQ(x:Int)(xs:List Int):lexLt (x::xs) []=false:=rfl
theorem Oe(A:Around)(s:J9)(a:Int)(t:Tok)(c:Int)(u:Tok):∃ e,SeqAt.EqAt A s (.int a t) (.int c u) e/\(e=true ↔ a=c):=
 ⟨(a == c),SeqAt.EqAt.int_int a t c u,by simp⟩
theorem rcLt_int(A:Around)(s:J9)(a:Int)(t:Tok)(c:Int)(u:Tok)(prog:Zd)(w:Zf)(E:YP->J9->Prop)(Q:YP->J9->Prop)(h:Q (.bool (decide (a<c))) s):
  Zb (Zc prog w) A (richCompare .Lt (.int a t) (.int c u)) Q E s:=
 (PyProof.Rows.lt_int h:Zb (Zc prog w) A (Zm .Lt (.int a t) (.int c u)) Q E s)
section
open PySem.SeqAt
open PySem.AutoSeq1 (wpAny_loadPart')
open PySem.MeetsSeq PySem.MeetsSeq2 PySem.MeetsSeq3
theorem Wy(l b:J8)(i f:Array YP)(n n2:Nat)(dd U:Option J8)(Z Q:Array (Option YP))(ns N:List Int)(Y:Z1 i.toList ns)(X:Z1 f.toList N):
  Meets (Builtin.«tuple.__lt__» ⟨[.ref l,.ref b],[]⟩)
   (fun _ R s=>s.heap.get? l=some { cls:=.type "tuple",dict:=dd,data:=.seq i n,slots:=Z }/\s.heap.get? b=some { cls:=.type "tuple",dict:=U,data:=.seq f n2,slots:=Q } /\
    R (.ok (.ret (.bool (lexLt ns N)))) s):=
 .of_wp fun v w A R s h=>by
  obtain⟨O,g,d,K,M⟩:=s;obtain⟨hl,hb,h⟩:=h;have f2:=AutoSeq1.sub_tuple_tuple
  have z1:i.size=ns.length:=by rw [<- Y.length];simp
  have z2:f.size=N.length:=by rw [<- X.length];simp
  wp_walk using ZP hl,ZP hb,Yo _ (fun r b S=>b.1=none/\S=⟨O,g,d,K,M⟩/\∃(J I:List YP) (k m:List Int),r=J.zip I /\
   Z1 J k/\Z1 I m/\k.length+f.size=m.length+i.size/\R (.ok (.ret (.bool (lexLt k m)))) ⟨O,g,d,K,M⟩) _
  case turn=>
   rintro⟨y,x⟩ r b S ⟨F,rfl,J,I,k,m,o,E,p,j,B⟩
   cases E with
   | nil=>rw [List.zip_nil_left]at o;cases o
   | cons a t H=>
    cases p with
    | nil=>rw [List.zip_nil_right]at o;cases o
    | cons c u G=>
     rw [JI]at o
     injection o with hyx hrest
     injection hyx with hy hx
     subst hy hx;rw [lexLt_cons]at B;simp only [Qv]at j;obtain⟨e,he,z⟩:=Oe A.in1 ⟨O,g,d,K,M⟩ a t c u;refine Qa (he v w _ _ ?_)
     cases e with
     | true=>
      rw [if_pos (z.mp rfl)]at B
      wp_walk
      exact⟨rfl,rfl,_,_,_,_,hrest,H,G,by lia,B⟩
     | false=>
      rw [if_neg (fun q=>absurd (z.mpr q) Qr)]at B;have T:=rcLt_int A.in1 ⟨O,g,d,K,M⟩ a t c u v w
      wp_walk using T
      exact⟨_,rfl,by simpa using B⟩
  case fin=>
   rintro⟨b1,b2⟩ S ⟨F,rfl,J,I,k,m,o,E,p,j,B⟩
   simp only at F
   subst F
   have W:lexLt k m=decide (i.size<f.size):=by
    cases E with
    | nil=>
     cases p with
     | nil=>
      simp only [J4]at j;rw [lexLt_nil_nil]
      exact(decide_eq_false (by lia)).symm
     | cons c u hw=>
      simp only [J4,Qv]at j;rw [PR]
      exact(decide_eq_true (by lia)).symm
    | cons a t W=>
     cases p with
     | nil=>
      simp only [J4,Qv]at j;rw [PQ]
      exact(decide_eq_false (by lia)).symm
     | cons c u hw=>
      rw [JI]at o;cases o
   rw [W]at B
   wp_walk
   exact⟨_,rfl,by simpa [Builtin.Tuple.tupleCompareSizes]using B⟩
  case h=>
   exact⟨rfl,rfl,i.toList,f.toList,ns,N,rfl,Y,X,by lia,h⟩
end
section
variable {prog:Zd}{w:Zf}{A:Around}{E:YP->J9->Prop}{s:J9}
theorem lt_tupInts(t:IsTup s.heap l items)(y:IsTup s.heap b items2)(v:Z1 items.toList ns)(u:Z1 items2.toList ms)
  (r:A.units<Zi) (h:Q (.bool (lexLt ns ms)) s):Zb (Zc prog w) A (Zm .Lt (.ref l) (.ref b)) Q E s:=by
 obtain⟨⟨z,dd,m,p⟩,i,k,n,j⟩:=id t;obtain⟨⟨o,f,g,e⟩,a,d,q,c⟩:=id y
 simp only at k j d c
 subst k j d c
 exact richCompare_meets_room (op:=.Lt) ⟨_,i,rfl⟩ ⟨_,a,rfl⟩ PySem.F.slot_tuple_lt PySem.F.entry_tuple_lt (PySem.F.args_tuple_lt_2 _ _) (Wy l b items items2 n q dd f p e ns ms v u)
  ⟨i,a,show Z3 (lexLt ns ms)≠Value.notImplemented/\Q (.bool (lexLt ns ms)) s from⟨(fun x=>nomatch x),h⟩⟩ r
theorem cat_tup(r:IsTup s.heap t vs.toArray)(u:IsTup s.heap b ws.toArray)(m:vs≠[])
  (x:ws=[]->Q (.ref t) s) (v:ws≠[]->Q (.ref s.heap.objs.size) { s with heap:=s.heap.push { cls:=.type "tuple",data:=.seq (vs++ws).toArray } })
  (hsz:vs.length+ws.length<=sizeLine):Zb (Zc prog w) A (ZH .Add (.ref t) (.ref b)) Q E s:=by
 obtain⟨⟨cls,dd,data,k⟩,i,p,n,o⟩:=id r;obtain⟨⟨q,g,j,c⟩,a,f,l,d⟩:=id u
 simp only at p o f d
 subst p o f d
 have e:vs.toArray++ws.toArray=(vs++ws).toArray:=by simp
 by_cases h:ws=[]
 ·exact concat_meets ⟨_,i,rfl⟩ ⟨_,a,rfl⟩ noFill_tuple_add seq_tuple_add PySem.F.slot_tuple_add PySem.F.entry_tuple_add (PySem.F.args_tuple_add_2 _ _)
   (tuple_addW1 t b vs.toArray ws.toArray n l dd g k c (by simpa using m) (by simp [h])) ⟨i,a,x h⟩
 ·refine concat_meets ⟨_,i,rfl⟩ ⟨_,a,rfl⟩ noFill_tuple_add seq_tuple_add PySem.F.slot_tuple_add PySem.F.entry_tuple_add (PySem.F.args_tuple_add_2 _ _)
   (tuple_addW2 t b vs.toArray ws.toArray n l dd g k c (by simpa using m) (by simpa using h) (by rw [QH,QH];exact hsz)) ⟨i,a,?_⟩
  rw [e];exact v h
def sIx(n d:Nat):Option Int->Nat
 | none=>d
 | some v=>if v<0 then(v+(n:Int)).toNat else min v.toNat n
theorem sIx_none(n d:Nat):sIx n d none=d:=rfl
theorem sIx_nat(n d k:Nat):sIx n d (some (k:Int))=min k n:=by
 show(if(k:Int)<0 then((k:Int)+(n:Int)).toNat else min (k:Int).toNat n)=min k n
 rw [if_neg (by lia),Y1]
theorem Tu(n d:Nat)(b:d<=n)(o:Option Int):sIx n d o<=n:=by
 cases o with
 | none=>exact b
 | some v=>
  show(if v<0 then(v+(n:Int)).toNat else min v.toNat n)<=n
  by_cases a:v<0
  ·rw [if_pos a];lia
  ·rw [if_neg a];exact Nat.min_le_right _ _
theorem sb1(h:i<0):max 0 (min (i+(n:Int)) (n:Int))=(((i+(n:Int)).toNat:Nat):Int):=by
 rw [Int.min_eq_left (by lia),Int.max_comm,<- Int.ofNat_toNat]
theorem DQ{i:Int}{n:Nat}(h:¬ i<0):min i (n:Int)=((min i.toNat n:Nat):Int):=by
 obtain⟨k,rfl⟩:=Int.eq_ofNat_of_zero_le (Int.not_lt.mp h);rw [Y1];by_cases c:k<=n
 ·rw [Nat.min_eq_left c,Int.min_eq_left (Int.ofNat_le.mpr c)]
 ·rw [Nat.min_eq_right (Nat.le_of_not_le c),Int.min_eq_right (Int.ofNat_le.mpr (Nat.le_of_not_le c))]
theorem sb2{i:Int}{n:Nat}(h:¬ i<0):max 0 (min i (n:Int))=((min i.toNat n:Nat):Int):=by
 rw [DQ h,Int.max_eq_right (Jq _)]
theorem MN:max (i+(n:Int)) 0=(((i+(n:Int)).toNat:Nat):Int):=(Int.ofNat_toNat _).symm
theorem ED(v:Int)(n d:Nat):(if v<0 then max (v+(n:Int)) 0 else min v (n:Int))=((sIx n d (some v):Nat):Int):=by
 show(if v<0 then max (v+(n:Int)) 0 else min v (n:Int))=(((if v<0 then(v+(n:Int)).toNat else min v.toNat n):Nat):Int)
 by_cases a:v<0
 ·simp only [if_pos a];exact MN
 ·simp only [if_neg a];exact DQ a
theorem NV(a b:Option Int)(n:Nat):Uj a b 1 (n:Int)=(((sIx n 0 a:Nat):Int),((sIx n n b:Nat):Int)):=by
 have c:¬ ((1:Int)<0):=by lia
 unfold Uj;simp only [c,if_false];refine JL ?_ ?_
 ·cases a with
  | none=>rfl
  | some v=>exact ED v n 0
 ·cases b with
  | none=>rfl
  | some v=>exact ED v n n
theorem T5(i j:Nat):ZU (i:Int) (j:Int) 1=j-i:=by
 unfold ZU
 have a:(1:Int) > 0:=by lia
 simp only [a,if_true,Int.ediv_one]
 split <;> lia
theorem HV(p:Vr v o)(h:Q o s):Zb (Zc prog w) A (Builtin.Slice.slicePartIndex v) Q E s:=by
 cases p with
 | none=>exact slicePart_none h
 | int i t=>exact slicePart_int h
theorem HU{g:J8}{f e:YP}{a c:Option Int}{n:Nat}{Q:Int × Int × Nat->J9->Prop}(hs:s.heap.IsSliceOf g f e .none)(pl:Vr f a)(i:Vr e c)
  (h:Q (((sIx n 0 a:Nat):Int),1,sIx n n c-sIx n 0 a) s):Zb (Zc prog w) A (Builtin.Slice.sliceApplied (.ref g) (pure (n:Int))) Q E s:=by
 obtain⟨k,b,j,d⟩:=id hs;unfold Builtin.Slice.sliceApplied Builtin.Slice.sliceFields;refine Qa (Qa (J7 b d (x:=f) rfl (Qa (J7 b d (x:=e) rfl (Qa (J7 b d (x:=.none) rfl (Qb ?_)))))));refine Qa (slicePart_none ?_)
 show Zb _ _ (if((1:Int) == 0)=true then _ else _) _ _ s
 rw [if_neg (by decide)];refine Qa (HV pl (Qa (HV i (Qa (Qb ?_)))))
 show Zb _ _ (match Uj a c 1 (n:Int)with | (a,c)=>pure (a,(1:Int),ZU a c 1)) _ _ s
 rw [NV a c n]
 show Zb _ _ (pure (((sIx n 0 a:Nat):Int),(1:Int),ZU ((sIx n 0 a:Nat):Int) ((sIx n n c:Nat):Int) 1)) _ _ s
 rw [T5];exact Qb h
theorem T4(xs:Array YP)(i k:Nat):((List.range k).filterMap fun(m:Nat)=>xs[((i:Int)+(m:Int) * 1).toNat]?).toArray=((xs.toList.drop i).take k).toArray:=by
 have e:(fun(m:Nat)=>xs[((i:Int)+(m:Int) * 1).toNat]?)=fun m=>xs[i+m]?:=by
  funext m
  have:((i:Int)+(m:Int) * 1).toNat=i+m:=by lia
  rw [this]
 rw [e]
 have:=pick_run xs i k
 rw [List.filterMap_map]at this;have a:((fun x=>xs[x]?) ∘ fun x=>i+x)=fun m=>xs[i+m]?:=rfl;rw [a]at this;rw [this]
theorem getItem_tuple_cut{t f:J8}{a:Array YP}{n l:YP}{c d:Option Int}{Q:YP->J9->Prop}(e:IsTup s.heap t a)(hs:s.heap.IsSliceOf f n l .none)(pl:Vr n c)(o:Vr l d)
  (r:¬ (sIx a.size 0 c=0/\sIx a.size a.size d=a.size))
  (h:Q (.ref s.heap.objs.size) { s with heap:=s.heap.push { cls:=.type "tuple",data:=.seq ((a.toList.drop (sIx a.size 0 c)).take (sIx a.size a.size d-sIx a.size 0 c)).toArray } })
  (hsz:a.size<=sizeLine):Zb (Zc prog w) A (getItem (.ref t) (.ref f)) Q E s:=by
 have b:sizeOk (.seq ((a.toList.drop (sIx a.size 0 c)).take (sIx a.size a.size d-sIx a.size 0 c)).toArray):=by
  show((a.toList.drop (sIx a.size 0 c)).take (sIx a.size a.size d-sIx a.size 0 c)).toArray.size<=sizeLine
  rw [QH,QS,Yg,Qd];lia
 have y:sIx a.size a.size d<=a.size:=Tu _ _ (Qm _) d;obtain⟨p,g,j,u⟩:=id hs;have k:s.TypeIs (.ref f) "slice":=⟨p,g,j⟩;unfold getItem
 try with_reducible refine Q7 ?_
 first | refine Qa (Qb ?_) | skip
 refine Qa (wpAny_sequenceKey e.typeIs (by decide) ?_)
 refine Qa (Yt (name:=Z4 "__getitem__") e.typeIs Ja
  (Yh Ja e.typeIs entry_tuple_getitem ?_ (args_tuple_getitem _ _)))
 show Zb _ _ (Ue (.ref t) >>= _) _ _ s
 refine Qa (tupleItemsOf_ e ?_);refine Qa (Jg k ?_);rw [if_pos (by decide)];refine Qa (HU hs pl o ?_)
 have i:¬ ((((sIx a.size 0 c:Nat):Int) == 0 && (1:Int) == 1 && (sIx a.size a.size d-sIx a.size 0 c) == a.size)=true):=by
  intro q;rw [QL,QL]at q;have x:((sIx a.size 0 c:Nat):Int)=0:=Yz q.1.1;have v:sIx a.size a.size d-sIx a.size 0 c=a.size:=Yz q.2;exact r ⟨by lia,by lia⟩
 show Zb _ _ (if(((sIx a.size 0 c:Nat):Int) == 0 && (1:Int) == 1 && (sIx a.size a.size d-sIx a.size 0 c) == a.size)=true then _ else _) _ _ s
 rw [if_neg i,T4]
 first
  | exact Qa (m:=ZN _) (Yn (Qb ⟨_,rfl,Qb h⟩) b)
  | exact Qa (m:=ZN _) (Yn (Qa (Qb (Qb ⟨_,rfl,Qb h⟩))) b)
  | exact Qa (Qa (m:=ZN _) (Yn (Qb (Qb ⟨_,rfl,Qb h⟩)) b))
  | exact Qa (Qa (m:=ZN _) (Yn (Qb ⟨_,rfl,Qb h⟩) b))
end
end HT
namespace L2
open PySem.Spec
abbrev TO:=St->Hp->(Option Int->Hp->Prop)->Prop
def PO(X:Cx)(e:Option Expr)(t:TO):Prop:=
 ∀(pins:List (J8 × Obj)) (s:J9) (σ:St) (H:Hp) (Q:Option Int->Hp->Prop),Inv X pins σ H s->t σ H Q->
  Zb (Zc X.prog X.w) X.A (evalPart e X.env) (fun u a=>∃ o H',Inv X pins σ H' a/\Vr u o/\Q o H') X.xe s
def Wo:TO:=fun _ H Q=>Q none H
def Nw(t:TE):TO:=fun a H Q=>t a H fun x b=>∃ i,x=.int i/\Q (some i) b
theorem vA:∀{us:List YP},Vals (ns.map V.int) us->Z1 us ns:=by
 induction ns with
 | nil=>intro us r;rw [List.map_nil]at r;cases r;exact .nil
 | cons n ns c=>
  intro us r;rw [Qp]at r
  cases r with
  | cons b a=>
   obtain⟨t,e⟩:=b;subst e;exact .cons n t (c a)
section
variable {X:Cx}{e:Expr}{te:TE}{lo hi:Option Expr}{tl th:TO}{pos p2:Pos}
theorem T6:PO X none Wo:=by
 intro a s b H Q I h;rw [evalPart_none];exact Qb ⟨none,H,I,.none,h⟩
theorem T7(h:PE X e te):PO X (some e) (Nw te):=by
 intro a s b H Q I g;rw [evalPart_some];refine aW (h a s b H _ I g) fun u l c=>?_;obtain⟨x,k,j,d,f⟩:=c;obtain⟨i,rfl,q⟩:=f;obtain⟨t,rfl⟩:=d
 exact⟨some i,k,j,.int i t,q⟩
def lJ(X:Cx)(r:V->Option Int->Option Int->Hp->VK->Prop):Prop:=
 ∀(pins:List (J8 × Obj)) (s:J9) (σ:St) (H:Hp) (x:V) (v vl vu:YP) (lo hi:Option Int) (sl:J8) (Q:VK),Inv X pins σ H s->RelV x v->s.heap.IsSliceOf sl vl vu .none->Vr vl lo->Vr vu hi->r x lo hi H Q->
  ∃ T id,typeLookup (.type T) "__getitem__"=pure (some (.builtin id))/\s.TypeIs v T/\Zb (Zc X.prog X.w) X.A (getItem v (.ref sl)) (EP X pins σ Q) X.xe s
theorem lJ.or{r g:V->Option Int->Option Int->Hp->VK->Prop}(h:lJ X r)(h':lJ X g):lJ X (fun x lo hi H Q=>r x lo hi H Q ∨ g x lo hi H Q):=by
 intro a s b H x v d c lo hi e Q I f k j i q;rcases q with q | q
 ·exact h a s b H x v d c lo hi e Q I f k j i q
 ·exact h' a s b H x v d c lo hi e Q I f k j i q
def NA(r:V->Option Int->Option Int->Hp->VK->Prop)(te:TE)(b c:TO):TE:=fun a H Q=>te a H fun x f=>b a f fun l e=>c a e fun u d=>r x l u d Q
theorem RB(F:lJ X r)(he:PE X e te)(G:PO X lo tl)(B:PO X hi th):PE X (.Subscript e (.Slice lo hi none p2) pos) (NA r te tl th):=by
 intro a s d H Q I h;refine Subscript_ (aW (he a s d H _ I h) fun v m i=>?_);obtain⟨x,S,O,n,t⟩:=i;refine wpAny_Slice (aW (G a m d S _ O t) fun g k ⟨l,R,N,z,p⟩=>aW (B a k d R _ N p) fun f c i=>?_);obtain⟨u,j,I3,y,o⟩:=i;rw [evalPart_none];refine Qb ?_;have M:Inv X a d j { c with heap:=c.heap.push { cls:=.type "slice",data:=.fields #[g,f,.none] } }:=I3.kept (t':=c.toks) fun b U q=>Qh _ q;obtain⟨T,id,K,E,J⟩:=F a { c with heap:=c.heap.push { cls:=.type "slice",data:=.fields #[g,f,.none] } } d j x v g f l u c.heap.objs.size Q M n (Heap.IsSliceOf.new ..) z y o
 show Zb (Zc X.prog X.w) X.A (subscriptTail e (.Slice lo hi none p2) v (.ref c.heap.objs.size)) (EP X a d Q) X.xe { c with heap:=c.heap.push { cls:=.type "slice",data:=.fields #[g,f,.none] } }
 exact tail_any (ops:=[.ref c.heap.objs.size,v]) E K J (by with_unfolding_all rfl)
def lM(xs:List V)(a b:Option Int):List V:=(xs.drop (HT.sIx xs.length 0 a)).take (HT.sIx xs.length xs.length b-HT.sIx xs.length 0 a)
theorem D6(xs:List V)(a b:Option Int):(lM xs a b).length<=xs.length:=by
 unfold lM;rw [QS,Yg];lia
def MG(K:PySem.W.Frag):V->Option Int->Option Int->Hp->VK->Prop:=fun x b c H Q=>∃ a xs,x=.ref a/\bL K H a xs /\
 ¬ (HT.sIx xs.length 0 b=0/\HT.sIx xs.length xs.length c=xs.length)/\∀ p,H p=none->Q (.ref p) (aJ H p (.tup (lM xs b c)))
theorem SX:lJ X (MG X.K):=by
 intro i s w H x v z y e g A Q I l u n m h;obtain⟨a,d,rfl,p,t,q⟩:=h;cases l;obtain⟨f,r,k,j⟩:=I.tuple p
 have c:f.toArray.size=d.length:=by rw [QH];exact r.length.symm
 refine⟨"tuple",_,Ja.lookup,k.typeIs,?_⟩
 refine HT.getItem_tuple_cut k u n m (by rw [c];exact t) ?_ (by rw [c];exact j);rw [c]
 refine⟨.ref s.heap.objs.size,_,I.laid (t':=s.toks) (o:=.tup (lM d e g)) (fun b B q=>Qh _ q) (Qm _) ?_,rfl,q _ (I.hok.fresh (Qm _))⟩
 exact⟨QJ (D6 d e g) j,_,(r.drop (HT.sIx d.length 0 e)).take (HT.sIx d.length d.length g-HT.sIx d.length 0 e),IsTup.new _ _⟩
def MC(K:PySem.W.Frag):R2:=fun x y H Q=>∃ a b ns ms,x=.ref a/\y=.ref b/\bL K H a (ns.map V.int)/\bL K H b (ms.map V.int)/\Q (.bl (HT.lexLt ns ms)) H
theorem RP(o:X.A.units<Zi):bH X (Zm .Lt) (MC X.K):=by
 intro e s t H x y v u Q I g f h;obtain⟨a,b,ns,ms,rfl,rfl,r,p,q⟩:=h;cases g;cases f;obtain⟨d,j,l,_⟩:=I.tuple r;obtain⟨c,i,k,_⟩:=I.tuple p;have n:Z1 d.toArray.toList ns:=vA j;have m:Z1 c.toArray.toList ms:=vA i;exact HT.lt_tupInts l k n m o ⟨.bl (HT.lexLt ns ms),H,I,rfl,q⟩
def Mv(K:PySem.W.Frag):R2:=fun x y H Q=>∃ a b xs ys,x=.ref a/\y=.ref b/\bL K H a xs/\bL K H b ys/\xs≠[]/\xs.length+ys.length<=sizeLine /\
 (ys=[]->Q (.ref a) H)/\(ys≠[]->∀ p,H p=none->Q (.ref p) (aJ H p (.tup (xs++ys))))
theorem Vals.nil_iff(r:Vals xs us):us=[] ↔ xs=[]:=by
 cases r with
 | nil=>simp
 | cons _ _=>simp
theorem RN:bH X (ZH .Add) (Mv X.K):=by
 intro e s F H x y v u Q I l k h;obtain⟨a,b,j,i,rfl,rfl,E,B,A,g,n,m⟩:=h;cases l;cases k;obtain⟨t,d,r,_⟩:=I.tuple E;obtain⟨f,c,p,_⟩:=I.tuple B;refine HT.cat_tup r p (fun z=>A (d.nil_iff.mp z)) (fun z=>⟨.ref a,H,I,rfl,n (c.nil_iff.mp z)⟩) (fun z=>?_) (by rw [<- d.length,<- c.length];exact g)
 refine⟨.ref s.heap.objs.size,_,I.laid (t':=s.toks) (o:=.tup (j++i)) (fun b G q=>Qh _ q) (Qm _) ?_,rfl,m (fun w=>z (c.nil_iff.mpr w)) _ (I.hok.fresh (Qm _))⟩
 exact⟨by rw [Qo];exact g,_,d.append c,IsTup.new _ _⟩
end
def ixN(n:Nat)(i:Int):Option Nat:=if 0<=i then(if i<n then some i.toNat else none)else if -(n:Int)<=i then some (i+n).toNat else none
def atI{α:Type}(xs:List α)(i:Int):Option α:=(ixN xs.length i).bind fun j=>xs[j]?
theorem Ro(h:ixN n i=some j):seqIndex? i n=some j/\j<n/\-(n:Int)<=i/\i<n:=by
 unfold ixN at h;by_cases b:0<=i
 ·rw [if_pos b]at h;by_cases a:i<n
  ·rw [if_pos a]at h;have e:i.toNat=j:=QB h
   exact⟨by rw [seqIndex_of b a,e],by lia,by lia,a⟩
  ·rw [if_neg a]at h;cases h
 ·rw [if_neg b]at h;by_cases a:-(n:Int)<=i
  ·rw [if_pos a]at h;have e:(i+n).toNat=j:=QB h
   exact⟨by rw [seqIndex_neg (by lia) a,e],by lia,a,by lia⟩
  ·rw [if_neg a]at h;cases h
theorem El{a:Type}{xs:List a}{i:Int}{v:a}(h:atI xs i=some v):∃ j,seqIndex? i xs.length=some j/\xs[j]?=some v/\j<xs.length/\-(xs.length:Int)<=i/\i<xs.length:=by
 unfold atI at h
 cases e:ixN xs.length i with
 | none=>rw [e]at h;cases h
 | some j=>
  rw [e]at h;obtain⟨f,d,c,b⟩:=Ro e
  exact⟨j,f,h,d,c,b⟩
def A6(b:Expr):Prop:=∀ o i,subscripted b false o i=operate [o,i] (getItem o i)
def iK(X:Cx)(r:R2):Prop:=
 ∀(value slice:Expr) (pins:List (J8 × Obj)) (s:J9) (σ:St) (H:Hp) (x y:V) (v u:YP) (Q:VK),Inv X pins σ H s->RelV x v->RelV y u->r x y H Q->
  subscripted slice false v u=operate [v,u] (getItem v u)->Zb (Zc X.prog X.w) X.A (subscriptTail value slice v u) (EP X pins σ Q) X.xe s
def yP(X:Cx)(id:String)(r:V->List V->Hp->VK->Prop):Prop:=
 ∀(pins:List (J8 × Obj)) (s:J9) (σ:St) (H:Hp) (x:V) (xs:List V) (v:YP) (us:List YP) (Q:VK),Inv X pins σ H s->RelV x v->Vals xs us->r x xs H Q->
  Zb (Zc X.prog X.w) X.A (call (.builtin id) (v::us)) (EP X pins σ Q) X.xe s
section
variable {X:Cx}{a b:Expr}{ta tb:TE}{pos:Pos}
theorem iK.or{r g:R2}(h:iK X r)(h':iK X g):iK X (fun x y H Q=>r x y H Q ∨ g x y H Q):=by
 intro a b c s d H x y v u Q I f e q i;rcases q with q | q
 ·exact h a b c s d H x y v u Q I f e q i
 ·exact h' a b c s d H x y v u Q I f e q i
theorem Gm(i:iK X r)(k:PE X a ta)(j:PE X b tb)(hs:A6 b):PE X (.Subscript a b pos) (nG r ta tb):=by
 intro c s d H Q I h;exact Subscript_ (y7 k j I h fun v u e x y m l g f q=>i a b c e d m x y v u Q l g f q (hs _ _))
def Mz(K:PySem.W.Frag):R2:=fun x y H Q=>∃ p xs i v,x=.ref p/\y=.int i/\bV K H p xs/\atI xs i=some v/\Q v H
def MB(K:PySem.W.Frag):R2:=fun x y H Q=>∃ p xs i v,x=.ref p/\y=.int i/\bL K H p xs/\atI xs i=some v/\Q v H
theorem Rp:iK X (Mz X.K):=by
 intro c d a s l H x y v u Q I E B h m;obtain⟨p,O,i,z,rfl,rfl,F,J,q⟩:=h;cases E;obtain⟨t,rfl⟩:=B;obtain⟨g,r,f,R⟩:=I.list F;obtain⟨j,b,N,T,M,h5⟩:=El J;obtain⟨w,o,e⟩:=r.get N;have G:=r.length;have S:=Ch;have fin:EP X a l Q w s:=⟨z,H,I,e,q⟩;by_cases n:0<=i
 ·have k:i.toNat=j:=by
   rw [seqIndex_of n h5]at b;exact QB b
  exact item_listR f.isList n (by lia) (by rw [k];simpa using o) fin m
 ·have k:(i+(g.toArray.size:Int)).toNat=j:=by
   rw [seqIndex_neg (by lia) M]at b;rw [QH,<- G];exact QB b
  exact subscriptTail_builtinR (x:=w) f.isList.typeIs slot_list_getitem.lookup
   (wpAny_getItem_list_neg (Q:=fun r A=>r=w/\EP X a l Q r A) f.isList (by lia) (by rw [QH] <;> lia) (by lia) (by rw [k];simpa using o) ⟨rfl,fin⟩) m
theorem Rq:iK X (MB X.K):=by
 intro b c a s e H x y v u Q I l k h n;obtain⟨p,J,i,z,rfl,rfl,o,B,q⟩:=h;cases l;obtain⟨t,rfl⟩:=k;obtain⟨m,r,f,M⟩:=I.tuple o;obtain⟨j,F,E,R,O,h5⟩:=El B;obtain⟨w,G,d⟩:=r.get E;have A:=r.length;have N:=Ch;have fin:EP X a e Q w s:=⟨z,H,I,d,q⟩
 exact subscriptTail_builtinR (x:=w) f.typeIs slot_tuple_getitem.lookup
  (getItem_tuple (j:=j) (Q:=fun r g=>r=w/\EP X a e Q r g) f (by lia) (by lia) (by rw [QH,<- A];exact F) (by simpa using G) ⟨rfl,fin⟩) n
theorem SZ(a b:Option Int)(n:Nat):(UB a b none n).1=((HT.sIx n 0 a:Nat):Int)/\(UB a b none n).2.1=((HT.sIx n n b:Nat):Int)/\(UB a b none n).2.2=1:=by
 refine⟨?_,?_,rfl⟩
 ·cases a with
  | none=>simp [UB,HT.sIx]
  | some i=>
   simp only [UB,HT.sIx,Option.getD_none,show(1:Int) > 0 by decide,if_true];by_cases h:i<0
   ·simp only [h,if_true];exact HT.sb1 h
   ·simp only [h,if_false];exact HT.sb2 h
 ·cases b with
  | none=>simp [UB,HT.sIx]
  | some i=>
   simp only [UB,HT.sIx,Option.getD_none,show(1:Int) > 0 by decide,if_true];by_cases h:i<0
   ·simp only [h,if_true];exact HT.sb1 h
   ·simp only [h,if_false];exact HT.sb2 h
theorem SY(a:List YP)(b c:Option Int):slicePick a.toArray b c none=((a.drop (HT.sIx a.length 0 b)).take (HT.sIx a.length a.length c-HT.sIx a.length 0 b)).toArray:=by
 obtain⟨f,e,d⟩:=SZ b c a.toArray.size;unfold slicePick;rw [f,e,d]
 simp only [sliceRange_one,pick_run,QH] <;> rfl
def MF(K:PySem.W.Frag):V->Option Int->Option Int->Hp->VK->Prop:=fun x b c H Q=>∃ a xs,x=.ref a/\bV K H a xs/\∀ p,H p=none->Q (.ref p) (aJ H p (.lst (lM xs b c)))
theorem SW:lJ X (MF X.K):=by
 intro g s u H x v y w e f z Q I j t l k h;obtain⟨a,c,rfl,p,q⟩:=h;cases j;obtain⟨m,r,i,n⟩:=I.list p;have d:=r.length
 refine⟨"list",_,slot_list_getitem.lookup,i.isList.typeIs,?_⟩
 refine wpAny_getItem_list_slice i.isList t l k .none (by simp) ?_ (by rw [QH] <;> lia);rw [SY,<- d]
 refine⟨.ref s.heap.objs.size,_,I.laid (t':=s.toks) (o:=.lst (lM c e f)) (fun b A q=>Qh _ q) (Qm _) ?_,rfl,q _ (I.hok.fresh (Qm _))⟩
 exact⟨QJ (D6 c e f) n,_,0,(r.drop (HT.sIx c.length 0 e)).take (HT.sIx c.length c.length f-HT.sIx c.length 0 e),Qy _ rfl⟩
theorem Ob:cU X (.builtin "len") (fun xs H Q=>∃ p ys,xs=[.ref p]/\(bV X.K H p ys ∨ bL X.K H p ys)/\Q (.int ys.length) H):=by
 intro f s j H xs k Q I r h;obtain⟨p,ys,rfl,b,q⟩:=h;obtain⟨u,rfl,g⟩:=g7 r;cases g;have l:=Ch;rcases b with b | b
 ·obtain⟨e,c,d,i⟩:=I.list b;have a:=c.length;exact Calls.call_len_list d.isList (by simp only [QH] <;> lia) ⟨.int ys.length,H,I.tok _,⟨s.toks+1,by rw [QH,a]⟩,q⟩
 ·obtain⟨e,c,d,i⟩:=I.tuple b;have a:=c.length;exact len_tuple d (by simp only [QH] <;> lia) ⟨.int ys.length,H,I.tok _,⟨s.toks+1,by rw [QH,a]⟩,q⟩
theorem cU.or{f:YP}{r e:List V->Hp->VK->Prop}(h:cU X f r)(h':cU X f e):cU X f (fun xs H Q=>r xs H Q ∨ e xs H Q):=by
 intro a s b H xs c Q I d q;rcases q with q | q
 ·exact h a s b H xs c Q I d q
 ·exact h' a s b H xs c Q I d q
theorem NP:cU X (.type "tuple") (fun xs H Q=>∃ p ys,xs=[.ref p]/\((bV X.K H p ys/\∀ l,H l=none->Q (.ref l) (aJ H l (.tup ys))) ∨ (bL X.K H p ys/\Q (.ref p) H))):=by
 intro a s j H xs x Q I r h;obtain⟨p,ys,rfl,h⟩:=h;obtain⟨u,rfl,n⟩:=g7 r;cases n;rcases h with⟨i,q⟩ | ⟨i,q⟩
 ·obtain⟨c,f,g,k⟩:=I.list i;have m:=f.length;refine call_tuple_list g.isList (fun d t=>?_) (by simp only [QH] <;> lia);have I1:Inv X a j H { s with heap:=d }:=I.kept (t':=s.toks) t
  have v:Inv X a j (aJ H d.objs.size (.tup ys)) { s with heap:=d.push { cls:=.type "tuple",data:=.seq c.toArray } }:=
   I1.laid (t':=s.toks) (fun b o e=>Qh _ e) (Qm _) (show eH X.prog X.w _ _ _ (.tup ys)from⟨k,c,f,IsTup.new _ _⟩)
  exact⟨.ref d.objs.size,_,v,rfl,q _ (I1.hok.fresh (Qm _))⟩
 ·obtain⟨c,f,g,k⟩:=I.tuple i;exact call_tuple_same g ⟨.ref p,H,I,rfl,q⟩
def DY(K:PySem.W.Frag)(T:String)(x:V)(H:Hp):Prop:=match x with
 | .str _=>T="str"
 | .int _=>T="int"
 | .ref p=>(T="list"/\∃ xs,bV K H p xs) ∨ (T="tuple"/\∃ o,K.lookup p=some o/\o.cls=.type "tuple"/\o.dict=none) ∨
   (T="dict"/\((∃ kvs,H p=some (.dK kvs)) ∨ ∃ kvs,H p=some (.dT kvs))) ∨ (T="set"/\∃ S n,H p=some (.set S n))
 | _=>False
theorem VM(I:Inv X pins σ H s)(r:RelV x v)(ty:DY X.K T x H):
  s.TypeIs v T/\∀ a,v=.ref a->∃ ob,s.heap.get? a=some ob/\ob.dict=none:=by
 cases x with
 | str z=>
  obtain⟨t,rfl⟩:=r
  cases(show T="str" from ty)
  exact⟨typeIs_str s z t,fun _ e=>nomatch e⟩
 | int i=>
  obtain⟨t,rfl⟩:=r
  cases(show T="int" from ty)
  exact⟨typeIs_int s i t,fun _ e=>nomatch e⟩
 | ref p=>
  cases r;rcases ty with⟨rfl,q,l⟩ | ⟨rfl,o,b,m,g⟩ | ⟨rfl,b⟩ | ⟨rfl,S,n,b⟩
  ·obtain⟨k,_,j,_⟩:=I.list l
   refine⟨j.isList.typeIs,fun a e=>?_⟩
   cases e;obtain⟨o,n,e,c,g,_⟩:=j
   exact⟨o,e,g⟩
  ·refine⟨⟨o,I.kIn p o b,m⟩,fun a e=>?_⟩
   cases e
   exact⟨o,I.kIn _ o b,g⟩
  ·have z:∃ o,s.heap.get? p=some o/\o.ExactDict:=by
    rcases b with⟨f,b⟩ | ⟨f,b⟩
    ·obtain⟨_,_,_,_,o,_,_,e,d,_⟩:=I.hok p _ b
     exact⟨o,e,d⟩
    ·obtain⟨_,_,_,_,o,_,_,e,d,_⟩:=I.hok p _ b
     exact⟨o,e,d⟩
   obtain⟨o,e,d⟩:=z
   refine⟨⟨o,e,d.1⟩,fun a h=>?_⟩
   cases h
   exact⟨o,e,d.2.1⟩
  ·obtain⟨o,_,_,_,e,d,_⟩:=I.hok p _ b
   refine⟨⟨o,e,d.1⟩,fun a h=>?_⟩
   cases h
   exact⟨o,e,d.2.1⟩
 | _=>exact ZO ty
def Nd(K:PySem.W.Frag)(T:String)(r:V->List V->Hp->VK->Prop)(to:TE)(t:TA):TE:=fun a H Q=>to a H fun x b=>DY K T x b/\t a b fun c d=>r x c d Q
variable {o e:Expr}{es:List Expr}{to:TE}{t:TA}{name:Str}{apos cpos:Pos}{T id:String}{r:V->List V->Hp->VK->Prop}
theorem BG(A:PlainAttrs T)(slot:Slot T name id)(i:typeOf (.builtin id)=pure (.type "method_descriptor"))(E:yP X id r)(B:PE X o to)(F:PA X (e::es) t)
  (d:ZM o name X.env (Zr o X.env)=Zr o X.env:=by rfl)
  (f:((Zw cpos (Za (e::es) X.env)).all (fun x => !x.1) && (Um cpos (ZS [] X.env)).all (fun x=>x.1.isSome)
   && decide ((e::es).length+([]:List Uw).length+(if([]:List Uw).isEmpty then 0 else 1)<30))=true:=by rfl)
  (c:(apos.endLine == cpos.line)=true:=by rfl) (hs:Za (e::es) X.env=(false,Zr e X.env)::Za es X.env:=by rfl) (b:(Zw cpos (Za es X.env)).any (·.1)=false:=by rfl):
  PE X (.Call (.Attribute o name apos) (e::es) [] cpos) (Nd X.K T r to t):=by
 intro a s g H Q I h;refine wpAny_Call_method_late d f c rfl (aW (B a s g H _ I h) fun v u m=>?_);obtain⟨x,O,l,j,ty,z⟩:=m;obtain⟨J,G⟩:=VM l j ty
 refine⟨T,id,A,slot,i,J,G,?_⟩
 have k:=F cpos a u g O _ l z;rw [hs]at k ⊢;refine Calls.callWith_builtin (by show(false || (Zw cpos (Za es X.env)).any (·.1))=false;rw [b] <;> rfl) (Calls.evalArgs_plain ?_);exact aW k fun p q ⟨n,N,M,w,y⟩=>E a q g N x n v p Q M j w y
end
def CQ(X:Cx)(id:String)(r:V->List V->Hp->VK->Prop):Prop:=
 ∀(pins:List (J8 × Obj)) (s:J9) (σ:St) (H:Hp) (x:V) (xs:List V) (v:YP) (us:List YP) (Q:VK),Inv X pins σ H s->RelV x v->Vals xs us->r x xs H Q->
  Zb (Zc X.prog X.w) X.A (call (.builtin id) (v::us)) (EP X pins σ Q) X.xe s
theorem Vals.one{x:V}{us:List YP}(h:Vals [x] us):∃ u,us=[u]/\RelV x u:=by
 cases h with
 | cons r h=>cases h;exact⟨_,rfl,r⟩
theorem Vals.two(h:Vals [x,y] us):∃ u v,us=[u,v]/\RelV x u/\RelV y v:=by
 cases h with
 | cons r h=>obtain⟨v,rfl,q⟩:=Vals.one h;exact⟨_,v,rfl,r,q⟩
section
variable {X:Cx}{pins:List (J8 × Obj)}{σ:St}{H:Hp}{s:J9}{l b:J8}{xs ys zs:List V}
theorem Inv.lset{a its':List YP}{n:Nat}{f:Array YP->Array YP}{t':Nat}(I:Inv X pins σ H s)(h:H l=some (.lst xs))
  (e:s.heap.get? l=some { cls:=.type "list",data:=.seq a.toArray n }) (d:f a.toArray=its'.toArray) (b:Vals ys its') (hz:ys.length<=sizeLine):
  Inv X pins σ (aJ H l (.lst ys)) { s with heap:=s.heap.update l (Uz f),toks:=t' }:=by
 have q:=PySem.IsL.update e f;rw [d]at q;refine I.write (x:=l) (e:=l) (by rw [h];exact trivial) (.inl rfl) (fun i u g c=>(Heap.get?_update_other s.heap (Uz f) (Ua g)).trans c) ⟨_,q⟩ ?_
 exact⟨hz,its',_,b,q⟩
theorem Inv.lstM(I:Inv X pins σ H s)(a:H l=some (.lst xs)):xs.length<=sizeLine/\∃(its:List YP) (n:Nat),Vals xs its/\xs.length=its.length/\s.heap.get? l=some { cls:=.type "list",data:=.seq its.toArray n }:=by
 obtain⟨z,its,n,r,e⟩:=I.hok l _ a
 exact⟨z,its,n,r,r.length,e⟩
theorem SH{n:Nat}(h:n<=sizeLine):Uo n=false:=by
 unfold Uo;exact decide_eq_false (by lia)
end
section
variable {X:Cx}
def Tf:V->List V->Hp->VK->Prop:=fun x a H Q=>∃ l xs y,x=.ref l/\a=[y]/\H l=some (.lst xs)/\xs.length<sizeLine/\Q .non (aJ H l (.lst (xs++[y])))
theorem Ck:CQ X "list.append" Tf:=by
 intro b s i H x k v m Q I d f h;obtain⟨l,j,y,rfl,rfl,c,o,q⟩:=h;cases d;obtain⟨u,rfl,g⟩:=f.one;obtain⟨z,a,n,r,p,e⟩:=I.lstM c;refine call_meets F.slot_list_append ⟨_,e,rfl⟩ F.entry_list_append (F.args_list_append_2 _ _) (PySem.list_append l a.toArray n u (by rw [QH];lia)) ⟨e,?_⟩
 refine⟨.non,_,I.lset (its':=a++[u]) c e (by simp) (r.append (.cons g .nil)) ?_,rfl,q⟩
 rw [Qo,Yk];lia
end
section
variable {prog:Zd}{w:Zf}{A:Around}{E:YP->J9->Prop}{s:J9}
end
section
variable {X:Cx}
end
end L2
namespace Att
open PySem.W PySem.Calls
theorem Rf:∀(ns:List Int) (vs:List YP),WellAll P h vs (ns.map WData.int)->Z1 vs ns:=by
 intro ns
 induction ns with
 | nil=>
  intro vs w;rw [List.map_nil]at w;cases w;exact .nil
 | cons n ns c=>
  intro vs w;rw [Qp]at w
  cases w with
  | cons a b=>
   cases a;exact .cons _ _ (c _ b)
theorem Tw{l:OpenLaw}{n:Nat}(t:l.most=some n){P:Params}{h:Heap}{args:List WData}{b:List YP}
  (c:l.row.toRowW.claim.pre args=true) (i:WellAll P h b args):
  ∃ a vs ns,b=[Ze a]/\args=[WData.list (ns.map WData.int)]/\h.get? a=some { cls:=.type "list",data:=.seq vs.toArray }/\Z1 vs ns/\ns.length<=n:=by
 have j:WShape.hasAll [] args [.list .int]=true:=(pre_splitW c).1;have k:l.pre.holds [] { args:=args }=true:=(pre_splitW c).2;obtain⟨d,r,rfl,w,v⟩:=hasAllW_cons j
 obtain rfl:=hasAllW_nil v
 obtain⟨x,rfl,u⟩:=hasW_list w;obtain⟨ns,rfl⟩:=items_int u
 have e:ns.length<=n:=by
  unfold OpenLaw.pre at k
  have g:(WTm.not (.lt (.lit (.int (n:Int))) (.len (.arg 0)))).holds [] { args:=[.list (ns.map .int)] }=true:=by
   have g:=(holds_andW k).1;rw [t]at g;exact g
  have h5:=condW_of g (w_not (w_lt w_lit (w_len_list (w_arg rfl))));rw [Qi]at h5;refine YY fun q=>?_
  have p:(n:Int)<((ns.length:Nat):Int):=by lia
  first
   | (rw [decide_eq_true p]at h5;exact absurd h5 (by decide))
   | (simp at h5;lia)
 cases i with
 | cons o m=>
  cases m
  cases o with
  | list s f=>exact⟨_,_,ns,rfl,rfl,s,Rf ns _ f,e⟩
theorem Vu(l:OpenLaw)(args:List WData):l.row.toRowW.claim.post args (.bool true) args=true:=
 postW_of (r:=l.row.toRowW) (X:=(true == true))
  (show WShape.has [] (.bool true) .bool=true by first | rfl | decide | simp [WShape.has,WShape.arms,WShape.armsAll])
  (show(WTm.eq .res (.lit (.bool true))).value [] { args:=args,res:=some (.bool true),after:=args }=some (.bool (true == true))from w_eq_bool (w_res rfl) w_lit) rfl
theorem attach_call{l:OpenLaw}{n:Nat}{q:Zd}{b:List Str}{x:(Str->Option YP)->Heap->Prop}{v:Zf->Heap->Prop}{d:DefRec}
  (B:l.most=some n) (k:d.params.defaults=[])
  (call:∀(w:Zf) (s₀ s₁:J9) (mg mb:Str->Option YP) (fa:J8) (o:Obj) (pm cd doc:YP) (a:J8) (vs:List YP) (ns:List Int),
   Ground q b [] x w s₀ mg mb s₁.heap->v w s₁.heap->
   s₁.heap.get? fa=some o->o.data=.func (docDef d.name d.params d.body d.scope pm cd doc)->s₁.heap.CodeRec cd d.name->mg d.name=some (.ref fa)->
   s₁.heap.get? a=some { cls:=.type "list",data:=.seq vs.toArray }->Z1 vs ns->ns.length<=n->s₁.gens=#[]->
   Ui (Zc l.prog w) callerA (.call (.ref fa) ⟨[.ref a],[]⟩) (fun r s'=>r=.ok (.ret (.bool true))/\OldK s₁.heap s'.heap/\s'.os=s₁.os/\Vi s'.gens) s₁):
  WalkO q b x v l.row.toRowW d [] (fun f vs=>PySem.call f vs):=by
 intro w s₀ s₁ mg mb G Y fa o pm cd doc N kV A I m t j H u p O e s y i F
 obtain rfl:N=.none:=Dflts.none t k
 obtain rfl:kV=.none:=Dflts.noKw t
 obtain⟨a,vs,ns,rfl,rfl,g,c,h⟩:=Tw B e i;refine enter_call (Jn (call w s₀ s₁ mg mb fa o pm cd doc a vs ns G Y A (fd_plain I) m j g c h H) fun r s' z=>?_);obtain⟨rfl,M,K,J⟩:=z
 exact⟨.inl ⟨.bool true,.bool true,[],rfl,fun _=>rfl,.bool true,Vu l _,fun _=>⟨List.Pairwise.nil,fun _ E=>(nomatch E)⟩⟩,M,K,J⟩
section
variable {prog:Zd}{w:Zf}{A:Around}{E:YP->J9->Prop}{s:J9}{K:Frag}
end
end Att
namespace L2
open PySem.Spec
theorem IX:∀{vs:List YP}{ns:List Int},Z1 vs ns->Vals (ns.map V.int) vs
 | _,_,.nil=>.nil
 | _,_,.cons n t h=>.cons ⟨t,rfl⟩ (IX h)
def yW(H:Hp):Prop:=∀ b,H b=none ∨ ∃ o xs,H b=some (.frz o (.lst xs))
theorem PL{P:Zd}{w:Zf}{K:PySem.W.Frag}{l M:Str->Option YP}{CX:g9}{k:Nat}{S a:J8}{fd:Zp}{x:Str}{sp:Sp}{s₁:J9}{vs:List YP}{ns:List Int}
  (KX:K.In s₁.heap) (A:s₁.heap.Ns Zv l) (c:s₁.heap.Ns builtinsNs M) (Q:∀ x:Str,x≠"__name__"->M x=ZD x) (B:s₁.heap.NoLimit) (hg:s₁.gens=#[])
  (I:s₁.heap.get? a=some { cls:=.type "list",data:=.seq vs.toArray }) (Y:Z1 vs ns) (X:ns.length<=sizeLine) (hr:cA k callerA)
  (F:∀ base:Heap,K.In base->base.Ns Zv l->aM P w K l base CX k S fd [x] sp) (i:∀(s:J9) (u:YP),BindsTo s fd ⟨[u],[]⟩ [(x,u)])
  (N:∀ H:Hp,yW H->bV K H a (ns.map V.int)->sp [.ref a] H (fun v _=>v=.bl true) fun _ _ _=>False)
  (R:∀ H e s',CX [] H s₁ (fun _ _ _=>False) e s'->False):
  Ui (Zc P w) callerA (.call (.ref S) ⟨[.ref a],[]⟩) (fun r s'=>r=.ok (.ret (.bool true))/\OldK s₁.heap s'.heap/\s'.os=s₁.os/\Vi s'.gens) s₁:=by
 have U:=IX Y;have p:=Y.length
 have g:∀ H:Hp,yW H->bV K H a (ns.map V.int)->c4 P w H s₁.heap->(∀ b,H b≠none->b=a)->(H a≠none->K.lookup a=none)->
   Ui (Zc P w) callerA (.call (.ref S) ⟨[.ref a],[]⟩) (fun r s'=>r=.ok (.ret (.bool true))/\OldK s₁.heap s'.heap/\s'.os=s₁.os/\Vi s'.gens) s₁:=by
  intro H Z hS y hA hK;have base_of:∀{b:J8}{o:Obj},s₁.heap.get? b=some o->H b=none->(kP s₁.heap H).get? b=some o:=fun e n=>P8 e n
  have J:∀{b:J8}{o:Obj}{es:Array UC}{ep:Nat},s₁.heap.get? b=some o->o.data=.dict es ep->H b=none:=fun{b o es ep} e d=>by
   cases q:H b with
   | none=>rfl
   | some u=>
    have T:b=a:=hA b (by rw [q];simp);subst T;rw [I]at e;cases e;have d':Data.seq vs.toArray _=Data.dict es ep:=d;cases d'
  have f:∀{b:J8}{m:Str->Option YP},s₁.heap.Ns b m->(kP s₁.heap H).Ns b m:=fun{b m} ⟨o,es,ep,e,d,r⟩=>⟨o,es,ep,base_of e (J e d),d,r⟩
  have E:K.In (kP s₁.heap H):=fun b o e=>base_of (KX b o e) (by
   cases q:H b with
   | none=>rfl
   | some u=>
    have T:b=a:=hA b (by rw [q];simp);subst T
    rw [hK (by rw [q];simp)]at e;cases e)
  have hM:Mod K l (kP s₁.heap H):=⟨E,f A,⟨M,f c,Q⟩,let⟨mc,h1,h2⟩:=B;⟨mc,f h1,h2⟩⟩;have e0:mP P w K l (kP s₁.heap H) callerA [] s₁ H:=⟨rfl,hM,fun b o e=>SI e,Nat.le_of_eq (P9 _ _),trivial,fun b c=>absurd (show b∈([]:List J8)from c) (by simp),y,.of_eq hg⟩;refine Jn ((F _ E (f A)).run callerA [] s₁ H ⟨[.ref a],[]⟩ [.ref a] [.ref a] _ _ hr e0 (i s₁ (.ref a)) (.cons rfl .nil) (N H Z hS)) fun r s' h=>?_
  cases r with
  | error e=>exact(R H e s' h).elim
  | ok fl=>
   cases fl with
   | next=>exact ZO h
   | brk=>exact ZO h
   | cont=>exact ZO h
   | ret u=>
    obtain⟨v,H',os,G,un,t,r',q⟩:=h;have q':v=.bl true:=q;subst q'
    obtain rfl:u=Z3 true:=r'
    refine⟨rfl,OldK.of_keep fun b o e=>?_,os,G⟩
    cases q:H b with
    | none=>exact un.keep b o e q (by intro z;exact absurd (show b∈([]:List J8)from z) (by simp)) (by simp)
    | some u=>
     rcases Z b with z | ⟨ob,xs,z⟩
     ·rw [q]at z;cases z
     ·have z2:=un.frzs b ob _ z;obtain⟨e1,_⟩:=y b _ z;obtain⟨e2,_⟩:=t b _ z2;rw [e]at e1;cases e1;exact e2
 cases O:K.lookup a with
 | some o=>
  have e:=KX a o O;rw [I]at e;cases e;refine g (fun _=>none) (fun _=>.inl rfl) (.inr ⟨_,vs.toArray,_,O,rfl,rfl,rfl,by rw [QH,p];exact X,by simpa using U⟩) (fun b u z=>by have j:(none:Option HO)=some u:=z;cases j) (fun b z=>absurd rfl z) fun z=>absurd rfl z
 | none=>
  refine g (fun b=>if b=a then some (.frz { cls:=.type "list",data:=.seq vs.toArray } (.lst (ns.map V.int)))else none) (fun b=>?_) (.inl (.inr ⟨{ cls:=.type "list",data:=.seq vs.toArray },if_pos rfl⟩)) (fun b u z=>?_) (fun b z=>?_) fun _=>O
  ·by_cases c:b=a
   ·exact .inr ⟨_,_,if_pos c⟩
   ·exact .inl (if_neg c)
  ·by_cases c:b=a
   ·have j:=(if_pos c).symm.trans z;cases j;subst c
    exact⟨I,by rw [Qi];exact X,vs,_,U,I⟩
   ·have j:=(if_neg c).symm.trans z;cases j
  ·by_cases c:b=a
   ·exact c
   ·exact absurd (if_neg c) z
theorem walk_of{l:PySem.W.OpenLaw}{n k:Nat}{q:Zd}{i:List Str}{XP:(Str->Option YP)->Heap->Prop}{E:Zf->Heap->Prop}{d:DefRec}{K:Params->PySem.W.Frag}{CX:Zf->g9}{sp:Zf->Sp}{x:Str}
  (M:l.most=some n) (t:n<=sizeLine) (z:d.params.defaults=[]) (J:cA k callerA)
  (R:∀(w:Zf) (h:Heap),E w h->(K w.params).In h)
  (F:∀(w:Zf) (mg:Str->Option YP) (fa:J8) (h:Heap),(K w.params).In h->h.Ns Zv mg->mg d.name=some (.ref fa)->
   ∃ fd:Zp,(∀(s:J9) (u:YP),BindsTo s fd ⟨[u],[]⟩ [(x,u)]) /\
    ∀ base:Heap,(K w.params).In base->base.Ns Zv mg->aM l.prog w (K w.params) mg base (CX w) k fa fd [x] (sp w))
  (r:∀(w:Zf) (H:Hp) (a:J8) (ns:List Int),ns.length<=n->yW H->bV (K w.params) H a (ns.map V.int)->sp w [.ref a] H (fun v _=>v=.bl true) fun _ _ _=>False)
  (A:∀(w:Zf) (H:Hp) (s:J9) (e:YP) (s':J9),CX w [] H s (fun _ _ _=>False) e s'->False):
  PySem.W.WalkO q i XP E l.row.toRowW d [] (fun f vs=>PySem.call f vs):=by
 refine Att.attach_call M z fun w B m mg mb fa o pm cd Z a vs ns G Y ho hd O y p j c N=>?_;have I:=R w _ Y;obtain⟨fd,Q,X⟩:=F w mg fa _ I G.T.g y;exact PL I G.T.g G.T.b G.T.builtins G.T.nolimit N p j (QJ c t) J X Q (fun H U S=>r w H a ns c U S) fun H e s'=>A w H m e s'
def k3(s:ZE)(j:Nat):ZE:=match s with
 | .ClassDef _ _ _ a _ _ _ _ _ _ _=>a.getD j (.Pass ⟨0,0,0,0⟩)
 | _=>.Pass ⟨0,0,0,0⟩
def eI(s:ZE):Arguments:=match s with
 | .FunctionDef _ a _ _ _ _ _ _ _ _=>a
 | _=>{ posonlyargs:=[],args:=[],vararg:=none,kwonlyargs:=[],kw_defaults:=[],kwarg:=none,defaults:=[] }
def c8(s:ZE):List ZE:=match s with
 | .FunctionDef _ _ b _ _ _ _ _ _ _=>b
 | _=>[]
def aV(s:ZE):Ul:=match s with
 | .FunctionDef _ _ _ _ _ _ a _ _ _=>a
 | _=>{ kind:=.function,names:=[],isGenerator:=false,isCoroutine:=false }
abbrev aO:g9:=fun _ _ _ _ _ _=>False
abbrev E0:XK:=fun _ _ _=>False
theorem k9:nQ aO X E0:=fun _ _ _ _ _ _ _ h=>h.elim
structure eP(K:PySem.W.Frag)(x qual:Str)(st:ZE)(f:J8)(fd:Zp):Prop where
 ex:∃(oc:YP) (od:Option J8) (kV doc pm:YP) (an:Option J8) (cdv ct:YP) (osl:Array (Option YP)),
  fd=PySem.W.fnOf x qual (eI st) (c8 st) (aV st) .none kV doc pm an cdv ct/\K.lookup f=some ⟨oc,od,.func fd,osl⟩/\PySem.W.codeIn K cdv qual=true
 kp:PySem.W.keepIn K (.ref f)=true
section
variable {P:Zd}{w:Zf}{K:PySem.W.Frag}{mg:Str->Option YP}{base:Heap}
theorem eP.ok{x a:Str}{c:ZE}{f:J8}{g:Zp}{N ps:List Str}{k:Nat}{sp:Sp}(F:eP K x a c f g)(S:bQ N ps (aV c))(len:∀ vs H Q E,sp vs H Q E->vs.length=ps.length)
  (b:∀(cdv:YP) (A:Around) (outer:List Env) (s:J9) (H:Hp) (vs:List V) (Q:VK) (E:XK),cA k (A.deeper (U2 a (aV c) s.heap.objs.size f cdv))->sp vs H Q E->
   ∃ t,fE (jV aO P w K mg base N a (aV c) f cdv A outer s H E).nox (c8 c) t/\t { nx:=fun _ H'=>Q .non H',rt:=Q } (start N vs) H):aM P w K mg base aO (k+1) f g ps sp:=by
 obtain⟨p,o,kV,m,n,u,cdv,r,i,rfl,j,e⟩:=F.ex;refine Ll j e S len fun A outer s H vs Q E l d=>?_;obtain⟨t,h,q⟩:=b cdv A outer s H vs Q E l d
 exact⟨t,h.nox,q⟩
theorem p6{x a:Str}{d:ZE}{f:J8}{j:YP}{od i:Option J8}{g:Array (Option YP)}{kV e h b ct:YP}(l:K.lookup f=some ⟨j,od,.func (PySem.W.fnOf x a (eI d) (c8 d) (aV d) .none kV e h i b ct),g⟩)
  (c:PySem.W.codeIn K b a=true) (k:PySem.W.keepIn K (.ref f)=true):eP K x a d f (PySem.W.fnOf x a (eI d) (c8 d) (aV d) .none kV e h i b ct):=⟨⟨j,od,kV,e,h,i,b,ct,g,rfl,l,c⟩,k⟩
end
theorem tT(h:n<=1000):n<sizeLine:=YU h (by decide)
section
variable {X:Cx}
theorem pv(i:Nat)(d:X.N[i]?=some x:=by rfl)(b:fY X.env.scope x:=by first | exact Zx rfl | exact Zl (Zx rfl) | exact Zl (Zl rfl))(c:(x == ("__debug__":Str))=false:=by decide)
  (a:(x == ("__classdict__":Str))=false:=by decide):PE X (.Name x pos) (Ai i):=fS d b c a
end
def dX(H a:Hp):Prop:=∀ b o,H b=some o->a b=some o
theorem dX.refl(H:Hp):dX H H:=fun _ _ h=>h
theorem dX.trans(a:dX H H1)(b:dX H1 H2):dX H H2:=fun c o h=>b c o (a c o h)
theorem dX.free{H a:Hp}(e:dX H a){l:J8}(h:a l=Option.none):H l=Option.none:=by
 cases q:H l with
 | none=>rfl
 | some o=>
  rw [e l o q]at h;cases h
end L2
namespace SG
section
variable {prog:Zd}{w:Zf}{A:Around}{E:YP->J9->Prop}{s:J9}{src:Array Zs}{κ:KeyKind}{kd:Z2}
def fW(prog:Zd)(w:Zf)(A:Around)(s:J9)(κ:KeyKind)(kd:Z2):Prop:=
 ∀(x y:YP) (a b:κ.α) (E:YP->J9->Prop) (Q:Bool->J9->Prop),κ.keyOf x=some a->κ.keyOf y=some b->Q (κ.blt a b) s->Zb (Zc prog w) A (keyLt' kd x y) Q E s
end
end SG
namespace TS
open SG
structure Ft(src:Array Zs)(kd:Z2)(z:ZJ):Prop where
 mix:(Zg z).Perm src
 kd:kindOf z=kd
 fine:Uq z=none
theorem Ft.len{src:Array Zs}{kd:Z2}{z:ZJ}(f:Ft src kd z):(Zg z).size=src.size:=f.mix.size_eq
theorem Ft.re{src:Array Zs}{kd:Z2}{z:ZJ}(f:Ft src kd z){a:Array Zs}(m:a.Perm (Zg z)):Ft src kd (ZV z a):=⟨m.trans f.mix,f.kd,f.fine⟩
def aL(d a top:Nat):StateT ZJ Sem AscSt:=forIn [a:top] ((none,a):AscSt) fun _ c=>ltAt' (d+c.snd) (d+c.snd-1) >>= fun x=>match x with
 | some b=>if b=true then pure (.done (none,c.snd))else pure (.yield (none,c.snd+1))
 | _=>pure (.done (some none,c.snd))
def rK(a n top:Nat):StateT ZJ Sem (Option Nat):=reverseSlice' a (a+n) >>= fun _=>aL a n top >>= fun c=>match c.fst with
 | some r=>pure r
 | none=>pure (some c.snd)
def dL(a n top:Nat):StateT ZJ Sem DescSt:=forIn [n:top] ((none,n,0):DescSt) fun _ c=>ltAt' (a+c.snd.fst) (a+c.snd.fst-1) >>= fun x=>match x with
 | some b=>if b=true then(if c.snd.snd > 0 then(reverseSlice' (a+c.snd.fst-(c.snd.snd+1)) (a+c.snd.fst) >>= fun _=>pure (.yield (none,c.snd.fst+1,0)))else pure (.yield (none,c.snd.fst+1,0)))
  else ltAt' (a+c.snd.fst-1) (a+c.snd.fst) >>= fun y=>match y with
   | some g=>if g=true then pure (.done (none,c.snd.fst,c.snd.snd))else pure (.yield (none,c.snd.fst+1,c.snd.snd+1))
   | _=>pure (.done (some none,c.snd.fst,c.snd.snd))
 | _=>pure (.done (some none,c.snd.fst,c.snd.snd))
def dP(a n top:Nat):StateT ZJ Sem (Option Nat):=liftM (rule "list.sort.descending-run") >>= fun _=>dL a (n+1) top >>= fun c=>match c.fst with
 | some r=>pure r
 | none=>if c.snd.snd > 0 then(reverseSlice' (a+c.snd.fst-(c.snd.snd+1)) (a+c.snd.fst) >>= fun _=>rK a c.snd.fst top)else rK a c.snd.fst top
theorem KN(a top:Nat):countRun' a top=(aL a 1 top >>= fun c=>match c.fst with
  | some r=>pure r
  | none=>if(c.snd == top)=true then pure (some c.snd)else if c.snd > 1 then(ltAt' a (a+c.snd-1) >>= fun x=>match x with
    | some g=>if g=true then pure (some c.snd)else(reverseSlice' a (a+c.snd) >>= fun _=>dP a c.snd top)
    | _=>pure none)
   else dP a c.snd top):=by
 rw [countRun'_eq];unfold dP rK dL aL;refine bind_congr fun c=>?_;obtain⟨r,n⟩:=c
 cases r with
 | some r=>rfl
 | none=>
  dsimp only;split
  ·rfl
  ·split
   ·refine bind_congr fun x=>?_
    cases x with
    | none=>rfl
    | some g=>
     dsimp only;split
     ·rfl
     ·refine bind_congr fun _=>bind_congr fun _=>bind_congr fun f=>?_;obtain⟨e,j,i⟩:=f
      cases e with
      | some e=>rfl
      | none=>
       dsimp only;split
       ·refine bind_congr fun _=>bind_congr fun _=>bind_congr fun b=>?_;obtain⟨d,h⟩:=b
        cases d <;> rfl
       ·refine bind_congr fun _=>bind_congr fun b=>?_;obtain⟨d,h⟩:=b
        cases d <;> rfl
   ·refine bind_congr fun _=>bind_congr fun f=>?_;obtain⟨e,j,i⟩:=f
    cases e with
    | some e=>rfl
    | none=>
     dsimp only;split
     ·refine bind_congr fun _=>bind_congr fun _=>bind_congr fun b=>?_;obtain⟨d,h⟩:=b
      cases d <;> rfl
     ·refine bind_congr fun _=>bind_congr fun b=>?_;obtain⟨d,h⟩:=b
      cases d <;> rfl
def Up(κ:KeyKind)(xs:Array Zs)(a n:Nat):Prop:=∀ i j,i<=j->j<n->κ.kle (KK κ xs (a+i)) (KK κ xs (a+j))
def Dn(κ:KeyKind)(xs:Array Zs)(a n:Nat):Prop:=∀ i j,i<=j->j<n->κ.kle (KK κ xs (a+j)) (KK κ xs (a+i))
def Sm(κ:KeyKind)(b:Nat)(xs a:Array Zs):Prop:=∀ k,k<b->KK κ a k=KK κ xs k
theorem Sm.refl{a:Nat}(xs:Array Zs):Sm κ a xs xs:=fun _ _=>rfl
theorem Sm.trans{c:Nat}(a:Sm κ c xs ys)(b:Sm κ c ys zs):Sm κ c xs zs:=fun k h=>(b k h).trans (a k h)
theorem xA{a i j:Nat}(b:j<=xs.size)(h:a<=i):Sm κ a xs (mirror xs i j ((j-i) / 2)):=fun k c=>by
 rw [KK_mirror b,if_neg (by lia)]
section
variable {prog:Zd}{w:Zf}{A:Around}{E:YP->J9->Prop}{s:J9}{src:Array Zs}{κ:KeyKind}{kd:Z2}
theorem Ft.item(f:Ft src kd z)(all:KeysOf κ src)(h:i<src.size):∃ x y a,(Zg z)[i]?=some (x,y)/\κ.keyOf x=some a/\KK κ (Zg z) i=a:=by
 have c:i<(Zg z).size:=by rw [f.len];exact h
 have e:=getElem?_pos (Zg z) i c;obtain⟨a,b⟩:=all (Zg z)[i] ((Y2.mp f.mix).mem_iff.mp (by simp))
 exact⟨_,_,a,e,b,by unfold KK;rw [e];simp [b]⟩
theorem rA(L:fW prog w A s κ kd)(hz:kindOf z=kd)(d:κ.keyOf x.1=some a)(c:κ.keyOf y.1=some b)(k:Q (some (κ.blt a b)) z):wpS (Zc prog w) A E s (lt' x y) Q z:=by
 rw [lt'_eq];refine Qt (UU (Qt (Vp (UV ?_))));rw [hz];exact L x.1 y.1 a b _ _ d c ⟨rfl,QD k⟩
theorem dN(h:xs[i]?=some p)(k:Q p z):wpS (Zc prog w) A E s (elem' xs i) Q z:=by
 rw [elem'_eq,h];exact QD k
theorem rC(L:fW prog w A s κ kd)(f:Ft src kd z)(all:KeysOf κ src)(l:i<src.size)(h:j<src.size)
  (k:Q (some (κ.blt (KK κ (Zg z) i) (KK κ (Zg z) j))) z):wpS (Zc prog w) A E s (ltAt' i j) Q z:=by
 obtain⟨x,p,a,n,g,d⟩:=f.item all l;obtain⟨y,o,b,m,e,c⟩:=f.item all h;rw [d,c]at k;rw [ltAt'_eq];exact Qt (UU (Qt (dN n (Qt (dN m (rA L f.kd g e k))))))
variable {lo:Nat}
theorem DZ(L:fW prog w A s κ kd)(all:KeysOf κ src)(f:Ft src kd z)(u:1<=a)(p:a<=top)(t:lo+top<=src.size)(r:Up κ (Zg z) lo a)
  (k:∀ n,a<=n->n<=top->Up κ (Zg z) lo n->n=top ∨ κ.klt (KK κ (Zg z) (lo+n)) (KK κ (Zg z) (lo+n-1))->Q (none,n) z):wpS (Zc prog w) A E s (aL lo a top) Q z:=by
 unfold aL;refine Yw (fun x c d=>d=z/\c=(none,x)/\Up κ (Zg z) lo x) (fun x c d g1 g2 l=>?_) (fun c d l=>?_) ⟨rfl,rfl,r⟩
 ·obtain⟨g,h,b⟩:=l;subst g h;dsimp only;refine Qt (rC L f all (by lia) (by lia) ?_)
  cases q:κ.blt (KK κ (Zg d) (lo+x)) (KK κ (Zg d) (lo+x-1))with
  | true=>simp only [if_true];exact QD (k x g1 (YQ g2) b (Zl q))
  | false=>
   simp only [Qg,if_false];refine QD ⟨rfl,rfl,fun i j le lt=>?_⟩;rcases U4 j x with o | o
   ·exact b i j le o
   ·obtain rfl:j=x:=by lia
    rcases YV le with m | m
    ·subst m;exact Yr _
    ·rw [show lo+j-1=lo+(j-1) by lia]at q;exact Yi (b i (j-1) (by lia) (by lia)) q
 ·obtain⟨g,h,b⟩:=l;subst g h
  have e:max a top=top:=by lia
  rw [e]at b ⊢;exact k top p (Qm _) b (Zx rfl)
theorem IU(L:fW prog w A s κ kd)(all:KeysOf κ src)(f:Ft src kd z)(a:1<=n)(e:n<=top)(d:lo+top<=src.size)(r:Dn κ (Zg z) lo n)
  (k:∀ m ys,Ft src kd (ZV z ys)->Sm κ lo (Zg z) ys->1<=m->m<=top->Up κ ys lo m->Q (some m) (ZV z ys)):wpS (Zc prog w) A E s (rK lo n top) Q z:=by
 have sz:lo+n<=(Zg z).size:=by rw [f.len];lia
 have b:Ft src kd (ZV z (mirror (Zg z) lo (lo+n) ((lo+n-lo) / 2))):=f.re (mirror_perm _ _ _ _)
 have c:Up κ (Zg (ZV z (mirror (Zg z) lo (lo+n) ((lo+n-lo) / 2)))) lo n:=by
  intro i j le lt
  show κ.kle (KK κ (mirror (Zg z) lo (lo+n) ((lo+n-lo) / 2)) (lo+i)) (KK κ (mirror (Zg z) lo (lo+n) ((lo+n-lo) / 2)) (lo+j))
  rw [KK_mirror sz,KK_mirror sz,if_pos ⟨by lia,by lia⟩,if_pos ⟨by lia,by lia⟩,show lo+(lo+n)-1-(lo+i)=lo+(n-1-i) by lia,show lo+(lo+n)-1-(lo+j)=lo+(n-1-j) by lia];exact r _ _ (by lia) (by lia)
 unfold rK;refine Qt (wpS_reverse (Qt (DZ L all b a e d c fun m g1 g2 g3 _=>?_)));exact QD (k m _ b (xA sz (Qm _)) (QJ a g1) g2 g3)
theorem OK(L:fW prog w A s κ kd)(all:KeysOf κ src)(f:Ft src kd z)(N:1<=n)(M:n<=top)(O:lo+top<=src.size)(r:Dn κ (Zg z) lo n)
  (k:∀ m q ys,Ft src kd (ZV z ys)->Sm κ lo (Zg z) ys->n<=m->m<=top->Dn κ ys lo m->q+1<=m->(∀ i,m-(q+1)<=i->i<m->KK κ ys (lo+i)=KK κ ys (lo+(m-1)))->Q (none,m,q) (ZV z ys)):wpS (Zc prog w) A E s (dL lo n top) Q z:=by
 have one:∀(ys:Array Zs) (x:Nat) (i:Nat),x-(0+1)<=i->i<x->KK κ ys (lo+i)=KK κ ys (lo+(x-1)):=fun ys x i B o=>by
  have:i=x-1:=Nat.le_antisymm (Nat.le_sub_one_of_lt o) B
  rw [this]
 unfold dL
 refine Yw (fun x c t=>∃ q ys,t=ZV z ys/\c=(none,x,q)/\Ft src kd t/\Sm κ lo (Zg z) ys/\Dn κ ys lo x/\q+1<=x/\∀ i,x-(q+1)<=i->i<x->KK κ ys (lo+i)=KK κ ys (lo+(x-1)))
  (fun x c t g1 g2 I=>?_) (fun c t I=>?_) ⟨0,Zg z,rfl,rfl,f,Sm.refl _,r,N,one _ _⟩
 ·obtain⟨q,ys,G,v,b,h,d,u,l⟩:=I;subst G v;dsimp only
  have J:lo+x<src.size:=by lia
  have sz:lo+x<=ys.size:=by have:=b.len;show lo+x<=(Zg (ZV z ys)).size;lia
  have g:lo+x-1=lo+(x-1):=by lia
  refine Qt (rC L b all J (by lia) ?_)
  show wpS _ _ _ _ (if κ.blt (KK κ ys (lo+x)) (KK κ ys (lo+x-1))=true then _ else _) _ _
  rw [g]
  cases B:κ.blt (KK κ ys (lo+x)) (KK κ ys (lo+(x-1)))with
  | true=>
   simp only [if_true]
   have more:∀ F:Array Zs,(∀ m,KK κ F m=KK κ ys m)->Dn κ F lo (x+1):=fun F a i j le lt=>by
    rw [a,a];rcases U4 j x with p | p
    ·exact d i j le p
    ·obtain rfl:j=x:=Nat.le_antisymm (JU lt) p
     rcases YV le with y | y
     ·subst y;exact Yr _
     ·exact Yi (Y3 B) (d i (j-1) (by lia) (by lia))
   by_cases o:q > 0
   ·rw [if_pos o]
    have H:∀ m,lo+x-(q+1)<=m->m<lo+x->KK κ ys m=KK κ ys (lo+x-1):=fun m p y=>by
     have:=l (m-lo) (by lia) (by lia)
     rw [show lo+(m-lo)=m by lia]at this;rw [this,g]
    refine Qt (wpS_reverse (QD ⟨0,_,rfl,rfl,b.re (mirror_perm _ _ _ _),h.trans (xA sz (by lia)),more _ (J5 sz H),Nat.succ_le_succ (Q8 _),one _ _⟩))
   ·rw [if_neg o];exact QD ⟨0,ys,rfl,rfl,b,h,more _ fun _=>rfl,Nat.succ_le_succ (Q8 _),one _ _⟩
  | false=>
   simp only [Qg,if_false];refine Qt (rC L b all (by lia) J ?_)
   show wpS _ _ _ _ (if κ.blt (KK κ ys (lo+(x-1))) (KK κ ys (lo+x))=true then _ else _) _ _
   cases o:κ.blt (KK κ ys (lo+(x-1))) (KK κ ys (lo+x))with
   | true=>simp only [if_true];exact QD (k x q ys b h g1 (YQ g2) d u l)
   | false=>
    simp only [Qg,if_false];have a:KK κ ys (lo+x)=KK κ ys (lo+(x-1)):=KeyOrd.kle_antisymm o B;refine QD ⟨q+1,ys,rfl,rfl,b,h,fun i j le lt=>?_,by lia,fun i p y=>?_⟩
    ·rcases U4 j x with g | g
     ·exact d i j le g
     ·obtain rfl:j=x:=by lia
      rcases YV le with K | K
      ·subst K;exact Yr _
      ·rw [a];exact d i (j-1) (by lia) (by lia)
    ·show KK κ ys (lo+i)=KK κ ys (lo+x)
     rcases U4 i x with g | g
     ·rw [a];exact l i (by lia) g
     ·have:i=x:=by lia
      rw [this]
 ·obtain⟨q,ys,G,v,b,h,d,u,l⟩:=I
  have e:max n top=top:=by lia
  rw [e]at v d u l;subst v G;exact k top q ys b h M (Qm _) d u l
end
section
variable {prog:Zd}{w:Zf}{A:Around}{E:YP->J9->Prop}{s:J9}{src:Array Zs}{κ:KeyKind}{kd:Z2}{lo:Nat}
theorem GU(L:fW prog w A s κ kd)(all:KeysOf κ src)(f:Ft src kd z)(y:n+1<=top)(g:lo+top<=src.size)(r:Dn κ (Zg z) lo (n+1))
  (k:∀ m ys,Ft src kd (ZV z ys)->Sm κ lo (Zg z) ys->1<=m->m<=top->Up κ ys lo m->Q (some m) (ZV z ys)):wpS (Zc prog w) A E s (dP lo n top) Q z:=by
 unfold dP;refine Qt (Vp (Jm ⟨rfl,Qt (OK L all f (Nat.le_add_left 1 n) y g r fun m q ys l u g1 g2 v B x=>?_)⟩))
 have sz:lo+m<=ys.size:=by have:=l.len;show lo+m<=(Zg (ZV z ys)).size;lia
 dsimp only;by_cases c:q > 0
 ·rw [if_pos c]
  have b:∀ i,lo+m-(q+1)<=i->i<lo+m->KK κ ys i=KK κ ys (lo+m-1):=fun i G F=>by
   have:=x (i-lo) (by lia) (by lia)
   rw [show lo+(i-lo)=i by lia]at this;rw [this,show lo+m-1=lo+(m-1) by lia]
  refine Qt (wpS_reverse (IU L all (l.re (mirror_perm _ _ _ _)) (by lia) g2 g (fun i j le lt=>?_) fun e d h a t p o=>k e d h ((u.trans (xA sz (by lia))).trans a) t p o))
  show κ.kle (KK κ (mirror ys (lo+m-(q+1)) (lo+m) ((lo+m-(lo+m-(q+1))) / 2)) (lo+j)) (KK κ (mirror ys (lo+m-(q+1)) (lo+m) ((lo+m-(lo+m-(q+1))) / 2)) (lo+i))
  rw [J5 sz b,J5 sz b];exact v i j le lt
 ·rw [if_neg c];exact IU L all l (by lia) g2 g v fun e d h a t p o=>k e d h (u.trans a) t p o
theorem MH(L:fW prog w A s κ kd)(all:KeysOf κ src)(f:Ft src kd z)(v:1<=top)(o:lo+top<=src.size)
  (k:∀ m ys,Ft src kd (ZV z ys)->Sm κ lo (Zg z) ys->1<=m->m<=top->Up κ ys lo m->Q (some m) (ZV z ys)):wpS (Zc prog w) A E s (countRun' lo top) Q z:=by
 have u:Up κ (Zg z) lo 1:=fun i j le lt=>by
  obtain rfl:i=j:=by lia
  exact Yr _
 rw [KN];refine Qt (DZ L all f (Qm 1) v o u fun n g1 g2 g3 x=>?_);dsimp only;by_cases c:n=top
 ·rw [if_pos (beq_iff_eq.mpr c)];exact QD (k n (Zg z) f (Sm.refl _) g1 g2 g3)
 ·rw [if_neg (fun h=>c (beq_iff_eq.mp h))];have a:=x.resolve_left c
  have p:lo+n-1=lo+(n-1):=by lia
  rw [p]at a;by_cases r:n > 1
  ·rw [if_pos r];refine Qt (rC L f all (by lia) (by lia) ?_);dsimp only;rw [p]
   cases F:κ.blt (KK κ (Zg z) lo) (KK κ (Zg z) (lo+(n-1)))with
   | true=>simp only [if_true];exact QD (k n (Zg z) f (Sm.refl _) g1 g2 g3)
   | false=>
    simp only [Qg,if_false]
    have sz:lo+n<=(Zg z).size:=by rw [f.len];lia
    have g:∀ m,m<n->KK κ (Zg z) (lo+m)=KK κ (Zg z) (lo+(n-1)):=fun m lt=>
     KeyOrd.kle_antisymm (g3 m (n-1) (by lia) (by lia)) (Yi F (g3 0 m (Q8 _) lt))
    have e:∀ m,lo<=m->m<lo+n->KK κ (Zg z) m=KK κ (Zg z) (lo+n-1):=fun m q b=>by
     have:=g (m-lo) (by lia)
     rw [show lo+(m-lo)=m by lia]at this;rw [this,p]
    refine Qt (wpS_reverse (GU L all (f.re (mirror_perm _ _ _ _)) (by lia) o (fun i j le lt=>?_) fun m t y l q b B=>k m t y ((xA sz (Qm _)).trans l) q b B))
    show κ.kle (KK κ (mirror (Zg z) lo (lo+n) ((lo+n-lo) / 2)) (lo+j)) (KK κ (mirror (Zg z) lo (lo+n) ((lo+n-lo) / 2)) (lo+i))
    rw [J5 sz e,J5 sz e];rcases U4 j n with d | d
    ·rw [g i (by lia),g j d];exact Yr _
    ·obtain rfl:j=n:=by lia
     rcases YV le with b | b
     ·subst b;exact Yr _
     ·rw [g i b];exact Y3 a
  ·rw [if_neg r]
   obtain rfl:n=1:=by lia
   refine GU L all f (by lia) o (fun i j le lt=>?_) k;rcases YV le with b | b
   ·subst b;exact Yr _
   ·obtain rfl:i=0:=by lia
    obtain rfl:j=1:=by lia
    exact Y3 a
theorem Lu{n ok:Nat}(L:fW prog w A s κ kd)(all:KeysOf κ src)(f:Ft src kd z)(h1:ok<=n)(h3:lo+n<=src.size)(r:Up κ (Zg z) lo ok)
  (k:∀ ys,Ft src kd (ZV z ys)->Sm κ lo (Zg z) ys->Up κ ys lo n->Q true (ZV z ys)):wpS (Zc prog w) A E s (binarySort' lo n ok) Q z:=by
 rw [binarySort'_eq]
 have R:Up κ (Zg z) lo (min (max ok 1) n):=fun i j le lt=>by
  rcases YV le with c | c
  ·subst c;exact Yr _
  ·exact r i j le (by lia)
 refine Qt (JC (Yw (fun m c o=>∃ ys,o=ZV z ys/\c=(none,())/\Ft src kd o/\Sm κ lo (Zg z) ys/\Up κ ys lo (min m n)) (Q:=fun c o=>∃ ys,o=ZV z ys/\c=(none,())/\Ft src kd o/\Sm κ lo (Zg z) ys/\Up κ ys lo n)
  (fun m c o g1 g2 J=>?_) (fun c o J=>?_) ⟨Zg z,rfl,rfl,f,Sm.refl _,R⟩) fun c o W=>?_)
 ·obtain⟨ys,b,g,u,F,a⟩:=J;subst b g
  have Y:min m n=m:=by lia
  rw [Y]at a
  have T:lo+m<src.size:=by lia
  refine Qt (JC (Yw (fun t c v=>v=ZV z ys/\∃ l h,c=(none,l,h)/\l<=h/\h<=m/\h+t<=m+l/\(∀ i,i<l->κ.kle (KK κ ys (lo+i)) (KK κ ys (lo+m))) /\
    ∀ i,h<=i->i<m->κ.klt (KK κ ys (lo+m)) (KK κ ys (lo+i)))
   (Q:=fun c v=>v=ZV z ys/\∃ l h,c=(none,l,h)/\l<=m/\(∀ i,i<l->κ.kle (KK κ ys (lo+i)) (KK κ ys (lo+m)))/\∀ i,l<=i->i<m->κ.klt (KK κ ys (lo+m)) (KK κ ys (lo+i)))
   (fun t c v _ lt G=>?_) (fun c v G=>?_) ⟨rfl,0,m,rfl,Q8 _,Qm _,by lia,fun i c=>absurd c (Yy _),fun i N p=>absurd p (Nat.not_lt.mpr N)⟩) fun c v G=>?_)
  ·obtain⟨b,l,h,g,N,p,O,B,y⟩:=G;subst b g;dsimp only;by_cases d:l >= h
   ·rw [if_pos d]
    obtain rfl:l=h:=by lia
    exact QD ⟨rfl,l,l,rfl,p,B,y⟩
   ·rw [if_neg d]
    have I:l<=(l+h) / 2/\(l+h) / 2<h:=by clear p O;lia
    generalize (l+h) / 2=x at I ⊢;refine Qt (rC L u all T (by lia) ?_)
    show wpS _ _ _ _ (if κ.blt (KK κ ys (lo+m)) (KK κ ys (lo+x))=true then _ else _) _ _
    cases q:κ.blt (KK κ ys (lo+m)) (KK κ ys (lo+x))with
    | true=>
     simp only [if_true];exact QD ⟨rfl,l,x,rfl,I.1,by lia,by lia,B,fun i M K=>KeyOrd.klt_of_klt_of_kle q (a _ _ M K)⟩
    | false=>
     simp only [Qg,if_false];refine QD ⟨rfl,x+1,h,rfl,I.2,p,by lia,fun i M=>?_,y⟩;have S:κ.kle (KK κ ys (lo+x)) (KK κ ys (lo+m)):=q;exact Yi (a i x (JU M) (by lia)) S
  ·obtain⟨b,l,h,g,N,p,O,B,y⟩:=G
   obtain rfl:l=h:=by lia
   exact⟨b,l,l,g,p,B,y⟩
  ·obtain⟨b,l,h,g,p,B,y⟩:=G;subst b g
   show wpS _ _ _ _ (moveDown' (lo+m) (lo+l) >>= fun _=>pure (Ux (none,()))) _ _
   rw [moveDown'_eq]
   have X:lo+m<ys.size:=by have:=u.len;show lo+m<(Zg (ZV z ys)).size;lia
   have Z:lo+m-(lo+m-(lo+l))=lo+l:=by lia
   have H:∀ i,KK κ (bubble ys (lo+m) (lo+m-(lo+l))) i=if i=lo+l then KK κ ys (lo+m)else if lo+l<i/\i<=lo+m then KK κ ys (i-1)else KK κ ys i:=fun i=>by
    rw [KK_bubble X (by lia),Z]
   refine Qt (J6 (QD ⟨_,rfl,rfl,u.re (bubble_perm _ _ _),F.trans fun i hi=>by rw [H,if_neg (by lia),if_neg (by lia)],?_⟩))
   have K:min (m+1) n=m+1:=by lia
   rw [K];intro i j le lt
   show κ.kle (KK κ (bubble ys (lo+m) (lo+m-(lo+l))) (lo+i)) (KK κ (bubble ys (lo+m) (lo+m-(lo+l))) (lo+j))
   rw [H,H]
   by_cases i1:i=l <;> by_cases j1:j=l
   ·rw [if_pos (by lia),if_pos (by lia)];exact Yr _
   ·rw [if_pos (by lia),if_neg (by lia),if_pos ⟨by lia,by lia⟩,show lo+j-1=lo+(j-1) by lia];exact Y3 (y _ (by lia) (by lia))
   ·rw [if_neg (by lia),if_neg (by lia),if_pos (by lia)];exact B _ (by lia)
   ·rw [if_neg (by lia),if_neg (show ¬ lo+j=lo+l by lia)]
    by_cases i2:l<i/\i<=m <;> by_cases U:l<j/\j<=m
    ·rw [if_pos ⟨by lia,by lia⟩,if_pos ⟨by lia,by lia⟩,show lo+i-1=lo+(i-1) by lia,show lo+j-1=lo+(j-1) by lia];exact a _ _ (by lia) (by lia)
    ·exact absurd ⟨by lia,by lia⟩ U
    ·rw [if_neg (by lia),if_pos ⟨by lia,by lia⟩,show lo+j-1=lo+(j-1) by lia];exact a _ _ (by lia) (by lia)
    ·rw [if_neg (by lia),if_neg (by lia)];exact a _ _ le (by lia)
 ·obtain⟨ys,b,g,u,F,a⟩:=J
  have e:min (max (max ok 1) n) n=n:=by lia
  rw [e]at a
  exact⟨ys,b,g,u,F,a⟩
 ·obtain⟨ys,b,g,u,F,a⟩:=W;subst g b;exact QD (k ys u F a)
end
def gal:Bool->Zs->Array Zs->Nat->Nat->Nat->StateT ZJ Sem (Option Nat):=sortPriv% PySem.Builtin.gallop
def oI(left:Bool)(a:Zs)(b:Array Zs)(base i:Nat):StateT ZJ Sem (Option Bool):=elem' b (base+i) >>= fun x=>if left=true then lt' x a else lt' a x >>= fun r=>pure (r.map (!·))
def oJ(left:Bool)(a:Zs)(b:Array Zs)(base n d e:Nat):StateT ZJ Sem (Option Nat):=
 forIn [0:n] ((none,d,e):Option (Option Nat) × Nat × Nat) (fun _ c=>if c.snd.fst >= c.snd.snd then pure (.done (none,c.snd.fst,c.snd.snd))else oI left a b base (c.snd.fst+(c.snd.snd-c.snd.fst) / 2) >>= fun x=>match x with
  | some m=>if m=true then pure (.yield (none,c.snd.fst+(c.snd.snd-c.snd.fst) / 2+1,c.snd.snd))else pure (.yield (none,c.snd.fst,c.snd.fst+(c.snd.snd-c.snd.fst) / 2))
  | _=>pure (.done (some none,c.snd.fst,c.snd.snd))) >>= fun c=>match c.fst with
  | some r=>pure r
  | none=>pure (some c.snd.snd)
def bB(κ:KeyKind)(left:Bool)(kk:κ.α)(a:Array Zs)(base i:Nat):Bool:=if left=true then κ.blt (KK κ a (base+i)) kk else !κ.blt kk (KK κ a (base+i))
def Ks(κ:KeyKind)(b:Array Zs)(base n:Nat):Prop:=∀ i,i<n->∃ p a,b[base+i]?=some p/\κ.keyOf p.1=some a/\KK κ b (base+i)=a
section
variable {prog:Zd}{w:Zf}{A:Around}{E:YP->J9->Prop}{s:J9}{κ:KeyKind}{kd:Z2}{left:Bool}{key:Zs}{kk:κ.α}{arr:Array Zs}{base n:Nat}{z:ZJ}
theorem pV(u:Up κ arr base n)(le:i<=j)(lt:j<n)(h:bB κ left kk arr base j=true):bB κ left kk arr base i=true:=by
 have q:=u i j le lt;unfold bB at h ⊢
 cases left with
 | true=>exact KeyOrd.klt_of_kle_of_klt q h
 | false=>
  simp only [Qg,if_false,YD]at h ⊢;exact Yi q h
variable (L:fW prog w A s κ kd)(hz:kindOf z=kd)(hk:κ.keyOf key.1=some kk)(ks:Ks κ arr base n)
include L hz hk ks
theorem vK(c:i<n)(k:Q (some (bB κ left kk arr base i)) z):wpS (Zc prog w) A E s (oI left key arr base i) Q z:=by
 obtain⟨p,a,e,b,d⟩:=ks i c;unfold oI;refine Qt (dN e ?_);unfold bB at k;rw [d]at k
 cases left with
 | true=>rw [if_pos rfl]at k ⊢;exact rA L hz b hk k
 | false=>
  rw [if_neg Qr]at k ⊢;exact Qt (rA L hz hk b (QD k))
theorem En{j e:Nat}(u:Up κ arr base n)(G:j<=e)(F:e<=n)(b1:∀ i,i<j->bB κ left kk arr base i=true)(K:∀ i,e<=i->i<n->bB κ left kk arr base i=false)
  (k:∀ t,t<=n->(∀ i,i<t->bB κ left kk arr base i=true)->(∀ i,t<=i->i<n->bB κ left kk arr base i=false)->Q (some t) z):wpS (Zc prog w) A E s (oJ left key arr base n j e) Q z:=by
 unfold oJ
 refine Qt (JC (Yw (fun t c b=>b=z/\∃ l h,c=(none,l,h)/\l<=h/\h<=n/\h+t<=n+l/\(∀ i,i<l->bB κ left kk arr base i=true)/\∀ i,h<=i->i<n->bB κ left kk arr base i=false)
  (Q:=fun c b=>b=z/\∃ l,c=(none,l,l)/\l<=n/\(∀ i,i<l->bB κ left kk arr base i=true)/\∀ i,l<=i->i<n->bB κ left kk arr base i=false)
  (fun t c b _ lt r=>?_) (fun c b r=>?_) ⟨rfl,j,e,rfl,G,F,by lia,b1,K⟩) fun c b B=>?_)
 ·obtain⟨rfl,l,h,rfl,J,a,v,g,f⟩:=r;dsimp only;by_cases d:l >= h
  ·rw [if_pos d]
   obtain rfl:l=h:=by lia
   exact QD ⟨rfl,l,rfl,a,g,f⟩
  ·rw [if_neg d]
   have p:l<=l+(h-l) / 2/\l+(h-l) / 2<h:=by clear a v;lia
   generalize l+(h-l) / 2=m at p ⊢;refine Qt (vK L hz hk ks (by lia) ?_);dsimp only
   cases q:bB κ left kk arr base m with
   | true=>
    simp only [if_true];exact QD ⟨rfl,m+1,h,rfl,p.2,a,by lia,fun i e=>pV u (by lia) (by lia) q,f⟩
   | false=>
    simp only [Qg,if_false];refine QD ⟨rfl,l,m,rfl,p.1,by lia,by lia,g,fun i I H=>?_⟩
    cases x:bB κ left kk arr base i with
    | false=>rfl
    | true=>rw [pV u I H x]at q;cases q
 ·obtain⟨o,l,h,y,J,a,v,g,f⟩:=r
  have:max 0 n=n:=by lia
  rw [this]at v
  obtain rfl:l=h:=by lia
  exact⟨o,l,y,a,g,f⟩
 ·obtain⟨rfl,l,rfl,a,g,f⟩:=B;exact QD (k l a g f)
theorem p7(u:Up κ arr base n)(p:hint<n)
  (k:∀ t,t<=n->(∀ i,i<t->bB κ left kk arr base i=true)->(∀ i,t<=i->i<n->bB κ left kk arr base i=false)->Q (some t) z):wpS (Zc prog w) A E s (gal left key arr base n hint) Q z:=by
 unfold gal
 show wpS _ _ _ _ (oI left key arr base hint >>= _) Q z
 refine Qt (vK L hz hk ks p ?_);dsimp only
 cases I:bB κ left kk arr base hint with
 | true=>
  simp only [if_true]
  refine Qt (JC (Yw (fun t c e=>e=z/\∃ b a,c=(none,b,a)/\t<a/\b<a/\hint+b<n/\bB κ left kk arr base (hint+b)=true)
   (Q:=fun c e=>e=z/\∃ b a,c=(none,b,a)/\b<a/\hint+b<n/\bB κ left kk arr base (hint+b)=true/\(hint+a<n->bB κ left kk arr base (hint+a)=false))
   (fun t c e _ lt v=>?_) (fun c e v=>?_) ⟨rfl,0,1,rfl,by lia,by lia,by lia,I⟩) fun c e B=>?_)
  ·obtain⟨rfl,b,a,rfl,H,j,g,f⟩:=v;dsimp only;by_cases d:a >= n-hint
   ·rw [if_pos d];exact QD ⟨rfl,b,a,rfl,j,g,f,fun h=>by lia⟩
   ·rw [if_neg d]
    show wpS _ _ _ _ (oI left key arr base (hint+a) >>= _) _ _
    refine Qt (vK L hz hk ks (by lia) ?_);dsimp only
    cases q:bB κ left kk arr base (hint+a)with
    | true=>
     simp only [Q0,Qg,if_false];exact QD ⟨rfl,a,2 * a+1,rfl,by lia,by lia,by lia,q⟩
    | false=>
     simp only [Jr,if_true];exact QD ⟨rfl,b,a,rfl,j,g,f,fun _=>q⟩
  ·obtain⟨o,b,a,y,H,j,g,f⟩:=v
   exact⟨o,b,a,y,j,g,f,fun h=>by lia⟩
  ·obtain⟨rfl,b,a,rfl,j,g,f,x⟩:=B;dsimp only
   suffices p:wpS (Zc prog w) A E s (oJ left key arr base n (hint+b+1) (hint+min a (n-hint))) Q e by
    unfold oJ at p;refine Eq.mp (congrArg (fun m=>wpS (Zc prog w) A E s m Q e) ?_) p;congr 1
    funext c
    obtain⟨r,l,h⟩:=c
    cases r <;> rfl
   refine En L hz hk ks u (by lia) (by lia) (fun i K=>pV u (by lia) g f) (fun i J G=>?_) k
   cases q:bB κ left kk arr base i with
   | false=>rfl
   | true=>
    have F:hint+a<n:=by lia
    rw [pV u (show hint+a<=i by lia) G q]at x;exact absurd (x F) (by decide)
 | false=>
  simp only [Qg,if_false]
  refine Qt (JC (Yw (fun t c e=>e=z/\∃ b a,c=(none,b,a)/\t<a/\b<a/\b<=hint/\bB κ left kk arr base (hint-b)=false)
   (Q:=fun c e=>e=z/\∃ b a,c=(none,b,a)/\b<a/\b<=hint/\bB κ left kk arr base (hint-b)=false/\(a<=hint->bB κ left kk arr base (hint-a)=true))
   (fun t c e _ lt v=>?_) (fun c e v=>?_) ⟨rfl,0,1,rfl,by lia,by lia,by lia,I⟩) fun c e B=>?_)
  ·obtain⟨rfl,b,a,rfl,H,j,g,f⟩:=v;dsimp only;by_cases d:a >= hint+1
   ·rw [if_pos d];exact QD ⟨rfl,b,a,rfl,j,g,f,fun h=>by lia⟩
   ·rw [if_neg d]
    show wpS _ _ _ _ (oI left key arr base (hint-a) >>= _) _ _
    refine Qt (vK L hz hk ks (by lia) ?_);dsimp only
    cases q:bB κ left kk arr base (hint-a)with
    | false=>
     simp only [Qg,if_false];exact QD ⟨rfl,a,2 * a+1,rfl,by lia,by lia,by lia,q⟩
    | true=>
     simp only [if_true];exact QD ⟨rfl,b,a,rfl,j,g,f,fun _=>q⟩
  ·obtain⟨o,b,a,y,H,j,g,f⟩:=v
   exact⟨o,b,a,y,j,g,f,fun h=>by lia⟩
  ·obtain⟨rfl,b,a,rfl,j,g,f,x⟩:=B;dsimp only
   suffices p:wpS (Zc prog w) A E s (oJ left key arr base n (hint+1-min a (hint+1)) (hint-b)) Q e by
    unfold oJ at p;refine Eq.mp (congrArg (fun m=>wpS (Zc prog w) A E s m Q e) ?_) p;congr 1
    funext c
    obtain⟨r,l,h⟩:=c
    cases r <;> rfl
   refine En L hz hk ks u (by lia) (by lia) (fun i K=>?_) (fun i J G=>?_) k
   ·have F:a<=hint:=by lia
    exact pV u (by lia) (by lia) (x F)
   ·cases q:bB κ left kk arr base i with
    | false=>rfl
    | true=>rw [pV u J G q]at f;cases f
end
def kO(κ:KeyKind)(p:Zs):κ.α:=(κ.keyOf p.1).getD κ.dflt
def Rk(κ:KeyKind)(p q:Zs):Prop:=κ.kle (kO κ p) (kO κ q)
structure ML(κ:KeyKind)(T O A B:List Zs):Prop where
 pm:(O++(A++B)).Perm T
 so:O.Pairwise (Rk κ)
 sa:A.Pairwise (Rk κ)
 sb:B.Pairwise (Rk κ)
 oa:∀ p∈O,∀ q∈A,Rk κ p q
 ob:∀ p∈O,∀ q∈B,Rk κ p q
structure MR(κ:KeyKind)(T O A B:List Zs):Prop where
 pm:((A++B)++O).Perm T
 so:O.Pairwise (Rk κ)
 sa:A.Pairwise (Rk κ)
 sb:B.Pairwise (Rk κ)
 oa:∀ p∈O,∀ q∈A,Rk κ q p
 ob:∀ p∈O,∀ q∈B,Rk κ q p
structure Mg(κ:KeyKind)(T O:List Zs):Prop where
 pm:O.Perm T
 so:O.Pairwise (Rk κ)
variable {κ:KeyKind}{T O A B X:List Zs}{x:Zs}
theorem ML.swp(m:ML κ T O A B):ML κ T O B A:=⟨(List.perm_append_comm.append_left O).trans m.pm,m.so,m.sb,m.sa,m.ob,m.oa⟩
theorem MR.swp(m:MR κ T O A B):MR κ T O B A:=⟨(List.perm_append_comm.append_right O).trans m.pm,m.so,m.sb,m.sa,m.ob,m.oa⟩
theorem ML.mv(m:ML κ T O (X++A) B)(h:∀ p∈X,∀ q∈B,Rk κ p q):ML κ T (O++X) A B:=by
 obtain⟨f,d,c⟩:=Q9.mp m.sa
 refine⟨by have:=m.pm;simp only [QG]at this ⊢;exact this,Q9.mpr ⟨m.so,f,fun p b q a=>m.oa p b q (Q2 _ a)⟩,d,m.sb,fun p b q a=>?_,fun p b q a=>?_⟩
 ·rcases QC.mp b with e | e
  ·exact m.oa p e q (Qu _ a)
  ·exact c p e q a
 ·rcases QC.mp b with e | e
  ·exact m.ob p e q a
  ·exact h p e q a
theorem MR.mv(m:MR κ T O A (B++X))(h:∀ p∈X,∀ q∈A,Rk κ q p):MR κ T (X++O) A B:=by
 obtain⟨f,d,c⟩:=Q9.mp m.sb
 refine⟨by have:=m.pm;simp only [QG]at this ⊢;exact this,Q9.mpr ⟨d,m.so,fun p b q a=>m.ob q a p (Qu _ b)⟩,m.sa,f,fun p b q a=>?_,fun p b q a=>?_⟩
 ·rcases QC.mp b with e | e
  ·exact h p e q a
  ·exact m.oa p e q a
 ·rcases QC.mp b with e | e
  ·exact c q a p e
  ·exact m.ob p e q (Q2 _ a)
theorem ML.endB(m:ML κ T O A []):Mg κ T (O++A):=⟨by have:=m.pm;rwa [QP]at this,Q9.mpr ⟨m.so,m.sa,m.oa⟩⟩
theorem MR.endB(m:MR κ T O A []):Mg κ T (A++O):=⟨by have:=m.pm;rwa [QP]at this,Q9.mpr ⟨m.sa,m.so,fun p b q a=>m.oa q a p b⟩⟩
theorem ML.lastA(m:ML κ T O A B)(h:∀ p∈A,∀ q∈B,Rk κ q p):Mg κ T (O++B++A):=
 (ML.endB ((ML.mv (X:=B) (A:=[]) (B:=A) (by rw [QP];exact m.swp) fun p b q a=>h q a p b).swp))
theorem MR.lastB(m:MR κ T O A B)(h:∀ p∈B,∀ q∈A,Rk κ p q):Mg κ T (B++(A++O)):=
 MR.endB (MR.mv (X:=A) (B:=[]) (A:=B) (by rw [JM];exact m.swp) fun p b q a=>h q a p b)
theorem nZ(h:a[i]?=some p):KK κ a i=kO κ p:=by unfold KK;rw [h];rfl
theorem xR(h:p∈a.toList.drop i):∃ j,i+j<a.size/\KK κ a (i+j)=kO κ p:=by
 obtain⟨j,b,e⟩:=JW.mp h;rw [Yg,Qd]at b;rw [List.getElem_drop]at e
 refine⟨j,by lia,nZ ?_⟩
 rw [Qx (by lia),<- e];rfl
theorem xV(h:p∈a.toList.take i):∃ j,j<i/\j<a.size/\KK κ a j=kO κ p:=by
 obtain⟨j,b,e⟩:=JW.mp h;rw [QS,Qd]at b;rw [List.getElem_take]at e
 refine⟨j,by lia,by lia,nZ ?_⟩
 rw [Qx (by lia),<- e];rfl
theorem nW(a:Array Zs)(i j:Nat):(a.extract i j).toList=(a.toList.drop i).take (j-i):=by simp [List.extract]
theorem xU(h:p∈(a.extract i j).toList):∃ k,i<=k/\k<j/\k<a.size/\KK κ a k=kO κ p:=by
 rw [nW]at h;obtain⟨k,b,e⟩:=JW.mp h;rw [QS,Yg,Qd]at b;rw [List.getElem_take,List.getElem_drop]at e
 refine⟨i+k,by lia,by lia,by lia,nZ ?_⟩
 rw [Qx (by lia),<- e];rfl
theorem Hq(a:Array Zs)(i k:Nat):a.toList.drop i=(a.extract i (i+k)).toList++a.toList.drop (i+k):=by
 rw [nW,YZ,<- List.drop_drop,QU]
theorem Hr(a:Array Zs)(h:i<=n):a.toList.take n=a.toList.take i++(a.extract i n).toList:=by
 rw [nW]
 conv=>lhs;rw [show n=i+(n-i) by lia,List.take_add]
theorem Ga{a:Array Zs}{i:Nat}{p:Zs}(h:a[i]?=some p):(a.extract i (i+1)).toList=[p]:=by
 rw [nW,YZ]
 have:a.toList[i]?=some p:=by rw [QA];exact h
 obtain⟨b,e⟩:=Qc.mp this;rw [Yl b,e];rfl
theorem FN{a:Array Zs}{i:Nat}(h:a.size<=i):a.toList.drop i=[]:=Y4 (by rw [Qd];exact h)
theorem u4(a:Array Zs)(i:Nat):(a.extract i a.size).toList=a.toList.drop i:=by
 rw [nW,Y5 (by rw [Yg,Qd];exact Qm _)]
theorem u0(a:Array Zs)(i:Nat):(a.extract 0 i).toList=a.toList.take i:=by rw [nW];rfl
theorem wD(u:Up κ a 0 a.size):a.toList.Pairwise (Rk κ):=by
 rw [YK];intro i j c b lt;have q:=u i j (YQ lt) b;rw [Q3,Q3,nZ (p:=a.toList[i]) (by rw [Qx c];rfl),nZ (p:=a.toList[j]) (by rw [Qx b];rfl)]at q;exact q
theorem Iu(h:a.toList.Pairwise (Rk κ)):Up κ a 0 a.size:=by
 intro i j le lt;rw [Q3,Q3];rcases YV le with e | e
 ·subst e;exact Yr _
 ·have q:=YK.mp h i j (by rw [Qd];lia) (by rw [Qd];exact lt) e;rw [nZ (i:=i) (p:=a.toList[i]'(by rw [Qd];lia)) (by rw [Qx (by lia)];rfl),nZ (i:=j) (p:=a.toList[j]'(by rw [Qd];lia)) (by rw [Qx (by lia)];rfl)];exact q
def MA(κ:KeyKind)(a b out:Array Zs)(i j:Nat):Prop:=ML κ (a.toList++b.toList) out.toList (a.toList.drop i) (b.toList.drop j)
def MZ(κ:KeyKind)(a b out:Array Zs)(n m:Nat):Prop:=MR κ (a.toList++b.toList) out.reverse.toList (a.toList.take n) (b.toList.take m)
def Md(κ:KeyKind)(a b out:Array Zs):Prop:=Mg κ (a.toList++b.toList) out.toList
section
variable {a b out:Array Zs}{i j:Nat}
theorem MA.nil(d:Up κ a 0 a.size)(c:Up κ b 0 b.size):MA κ a b #[] 0 0:=⟨.refl _,.nil,wD d,wD c,(fun _ h=>nomatch h),(fun _ h=>nomatch h)⟩
theorem MZ.nil(d:Up κ a 0 a.size)(c:Up κ b 0 b.size):MZ κ a b #[] a.size b.size:=by
 unfold MZ;rw [<- Qd,<- Qd,List.take_length,List.take_length]
 exact⟨by simp,by simp,wD d,wD c,fun _ h=>by simp at h,fun _ h=>by simp at h⟩
theorem MA.mvA(m:MA κ a b out i j)(d:Up κ b 0 b.size)(h:∀ t,i<=t->t<i+k->t<a.size->j<b.size->κ.kle (KK κ a t) (KK κ b j)):MA κ a b (out++a.extract i (i+k)) (i+k) j:=by
 unfold MA at m ⊢;rw [Hq a i k]at m;rw [Q6];refine m.mv fun p r q o=>?_;obtain⟨t,n,l,g,e⟩:=xU (κ:=κ) r;obtain⟨v,c,f⟩:=xR (κ:=κ) o;unfold Rk;rw [<- e,<- f];refine Yi (h t n l g (by lia)) ?_
 have:=d j (j+v) (by lia) c
 rwa [Q3,Q3]at this
theorem MA.mvB(m:MA κ a b out i j)(d:Up κ a 0 a.size)(h:∀ t,j<=t->t<j+k->t<b.size->i<a.size->κ.kle (KK κ b t) (KK κ a i)):MA κ a b (out++b.extract j (j+k)) i (j+k):=by
 unfold MA at m ⊢;rw [Hq b j k]at m;rw [Q6]
 refine(m.swp.mv fun p r q o=>?_).swp
 obtain⟨t,n,l,g,e⟩:=xU (κ:=κ) r;obtain⟨v,c,f⟩:=xR (κ:=κ) o;unfold Rk;rw [<- e,<- f];refine Yi (h t n l g (by lia)) ?_
 have:=d i (i+v) (by lia) c
 rwa [Q3,Q3]at this
theorem Ip{p:Zs}(h:a[i]?=some p):out.push p=out++a.extract i (i+1):=by
 apply Array.toList_inj.mp;rw [Q6,Ga h,Jw]
theorem MA.a1(m:MA κ a b out i j)(c:Up κ b 0 b.size)(e:a[i]?=some p)(h:j<b.size->κ.kle (KK κ a i) (KK κ b j)):MA κ a b (out.push p) (i+1) j:=by
 rw [Ip e]
 exact m.mvA c fun t g f _ d=>by
  obtain rfl:t=i:=by lia
  exact h d
theorem MA.b1(m:MA κ a b out i j)(c:Up κ a 0 a.size)(e:b[j]?=some p)(h:i<a.size->κ.kle (KK κ b j) (KK κ a i)):MA κ a b (out.push p) i (j+1):=by
 rw [Ip e]
 exact m.mvB c fun t g f _ d=>by
  obtain rfl:t=j:=by lia
  exact h d
theorem MA.done(m:MA κ a b out i j)(h:a.size<=i ∨ b.size<=j):Md κ a b (out++a.extract i a.size++b.extract j b.size):=by
 unfold MA at m;unfold Md;rw [Q6,Q6,u4,u4];rcases h with h | h
 ·rw [FN h]at m ⊢;rw [QP];exact m.swp.endB
 ·rw [FN h]at m ⊢;rw [QP];exact m.endB
theorem MA.last(m:MA κ a b out i j)(h:a.size<=i+1)(k:∀ t,t<b.size->κ.kle (KK κ b t) (KK κ a (a.size-1))):Md κ a b (out++b.extract j b.size++a.extract i a.size):=by
 unfold MA at m;unfold Md;rw [Q6,Q6,u4,u4];refine m.lastA fun p g q d=>?_;obtain⟨t,l,e⟩:=xR (κ:=κ) g;obtain⟨v,c,f⟩:=xR (κ:=κ) d;unfold Rk;rw [<- e,<- f,show i+t=a.size-1 by lia];exact k _ c
variable {n m:Nat}
theorem MZ.mvA(q:MZ κ a b out n m)(c:Up κ b 0 b.size)(u:m<=b.size)(o:i<=n)(h:∀ t,i<=t->t<n->t<a.size->0<m->κ.kle (KK κ b (m-1)) (KK κ a t)):MZ κ a b (out++(a.extract i n).reverse) i m:=by
 unfold MZ at q ⊢;rw [Hr a o]at q;rw [Array.reverse_append,Array.reverse_reverse,Q6]
 refine(q.swp.mv fun p l q k=>?_).swp
 obtain⟨t,j,g,d,e⟩:=xU (κ:=κ) l;obtain⟨v,s,r,f⟩:=xV (κ:=κ) k;unfold Rk;rw [<- e,<- f];refine Yi ?_ (h t j g d (by lia))
 have:=c v (m-1) (by lia) (by lia)
 rwa [Q3,Q3]at this
theorem MZ.mvB(q:MZ κ a b out n m)(c:Up κ a 0 a.size)(u:n<=a.size)(o:i<=m)(h:∀ t,i<=t->t<m->t<b.size->0<n->κ.kle (KK κ a (n-1)) (KK κ b t)):MZ κ a b (out++(b.extract i m).reverse) n i:=by
 unfold MZ at q ⊢;rw [Hr b o]at q;rw [Array.reverse_append,Array.reverse_reverse,Q6]
 refine(q.mv fun p l q k=>?_)
 obtain⟨t,j,g,d,e⟩:=xU (κ:=κ) l;obtain⟨v,s,r,f⟩:=xV (κ:=κ) k;unfold Rk;rw [<- e,<- f];refine Yi ?_ (h t j g d (by lia))
 have:=c v (n-1) (by lia) (by lia)
 rwa [Q3,Q3]at this
theorem Iq{p:Zs}(h:a[i]?=some p):out.push p=out++(a.extract i (i+1)).reverse:=by
 apply Array.toList_inj.mp;rw [Q6,Array.toList_reverse,Ga h,Jw];rfl
theorem MZ.a1(q:MZ κ a b out n m)(c:Up κ b 0 b.size)(d:m<=b.size)(k:0<n)(e:a[n-1]?=some p)(h:0<m->κ.kle (KK κ b (m-1)) (KK κ a (n-1))):MZ κ a b (out.push p) (n-1) m:=by
 rw [Iq e]
 have g:n-1+1=n:=by lia
 rw [g]
 exact q.mvA c d (by lia) fun t j i _ f=>by
  obtain rfl:t=n-1:=by lia
  exact h f
theorem MZ.b1(q:MZ κ a b out n m)(c:Up κ a 0 a.size)(d:n<=a.size)(k:0<m)(e:b[m-1]?=some p)(h:0<n->κ.kle (KK κ a (n-1)) (KK κ b (m-1))):MZ κ a b (out.push p) n (m-1):=by
 rw [Iq e]
 have g:m-1+1=m:=by lia
 rw [g]
 exact q.mvB c d (by lia) fun t j i _ f=>by
  obtain rfl:t=m-1:=by lia
  exact h f
theorem MZ.done(q:MZ κ a b out n m)(h:n=0 ∨ m=0):Md κ a b (a.extract 0 n++b.extract 0 m++out.reverse):=by
 unfold MZ at q;unfold Md;rw [Q6,Q6,u0,u0];rcases h with h | h
 ·subst h;exact q.swp.endB
 ·subst h;rw [List.take_zero]at q ⊢;rw [QP];exact q.endB
theorem MZ.last(q:MZ κ a b out n m)(h:m<=1)(i:∀ t,t<a.size->κ.kle (KK κ b 0) (KK κ a t)):Md κ a b (b.extract 0 m++a.extract 0 n++out.reverse):=by
 unfold MZ at q;unfold Md;rw [Q6,Q6,u0,u0,QG];refine q.lastB fun p g q d=>?_;obtain⟨t,l,k,e⟩:=xV (κ:=κ) g;obtain⟨v,j,c,f⟩:=xV (κ:=κ) d;unfold Rk;rw [<- e,<- f,show t=0 by lia];exact i _ c
end
end TS
namespace TS
open SG
def Dv:Array Zs->Array Zs->StateT ZJ Sem (Array Zs):=sortPriv% PySem.Builtin.mergeLo
def Du:Array Zs->Array Zs->StateT ZJ Sem (Array Zs):=sortPriv% PySem.Builtin.mergeHi
def sG:Nat->StateT ZJ Sem Unit:=sortPriv% PySem.Builtin.setMinGallop
abbrev HP(st:ZJ)(g:Nat):ZJ:=SortSt.mk' (kindOf st) (Zg st) (Zu st) g (Uq st)
structure Zq(z y:ZJ):Prop where
 kd:kindOf y=kindOf z
 ar:Zg y=Zg z
 pe:Zu y=Zu z
 fa:Uq y=Uq z
theorem Zq.rfl:Zq z z:=⟨.refl _,.refl _,.refl _,.refl _⟩
theorem Zq.gal(q:Zq z y)(g:Nat):Zq z (HP y g):=⟨q.kd,q.ar,q.pe,q.fa⟩
section
variable {prog:Zd}{w:Zf}{A:Around}{E:YP->J9->Prop}{s:J9}{κ:KeyKind}{kd:Z2}
theorem uT(k:Q () (HP z g)):wpS (Zc prog w) A E s (sG g) Q z:=by
 unfold sG;exact J6 k
theorem bY{a:Type}{p:Prop}[Decidable p]{m n:StateT ZJ Sem a}{z:ZJ}{Q:a->ZJ->Prop}(d:p->wpS (Zc prog w) A E s m Q z)(b:¬p->wpS (Zc prog w) A E s n Q z):wpS (Zc prog w) A E s (if p then m else n) Q z:=by
 by_cases c:p
 ·rw [if_pos c];exact d c
 ·rw [if_neg c];exact b c
theorem iE(c:KeysOf κ a)(h:i<a.size):∃ p x,a[i]?=some p/\κ.keyOf p.1=some x/\KK κ a i=x:=by
 obtain⟨x,b⟩:=c a[i] (by simp)
 refine⟨a[i],x,getElem?_pos a i h,b,?_⟩
 unfold KK;rw [getElem?_pos a i h];simp [b]
theorem qB(b:KeysOf κ a)(h:i+n<=a.size):Ks κ a i n:=fun j c=>iE b (by lia)
theorem wA(u:Up κ a 0 a.size)(h:i+n<=a.size):Up κ a i n:=fun x y le lt=>by
 have:=u (i+x) (i+y) (by lia) (by lia)
 rwa [Q3,Q3]at this
theorem vH(h:bB κ false kk arr base i=true):κ.kle (KK κ arr (base+i)) kk:=by
 unfold bB at h;rw [if_neg Qr,YD]at h;exact h
theorem A9(h:bB κ false kk arr base i=false):κ.kle kk (KK κ arr (base+i)):=by
 unfold bB at h;rw [if_neg Qr,Bool.not_eq_false']at h;exact Y3 h
theorem vI(h:bB κ true kk arr base i=true):κ.kle (KK κ arr (base+i)) kk:=by
 unfold bB at h;rw [if_pos rfl]at h;exact Y3 h
theorem vJ(h:bB κ true kk arr base i=false):κ.kle kk (KK κ arr (base+i)):=by
 unfold bB at h;rw [if_pos rfl]at h;exact h
variable {a b:Array Zs}{z:ZJ}
theorem LJ(L:fW prog w A s κ kd)(hz:kindOf z=kd)(ka:KeysOf κ a)(kb:KeysOf κ b)(T:Up κ a 0 a.size)(S:Up κ b 0 b.size)(ha:0<a.size)(hb:0<b.size)
  (h1:κ.kle (KK κ b 0) (KK κ a 0)) (h2:∀ t,t<b.size->κ.kle (KK κ b t) (KK κ a (a.size-1))) (k:∀ out y,Md κ a b out->Zq z y->Q out y):wpS (Zc prog w) A E s (Dv a b) Q z:=by
 unfold Dv
 show wpS _ _ _ _ (_ >>= _) Q z
 refine Qt (Vp (Jm ⟨rfl,?_⟩));obtain⟨p0,x0,e0,-,-⟩:=iE kb hb;refine Qt (dN e0 ?_);dsimp only;have m0:MA κ a b #[p0] 0 1:=(MA.nil T S).b1 T e0 fun _=>h1;refine bY (fun c=>QD (k _ _ (m0.done (Zl (by have:=beq_iff_eq.mp c;lia))) Zq.rfl)) fun H=>?_;refine bY (fun c=>QD (k _ _ (m0.last (by have:=beq_iff_eq.mp c;lia) h2) Zq.rfl)) fun K=>?_
 have g1:1<b.size:=by rw [beq_iff_eq]at H;lia
 have g2:0+1<a.size:=by rw [beq_iff_eq]at K;lia
 refine Qt (UU ?_)
 refine Qt (JC (Yw (fun t c y=>Zq z y/\∃ out i j g,c=(none,out,i,j,g)/\MA κ a b out i j/\i+1<a.size/\j<b.size/\t<i+j)
  (Q:=fun c y=>Zq z y/\∃ r,c.fst=some r/\Md κ a b r)
  (fun t c y _ lt I=>?_) (fun c y I=>?_) ⟨Zq.rfl,#[p0],0,1,_,rfl,m0,g2,g1,by lia⟩) fun c y Z=>?_)
 ·obtain⟨d,out,i,j,g,o,m,f,l,n⟩:=I;subst o;dsimp only;have hy:kindOf y=kd:=d.kd.trans hz;clear m0 H K
  refine Qt (JC (Yw (fun u c J=>J=y/\∃ out i j F B,c=(none,out,i,j,F,B)/\MA κ a b out i j/\i+1<a.size/\j<b.size/\t<i+j)
   (Q:=fun c J=>J=y/\∃ r out i j F B,c=(r,out,i,j,F,B)/\(∀ v,r=some v->Md κ a b v)/\(r=none->MA κ a b out i j/\i+1<a.size/\j<b.size/\t<i+j))
   (fun u c J _ lt I=>?_) (fun c J I=>?_) ⟨rfl,out,i,j,0,0,rfl,m,f,l,n⟩) fun c J Z=>?_)
  ·clear m f l n;obtain⟨e,out,i,j,F,B,o,m,f,l,n⟩:=I;subst e o;dsimp only;obtain⟨p,x,R,e2,e3⟩:=iE kb l;obtain⟨q,x',M,f2,W⟩:=iE ka (show i<a.size by lia);refine Qt (dN R (Qt (dN M (Qt (rA L hy e2 f2 ?_)))));dsimp only;refine bY (fun c=>?_) fun c=>?_
   ·have N:=m.b1 T R fun _=>by rw [e3,W];exact Y3 c
    refine Qt (dN R ?_);refine bY (fun c=>QD ⟨rfl,_,_,_,_,_,_,rfl,fun v G=>?_,nofun⟩) fun H=>?_
    ·cases G;exact N.done (Zl (by have:=beq_iff_eq.mp c;lia))
    ·have g1:j+1<b.size:=by rw [beq_iff_eq]at H;lia
     exact bY (fun _=>QD ⟨rfl,_,_,_,_,_,_,rfl,nofun,fun _=>⟨N,f,g1,by lia⟩⟩) fun _=>QD ⟨rfl,_,_,_,_,_,rfl,N,f,g1,by lia⟩
   ·have N:=m.a1 S M fun _=>by rw [e3,W];exact KeyOrd.kle_of_not_klt c
    refine Qt (dN M ?_);refine bY (fun c=>QD ⟨rfl,_,_,_,_,_,_,rfl,fun v G=>?_,nofun⟩) fun H=>?_
    ·cases G;exact N.last (by have:=beq_iff_eq.mp c;lia) h2
    ·have g1:i+1+1<a.size:=by rw [beq_iff_eq]at H;lia
     exact bY (fun _=>QD ⟨rfl,_,_,_,_,_,_,rfl,nofun,fun _=>⟨N,g1,l,by lia⟩⟩) fun _=>QD ⟨rfl,_,_,_,_,_,rfl,N,g1,l,by lia⟩
  ·obtain⟨e,out,i,j,F,B,o,m,f,l,n⟩:=I
   exact⟨e,none,out,i,j,F,B,o,nofun,fun _=>⟨m,f,l,n⟩⟩
  ·clear m f l n;obtain⟨e,r,out,i,j,F,B,o,Y,hn⟩:=Z;subst e o
   cases r with
   | some r=>exact QD ⟨d,r,rfl,Y r rfl⟩
   | none=>
    dsimp only;obtain⟨m,f,l,n⟩:=hn rfl;refine Qt (Vp (Jm ⟨rfl,?_⟩))
    refine Qt (JC (Yw (fun u c y=>Zq z y/\∃ out i j g F B,c=(none,out,i,j,g,F,B)/\MA κ a b out i j/\i+1<a.size/\j<b.size/\t+u<i+j)
     (Q:=fun c y=>Zq z y/\∃ r out i j g F B,c=(r,out,i,j,g,F,B)/\(∀ v,r=some v->Md κ a b v)/\(r=none->MA κ a b out i j/\i+1<a.size/\j<b.size/\t+1<i+j))
     (fun u c J _ lt I=>?_) (fun c J I=>?_) ⟨d,out,i,j,_,F,B,rfl,m,f,l,n⟩) fun c J Z=>?_)
    ·clear m f l n d hy;obtain⟨d,out,i,j,g,F,B,o,m,f,l,n⟩:=I;subst o;dsimp only;obtain⟨p,x,R,e2,e3⟩:=iE kb l;refine bY (fun _=>?_) fun _=>?_
     all_goals
      refine Qt (uT (Qt (dN R (Qt (p7 (left:=false) L ((d.gal _).kd.trans hz) e2 (qB ka (by lia)) (wA T (by lia)) (by lia) fun O a3 b1 b2=>?_)))));dsimp only
      have X:=m.mvA S (k:=O) fun v v1 v2 _ _=>by
       have:=vH (b1 (v-i) (by lia))
       rw [show i+(v-i)=v by lia]at this;rw [e3];exact this
      have m2:i+O<a.size->κ.kle (KK κ b j) (KK κ a (i+O)):=fun h=>by rw [e3];exact A9 (b2 O (Qm _) (by lia))
      clear b1 b2;refine bY (fun ck=>?_) fun ck=>?_;refine bY (fun c=>QD ⟨d.gal _,_,_,_,_,_,_,_,rfl,fun v G=>?_,nofun⟩) fun H=>?_
      ·cases G;exact X.last (by have:=beq_iff_eq.mp c;lia) h2
      refine bY (fun c=>QD ⟨d.gal _,_,_,_,_,_,_,_,rfl,fun v G=>?_,nofun⟩) fun K=>?_
      ·cases G;exact X.done (Zx (by have:=beq_iff_eq.mp c;lia))
      have g1:i+O+1<a.size:=by rw [beq_iff_eq]at H K;lia
      have a0:t+u<i+O+j:=by lia
      clear H K ck f n
      rotate_left
      obtain rfl:O=0:=by lia
      clear X;have X:=m;rw [JY]at m2;have g1:=f;have a0:=n;clear ck f n
      all_goals
       obtain⟨q,x',M,f2,W⟩:=iE ka (Nat.lt_of_succ_lt g1);have m3:=X.b1 T R m2;refine Qt (dN R ?_);refine bY (fun c=>QD ⟨d.gal _,_,_,_,_,_,_,_,rfl,fun v G=>?_,nofun⟩) fun H=>?_
       ·cases G;exact m3.done (Zl (by have:=beq_iff_eq.mp c;lia))
       have g2:j+1<b.size:=by rw [beq_iff_eq]at H;lia
       refine Qt (dN M (Qt (p7 (left:=true) L ((d.gal _).kd.trans hz) f2 (qB kb (by lia)) (wA S (by lia)) (by lia) fun U a2 b1 b2=>?_)));dsimp only
       have m4:=m3.mvB T (k:=U) fun v v1 v2 _ _=>by
        have:=vI (b1 (v-(j+1)) (by lia))
        rw [show j+1+(v-(j+1))=v by lia]at this;rw [W];exact this
       have m5:j+1+U<b.size->κ.kle x' (KK κ b (j+1+U)):=fun h=>vJ (b2 U (Qm _) (by lia));clear b1 b2 H;refine bY (fun ck=>?_) fun ck=>?_;refine bY (fun c=>QD ⟨d.gal _,_,_,_,_,_,_,_,rfl,fun v G=>?_,nofun⟩) fun K=>?_
       ·cases G;exact m4.done (Zl (by have:=beq_iff_eq.mp c;lia))
       have g3:j+1+U<b.size:=by rw [beq_iff_eq]at K;lia
       have m6:=m4.a1 S M fun h=>by rw [W];exact m5 h
       rotate_left
       obtain rfl:U=0:=by lia
       have g3:=g2
       have m6:=m3.a1 S M fun h=>by rw [W];exact m5 h
       all_goals
        refine Qt (dN M ?_);refine bY (fun c=>QD ⟨d.gal _,_,_,_,_,_,_,_,rfl,fun v G=>?_,nofun⟩) fun K=>?_
        ·cases G;exact m6.last (by have:=beq_iff_eq.mp c;lia) h2
        rw [beq_iff_eq]at K;exact bY (fun _=>QD ⟨d.gal _,_,_,_,_,_,_,_,rfl,nofun,fun _=>⟨m6,by lia,g3,by lia⟩⟩) fun _=>QD ⟨d.gal _,_,_,_,_,_,_,rfl,m6,by lia,g3,by lia⟩
    ·obtain⟨d,out,i,j,g,F,B,o,m,f,l,n⟩:=I
     exact⟨d,none,out,i,j,g,F,B,o,nofun,fun _=>⟨m,f,l,by lia⟩⟩
    ·clear m f l n d hy;obtain⟨d,r,out,i,j,g,F,B,o,Y,hn⟩:=Z;subst o
     cases r with
     | some r=>exact QD ⟨d,r,rfl,Y r rfl⟩
     | none=>
      dsimp only;obtain⟨m,f,l,n⟩:=hn rfl;exact Qt (uT (QD ⟨d.gal _,out,i,j,_,rfl,m,f,l,by lia⟩))
 ·obtain⟨d,out,i,j,g,o,m,f,l,n⟩:=I;lia
 ·obtain⟨d,r,o,Y⟩:=Z;obtain⟨r',c⟩:=c;dsimp only at o;subst o;exact QD (k _ _ Y d)
end
section
variable {prog:Zd}{w:Zf}{A:Around}{E:YP->J9->Prop}{s:J9}{κ:KeyKind}{kd:Z2}
variable {a b:Array Zs}{z:ZJ}
theorem Lq(L:fW prog w A s κ kd)(hz:kindOf z=kd)(ka:KeysOf κ a)(kb:KeysOf κ b)(Y:Up κ a 0 a.size)(S:Up κ b 0 b.size)(ha:0<a.size)(hb:0<b.size)
  (h1:∀ t,t<a.size->κ.kle (KK κ b 0) (KK κ a t)) (h2:κ.kle (KK κ b (b.size-1)) (KK κ a (a.size-1))) (k:∀ out y,Md κ a b out->Zq z y->Q out y):wpS (Zc prog w) A E s (Du a b) Q z:=by
 unfold Du
 show wpS _ _ _ _ (_ >>= _) Q z
 refine Qt (Vp (Jm ⟨rfl,?_⟩));obtain⟨p0,x0,e0,-,-⟩:=iE ka (show a.size-1<a.size by lia);refine Qt (dN e0 ?_);dsimp only;have m0:MZ κ a b #[p0] (a.size-1) b.size:=(MZ.nil Y S).a1 S (Qm _) ha e0 fun _=>h2;refine bY (fun c=>QD (k _ _ (m0.done (Zx (beq_iff_eq.mp c))) Zq.rfl)) fun O=>?_;refine bY (fun c=>QD (k _ _ (m0.last (by have:=beq_iff_eq.mp c;lia) h1) Zq.rfl)) fun M=>?_
 have g1:0<a.size-1:=by rw [beq_iff_eq]at O;lia
 have g2:1<b.size:=by rw [beq_iff_eq]at M;lia
 refine Qt (UU ?_)
 refine Qt (JC (Yw (fun t c y=>Zq z y/\∃ i j out g,c=(none,i,j,out,g)/\MZ κ a b out i j/\0<i/\i<=a.size/\1<j/\j<=b.size/\i+j+t<a.size+b.size)
  (Q:=fun c y=>Zq z y/\∃ r,c.fst=some r/\Md κ a b r)
  (fun t c y _ lt K=>?_) (fun c y K=>?_) ⟨Zq.rfl,_,_,#[p0],_,rfl,m0,g1,by lia,g2,Qm _,by lia⟩) fun c y hQ=>?_)
 ·obtain⟨n,i,j,out,g,B,m,o,f,F,d,I⟩:=K;subst B;dsimp only;have hy:kindOf y=kd:=n.kd.trans hz;clear m0 O M
  refine Qt (JC (Yw (fun u c N=>N=y/\∃ i j out H G,c=(none,i,j,out,H,G)/\MZ κ a b out i j/\0<i/\i<=a.size/\1<j/\j<=b.size/\i+j+t<a.size+b.size)
   (Q:=fun c N=>N=y/\∃ r i j out H G,c=(r,i,j,out,H,G)/\(∀ v,r=some v->Md κ a b v)/\(r=none->MZ κ a b out i j/\0<i/\i<=a.size/\1<j/\j<=b.size/\i+j+t<a.size+b.size))
   (fun u c N _ lt K=>?_) (fun c N K=>?_) ⟨rfl,i,j,out,0,0,rfl,m,o,f,F,d,I⟩) fun c N hQ=>?_)
  ·clear m o f F d I;obtain⟨e,i,j,out,H,G,B,m,o,f,F,d,I⟩:=K;subst e B;dsimp only;obtain⟨p,x,W,e2,e3⟩:=iE kb (show j-1<b.size by lia);obtain⟨q,x',R,f2,X⟩:=iE ka (show i-1<a.size by lia);refine Qt (dN W (Qt (dN R (Qt (rA L hy e2 f2 ?_)))));dsimp only;refine bY (fun c=>?_) fun c=>?_
   ·have T:=m.a1 S d o R fun _=>by rw [e3,X];exact Y3 c
    refine Qt (dN R ?_);refine bY (fun c=>QD ⟨rfl,_,_,_,_,_,_,rfl,fun v J=>?_,nofun⟩) fun O=>?_
    ·cases J;exact T.done (Zx (beq_iff_eq.mp c))
    ·have g1:0<i-1:=by rw [beq_iff_eq]at O;lia
     exact bY (fun _=>QD ⟨rfl,_,_,_,_,_,_,rfl,nofun,fun _=>⟨T,g1,by lia,F,d,by lia⟩⟩) fun _=>QD ⟨rfl,_,_,_,_,_,rfl,T,g1,by lia,F,d,by lia⟩
   ·have T:=m.b1 Y f (by lia) W fun _=>by rw [e3,X];exact KeyOrd.kle_of_not_klt c
    refine Qt (dN W ?_);refine bY (fun c=>QD ⟨rfl,_,_,_,_,_,_,rfl,fun v J=>?_,nofun⟩) fun O=>?_
    ·cases J;exact T.last (by have:=beq_iff_eq.mp c;lia) h1
    ·have g1:1<j-1:=by rw [beq_iff_eq]at O;lia
     exact bY (fun _=>QD ⟨rfl,_,_,_,_,_,_,rfl,nofun,fun _=>⟨T,o,f,g1,by lia,by lia⟩⟩) fun _=>QD ⟨rfl,_,_,_,_,_,rfl,T,o,f,g1,by lia,by lia⟩
  ·obtain⟨e,i,j,out,H,G,B,m,l⟩:=K
   exact⟨e,none,i,j,out,H,G,B,nofun,fun _=>⟨m,l⟩⟩
  ·clear m o f F d I;obtain⟨e,r,i,j,out,H,G,B,Z,hn⟩:=hQ;subst e B
   cases r with
   | some r=>exact QD ⟨n,r,rfl,Z r rfl⟩
   | none=>
    dsimp only;obtain⟨m,o,f,F,d,I⟩:=hn rfl;refine Qt (Vp (Jm ⟨rfl,?_⟩))
    refine Qt (JC (Yw (fun u c y=>Zq z y/\∃ i j out g H G,c=(none,i,j,out,g,H,G)/\MZ κ a b out i j/\0<i/\i<=a.size/\1<j/\j<=b.size/\i+j+t+u<a.size+b.size)
     (Q:=fun c y=>Zq z y/\∃ r i j out g H G,c=(r,i,j,out,g,H,G)/\(∀ v,r=some v->Md κ a b v)/\(r=none->MZ κ a b out i j/\0<i/\i<=a.size/\1<j/\j<=b.size/\i+j+t+1<a.size+b.size))
     (fun u c N _ lt K=>?_) (fun c N K=>?_) ⟨n,i,j,out,_,H,G,rfl,m,o,f,F,d,I⟩) fun c N hQ=>?_)
    ·clear m o f F d I n hy;obtain⟨n,i,j,out,g,H,G,B,m,o,f,F,d,I⟩:=K;subst B;dsimp only;obtain⟨p,x,W,e2,e3⟩:=iE kb (show j-1<b.size by lia);refine bY (fun _=>?_) fun _=>?_
     all_goals
      refine Qt (uT (Qt (dN W (Qt (p7 (left:=false) L ((n.gal _).kd.trans hz) e2 (qB ka (by lia)) (wA Y (by lia)) (by lia) fun k1 a3 b1 b2=>?_)))));dsimp only
      have m1:=m.mvA S d (i:=k1) a3 fun v v1 v2 _ _=>by
       have:=A9 (b2 v v1 v2)
       rw [Q3]at this;rw [e3];exact this
      have m2:0<k1->κ.kle (KK κ a (k1-1)) (KK κ b (j-1)):=fun h=>by
       have:=vH (b1 (k1-1) (by lia))
       rw [Q3]at this;rw [e3];exact this
      clear b1 b2;refine bY (fun ck=>?_) fun ck=>?_;refine bY (fun c=>QD ⟨n.gal _,_,_,_,_,_,_,_,rfl,fun v J=>?_,nofun⟩) fun M=>?_
      ·cases J;exact m1.done (Zx (beq_iff_eq.mp c))
      have g1:0<k1:=by rw [beq_iff_eq]at M;lia
      have U:k1<=a.size:=by lia
      have a0:k1+j+t+u<a.size+b.size:=by lia
      clear M ck o I
      rotate_left
      obtain rfl:k1=i:=by lia
      clear m1;have m1:=m;have g1:=o;have U:=f;have a0:=I;clear ck o I
      all_goals
       obtain⟨q,x',R,f2,X⟩:=iE ka (show k1-1<a.size by lia);have m3:=m1.b1 Y U (by lia) W m2;refine Qt (dN W ?_);refine bY (fun c=>QD ⟨n.gal _,_,_,_,_,_,_,_,rfl,fun v J=>?_,nofun⟩) fun O=>?_
       ·cases J;exact m3.last (by have:=beq_iff_eq.mp c;lia) h1
       have g2:1<j-1:=by rw [beq_iff_eq]at O;lia
       refine Qt (dN R (Qt (p7 (left:=true) L ((n.gal _).kd.trans hz) f2 (qB kb (by lia)) (wA S (by lia)) (by lia) fun k2 a2 b1 b2=>?_)));dsimp only
       have m4:=m3.mvB Y U (i:=k2) a2 fun v v1 v2 _ _=>by
        have:=vJ (b2 v v1 v2)
        rw [Q3]at this;rw [X];exact this
       have m5:0<k2->κ.kle (KK κ b (k2-1)) x':=fun h=>by
        have:=vI (b1 (k2-1) (by lia))
        rw [Q3]at this;exact this
       clear b1 b2 O;refine bY (fun ck=>?_) fun ck=>?_;refine bY (fun c=>QD ⟨n.gal _,_,_,_,_,_,_,_,rfl,fun v J=>?_,nofun⟩) fun M=>?_
       ·cases J;exact m4.last (by have:=beq_iff_eq.mp c;lia) h1
       refine bY (fun c=>QD ⟨n.gal _,_,_,_,_,_,_,_,rfl,fun v J=>?_,nofun⟩) fun c3=>?_
       ·cases J;exact m4.done (Zl (beq_iff_eq.mp c))
       have g3:1<k2:=by rw [beq_iff_eq]at M c3;lia
       have m6:=m4.a1 S (by lia) g1 R fun h=>by rw [X];exact m5 h
       clear M c3
       rotate_left
       obtain rfl:k2=j-1:=by lia
       have g3:=g2
       have m6:=m3.a1 S (by lia) g1 R fun h=>by rw [X];exact m5 h
       all_goals
        refine Qt (dN R ?_);refine bY (fun c=>QD ⟨n.gal _,_,_,_,_,_,_,_,rfl,fun v J=>?_,nofun⟩) fun M=>?_
        ·cases J;exact m6.done (Zx (beq_iff_eq.mp c))
        rw [beq_iff_eq]at M;exact bY (fun _=>QD ⟨n.gal _,_,_,_,_,_,_,_,rfl,nofun,fun _=>⟨m6,by lia,by lia,g3,by lia,by lia⟩⟩) fun _=>QD ⟨n.gal _,_,_,_,_,_,_,rfl,m6,by lia,by lia,g3,by lia,by lia⟩
    ·obtain⟨n,i,j,out,g,H,G,B,m,o,f,F,d,I⟩:=K
     exact⟨n,none,i,j,out,g,H,G,B,nofun,fun _=>⟨m,o,f,F,d,by lia⟩⟩
    ·clear m o f F d I n hy;obtain⟨n,r,i,j,out,g,H,G,B,Z,hn⟩:=hQ;subst B
     cases r with
     | some r=>exact QD ⟨n,r,rfl,Z r rfl⟩
     | none=>
      dsimp only;obtain⟨m,o,f,F,d,I⟩:=hn rfl;exact Qt (uT (QD ⟨n.gal _,i,j,out,_,rfl,m,o,f,F,d,by lia⟩))
 ·obtain⟨n,i,j,out,g,B,m,o,f,F,d,I⟩:=K;lia
 ·obtain⟨n,r,B,Z⟩:=hQ;obtain⟨r',c⟩:=c;dsimp only at B;subst B;exact QD (k _ _ Z n)
end
theorem Ff(base:Nat):∀(M X P S:List Zs) (n:Nat) (arr:Array Zs),M.length=X.length->P.length=base+n->arr.toList=P++(X++S)->
  ((M.zipIdx n).foldl (fun a x=>a.setIfInBounds (base+x.snd) x.fst) arr).toList=P++(M++S)
 | [],X,P,S,n,arr,h,hp,e=>by
  obtain rfl:X=[]:=List.length_eq_zero_iff.mp h.symm
  exact e
 | p::M,X,P,S,n,arr,h,hp,e=>by
  cases X with
  | nil=>cases h
  | cons x X=>
   rw [List.zipIdx_cons,YR]
   have:=Ff base M X (P++[p]) S (n+1) (arr.setIfInBounds (base+n) p) (Nat.succ.inj h) (by rw [Qo,hp];rfl) (by
    rw [Array.toList_setIfInBounds,e,<- hp,List.set_append_right _ _ (Qm _),Nat.sub_self,QG]
    rfl)
   rw [this,QG];rfl
variable {κ:KeyKind}
theorem xH(e:arr.toList=l):KK κ arr v=((l[v]?).map (kO κ)).getD κ.dflt:=by
 subst e;unfold KK;rw [QA]
 cases arr[v]? <;> rfl
theorem wE(e:arr.toList=U++(S++V)):Up κ arr U.length S.length ↔ S.Pairwise (Rk κ):=by
 have a:∀ i (h:i<S.length),KK κ arr (U.length+i)=kO κ S[i]:=fun i h=>by
  rw [xH e,QI (QV _ _),YZ,QR h,Qe h];rfl
 constructor
 ·intro u;rw [YK];intro i j d b lt
  have:=u i j (YQ lt) b
  rw [a i d,a j b]at this;exact this
 ·intro h i j le lt;rw [a i (by lia),a j lt];rcases YV le with c | c
  ·subst c;exact Yr _
  ·exact YK.mp h i j (by lia) lt c
theorem PC(e:arr.toList=U++(S++V))(b:arr'.toList=U++(S'++V))(a:S'.length=S.length)(h:v<U.length ∨ U.length+S.length<=v):KK κ arr' v=KK κ arr v:=by
 rw [xH e,xH b];congr 2;rcases h with h | h
 ·rw [QR h,QR h]
 ·rw [QI (by lia),QI (by lia),QI (by lia),QI (by lia),a]
theorem KO(l:List Zs)(h:i+n<=l.length):∃ U S V,l=U++(S++V)/\U.length=i/\S.length=n:=
 ⟨l.take i,(l.drop i).take n,(l.drop i).drop n,by rw [QU,QU],by rw [QS];lia,by rw [QS,Yg];lia⟩
theorem Gb{a:Array Zs}{U S V:List Zs}(e:a.toList=U++(S++V)){i j:Nat}(c:i=U.length)(b:j=U.length+S.length):(a.extract i j).toList=S:=by
 rw [nW,e,c,b,List.drop_left,YZ,List.take_left]
def x6(p:Array (Nat × Nat × Nat))(i:Nat)(a b:Nat × Nat × Nat):Array (Nat × Nat × Nat):=(p.setIfInBounds i (a.1,a.2.1+b.2.1,a.2.2)).eraseIdxIfInBounds (i+1)
section
variable {prog:Zd}{w:Zf}{A:Around}{E:YP->J9->Prop}{s:J9}{kd:Z2}{z:ZJ}{src:Array Zs}
theorem M7(k:∀ y0,y0=y->Q ⟨⟩ y0):wpS (Zc prog w) A E s (set y:StateT ZJ Sem PUnit) Q z:=by
 exact J6 (f:=fun _=>y) (k y rfl)
theorem G2(h:t<j-i)(a:j<=arr.size):KK κ (arr.extract i j) t=KK κ arr (i+t):=by
 refine KK_congr ?_;rw [Array.getElem?_extract,if_pos (by lia)]
theorem mL(e:arr.toList=U++(S++V))(h:p∈S):∃ v,v<S.length/\KK κ arr (U.length+v)=kO κ p:=by
 obtain⟨v,a,q⟩:=JW.mp h
 refine⟨v,a,?_⟩
 rw [xH e,QI (QV _ _),YZ,QR a,Qe a,q];rfl
theorem Cb{a x:Array Zs}(all:KeysOf κ src)(b:a.Perm src)(h:∀ p,p∈x.toList->p∈a.toList):KeysOf κ x:=fun p c=>all p ((Y2.mp b).mem_iff.mp (h p c))
theorem LL{i:Nat}{Q:Bool->ZJ->Prop}{l j:Nat × Nat × Nat}(L:fW prog w A s κ kd)(all:KeysOf κ src)(f:Ft src kd z)(e1:(Zu z)[i]?=some l)(e2:(Zu z)[i+1]?=some j)
  (n1:0<l.2.1) (n2:0<j.2.1) (nx:j.1=l.1+l.2.1) (sz:j.1+j.2.1<=src.size) (u1:Up κ (Zg z) l.1 l.2.1) (T:Up κ (Zg z) j.1 j.2.1)
  (k:∀ y,Ft src kd y->Zu y=x6 (Zu z) i l j->Up κ (Zg y) l.1 (l.2.1+j.2.1)->(∀ v,v<l.1 ∨ j.1+j.2.1<=v->KK κ (Zg y) v=KK κ (Zg z) v)->Q true y):
  wpS (Zc prog w) A E s (mergeAt' i) Q z:=by
 have al:=f.len;unfold mergeAt'
 show wpS _ _ _ _ (_ >>= _) Q z
 refine Qt (UU ?_);dsimp only;split
 rotate_left
 ·rename_i hn;obtain⟨s1,c1,w1⟩:=l;obtain⟨s2,c2,w2⟩:=j;exact absurd (JL e1 e2) (hn s1 c1 w1 s2 c2 w2)
 rename_i sa J pw sb nb X he
 obtain rfl:l=(sa,J,pw):=QB (e1.symm.trans (congrArg Prod.fst he))
 obtain rfl:j=(sb,nb,X):=QB (e2.symm.trans (congrArg Prod.snd he))
 clear he;dsimp only at n1 n2 nx sz u1 T k;subst nx;refine Qt (M7 fun y0 Z=>?_)
 have N:kindOf y0=kd:=by rw [Z];exact f.kd
 have q2:Zg y0=Zg z:=by rw [Z]
 have q3:Zu y0=x6 (Zu z) i (sa,J,pw) (sa+J,nb,X):=by rw [Z];rfl
 have q4:Uq y0=none:=by rw [Z];exact f.fine
 clear Z e1 e2;obtain⟨U,S,V,e,hU,hS⟩:=KO (Zg z).toList (i:=sa) (n:=J+nb) (by rw [Qd];lia);obtain⟨Al,Bl,rfl,hA,hB⟩:∃ Al Bl,S=Al++Bl/\Al.length=J/\Bl.length=nb:=⟨S.take J,S.drop J,(QU _ _).symm,by rw [QS];lia,by rw [Yg];lia⟩;subst hU hA hB;clear hS
 have M:(Zg z).toList=U++(Al++(Bl++V)):=by rw [e,QG]
 have eB:(Zg z).toList=(U++Al)++(Bl++V):=by rw [M,QG]
 have lB:(U++Al).length=U.length+Al.length:=Qo;have pA:=(wE M).mp u1;have pB:=(wE (κ:=κ) eB).mp (by rw [lB];exact T);have kz:KeysOf κ (Zg z):=Cb all f.mix fun _ h=>h
 have stay:∀ h:(∀ p∈Al,∀ q∈Bl,Rk κ p q),Q true y0:=fun h=>by
  refine k y0 ⟨by rw [q2];exact f.mix,N,q4⟩ q3 ?_ fun v _=>by rw [q2]
  rw [q2,<- Qo]
  exact(wE e).mpr (Q9.mpr ⟨pA,pB,h⟩)
 obtain⟨p,x,f1,f2,f3⟩:=iE kz (show U.length+Al.length<(Zg z).size by lia);refine Qt (dN f1 (Qt (p7 (left:=false) L N f2 (qB kz (by lia)) u1 n1 fun k1 b3 b1 b2=>?_)));dsimp only;refine bY (fun c=>QD (stay fun p' g q' B=>?_)) fun c=>?_
 ·have:=beq_iff_eq.mp c
  obtain⟨v,R,H⟩:=mL (κ:=κ) M g;obtain⟨t,W,I⟩:=mL (κ:=κ) eB B;unfold Rk;rw [<- H,<- I,lB];refine Yi (vH (b1 v (by lia))) ?_;rw [<- f3]
  have:=T 0 t (Q8 _) W
  rwa [JY]at this
 rw [beq_iff_eq]at c;obtain⟨p2,x2,g1,g2,g3⟩:=iE kz (show U.length+k1+(Al.length-k1)-1<(Zg z).size by lia)
 have ei:U.length+k1+(Al.length-k1)-1=U.length+(Al.length-1):=by lia
 rw [ei]at g3;refine Qt (dN g1 (Qt (p7 (left:=true) L N g2 (qB kz (by lia)) T (by lia) fun k2 b0 d1 d2=>?_)));dsimp only
 have G:∀ v,v<Al.length->κ.kle (KK κ (Zg z) (U.length+v)) x2:=fun v hv=>by rw [<- g3];exact u1 v (Al.length-1) (by lia) (by lia)
 have Y:∀ t,t<Bl.length->κ.kle x (KK κ (Zg z) (U.length+Al.length+t)):=fun t O=>by
  rw [<- f3]
  have:=T 0 t (Q8 _) O
  rwa [JY]at this
 refine bY (fun c=>QD (stay fun p' g q' B=>?_)) fun c2=>?_
 ·have:=beq_iff_eq.mp c
  obtain⟨v,R,H⟩:=mL (κ:=κ) M g;obtain⟨t,W,I⟩:=mL (κ:=κ) eB B;unfold Rk;rw [<- H,<- I,lB];exact Yi (G v R) (vJ (d2 t (by lia) W))
 rw [beq_iff_eq]at c2;clear stay;obtain⟨A1,A2,rfl,a9⟩:∃ A1 A2,Al=A1++A2/\A1.length=k1:=⟨Al.take k1,Al.drop k1,(QU _ _).symm,by rw [QS];lia⟩;obtain⟨B1,B2,rfl,a8⟩:∃ B1 B2,Bl=B1++B2/\B1.length=k2:=⟨Bl.take k2,Bl.drop k2,(QU _ _).symm,by rw [QS];lia⟩;subst a9 a8;simp only [Qo]at *
 have r:(Zg z).toList=(U++A1)++(A2++(B1++(B2++V))):=by rw [M];simp only [QG]
 have K:(Zg z).toList=(U++A1++A2)++(B1++(B2++V)):=by rw [M];simp only [QG]
 have eM:(Zg z).toList=(U++A1)++((A2++B1)++(B2++V)):=by rw [M];simp only [QG]
 have ex:((Zg z).extract (U.length+A1.length) (U.length+(A1.length+A2.length))).toList=A2:=Gb r (by simp only [Qo]) (by simp only [Qo];lia);have ey:((Zg z).extract (U.length+(A1.length+A2.length)) (U.length+(A1.length+A2.length)+B1.length)).toList=B1:=Gb K (by simp only [Qo];lia) (by simp only [Qo];lia);have sx:=congrArg List.length ex;have sy:=congrArg List.length ey;rw [Qd]at sx sy;obtain⟨a7,a6,a5⟩:=Q9.mp pA;obtain⟨a4,a3,a2⟩:=Q9.mp pB;have ux:=Iu (κ:=κ) (a:=(Zg z).extract (U.length+A1.length) (U.length+(A1.length+A2.length))) (by rw [ex];exact a6);have uy:=Iu (κ:=κ) (a:=(Zg z).extract (U.length+(A1.length+A2.length)) (U.length+(A1.length+A2.length)+B1.length)) (by rw [ey];exact a4)
 have kx:KeysOf κ ((Zg z).extract (U.length+A1.length) (U.length+(A1.length+A2.length))):=Cb all f.mix fun p g=>by
  rw [ex]at g;rw [r];exact Qu _ (Q2 _ g)
 have ky:KeysOf κ ((Zg z).extract (U.length+(A1.length+A2.length)) (U.length+(A1.length+A2.length)+B1.length)):=Cb all f.mix fun p g=>by
  rw [ey]at g;rw [K];exact Qu _ (Q2 _ g)
 have xx:∀ t,t<A2.length->KK κ ((Zg z).extract (U.length+A1.length) (U.length+(A1.length+A2.length))) t=KK κ (Zg z) (U.length+A1.length+t):=fun t O=>G2 (by lia) (by lia);have yy:∀ t,t<B1.length->KK κ ((Zg z).extract (U.length+(A1.length+A2.length)) (U.length+(A1.length+A2.length)+B1.length)) t=KK κ (Zg z) (U.length+(A1.length+A2.length)+t):=fun t O=>G2 (by lia) (by lia)
 have a0:∀ t,t<A2.length->κ.kle x (KK κ (Zg z) (U.length+A1.length+t)):=fun t O=>by
  have:=A9 (b2 (A1.length+t) (by lia) (by lia))
  rwa [<- JP]at this
 generalize hx:(Zg z).extract (U.length+A1.length) (U.length+(A1.length+A2.length))=xs at ex sx ux kx xx ⊢;generalize hy:(Zg z).extract (U.length+(A1.length+A2.length)) (U.length+(A1.length+A2.length)+B1.length)=ys at ey sy uy ky yy ⊢
 have c0:κ.kle (KK κ ys 0) x:=by rw [yy 0 (by lia),JY,f3];exact Yr _
 have c9:KK κ xs (xs.size-1)=x2:=by rw [sx,xx _ (by lia),<- g3];congr 1;lia
 have cl:∀ d u,Md κ xs ys d->Zq y0 u->∀ y2:ZJ,kindOf y2=kindOf u->Zu y2=Zu u->Uq y2=Uq u->Zg y2=List.foldl (fun a x=>a.setIfInBounds (U.length+A1.length+x.snd) x.fst) (Zg u) d.toList.zipIdx->Q true y2:=by
  intro d u m F y2 l j r3 r4
  have mp:d.toList.Perm (A2++B1):=by have:=m.pm;rwa [ex,ey]at this
  have ml:d.toList.length=A2.length+B1.length:=by rw [mp.length_eq,Qo]
  have en:(Zg y2).toList=(U++A1)++(d.toList++(B2++V)):=by
   rw [r4,F.ar,q2];exact Ff _ d.toList (A2++B1) (U++A1) (B2++V) 0 _ (by rw [ml,Qo]) (by rw [Qo,JY]) eM
  have e3:(Zg y2).toList=U++((A1++(d.toList++B2))++V):=by rw [en];simp only [QG]
  have hA:∀ p∈A1,∀ q∈A2++B1,Rk κ p q:=fun p g q B=>by
   rcases QC.mp B with h | h
   ·exact a5 p g q h
   ·obtain⟨v,R,H⟩:=mL (κ:=κ) (S:=A1) (U:=U) (V:=A2++(B1++(B2++V))) (by rw [r];simp only [QG]) g;obtain⟨t,W,I⟩:=mL (κ:=κ) K h;unfold Rk;rw [<- H,<- I];simp only [Qo];rw [JP U.length];exact Yi (vH (b1 v R)) (Y t (by lia))
  have hB:∀ p∈A2++B1,∀ q∈B2,Rk κ p q:=fun p g q B=>by
   rcases QC.mp g with h | h
   ·obtain⟨v,R,H⟩:=mL (κ:=κ) r h;obtain⟨t,W,I⟩:=mL (κ:=κ) (S:=B2) (U:=U++A1++A2++B1) (V:=V) (by rw [r];simp only [QG]) B;unfold Rk;rw [<- H,<- I];simp only [Qo];have z1:=G (A1.length+v) (by lia);have z2:=vJ (d2 (B1.length+t) (by lia) (by lia));rw [show U.length+A1.length+v=U.length+(A1.length+v) by lia,show U.length+A1.length+A2.length+B1.length+t=U.length+(A1.length+A2.length)+(B1.length+t) by lia];exact Yi z1 z2
   ·exact a2 p h q B
  have hS:(A1++(d.toList++B2)).Pairwise (Rk κ):=by
   refine Q9.mpr ⟨a7,Q9.mpr ⟨m.so,a3,fun p g q B=>hB p (mp.mem_iff.mp g) q B⟩,fun p g q B=>?_⟩;rcases QC.mp B with h | h
   ·exact hA p g q (mp.mem_iff.mp h)
   ·obtain⟨o,ho⟩:∃ o,o∈B1:=List.exists_mem_of_length_pos (by lia);exact Yi (hA p g o (Qu _ ho)) (hB o (Qu _ ho) q h)
  refine k y2 ⟨?_,by rw [l,F.kd,N],by rw [r3,F.fa,q4]⟩ (by rw [j,F.pe,q3]) ?_ fun v hv=>?_
  ·refine Array.Perm.trans (Y2.mpr ?_) f.mix;rw [en,eM]
   exact(mp.append_right _).append_left _
  ·have:=(wE (κ:=κ) e3).mpr hS
   simp only [Qo,ml]at this
   rwa [show A1.length+(A2.length+B1.length+B2.length)=A1.length+A2.length+(B1.length+B2.length) by lia]at this
  ·refine PC (U:=U) (V:=V) (S:=A1++((A2++B1)++B2)) (by rw [r];simp only [QG]) e3 (by simp only [Qo,ml]) ?_;simp only [Qo];rcases hv with h | h
   ·exact Zx h
   ·exact Zl (by lia)
 refine bY (fun _=>Qt (LJ L N kx ky ux uy (by lia) (by lia) ?_ (fun t O=>?_) fun d u m F=>?_)) fun _=>Qt (Lq L N kx ky ux uy (by lia) (by lia) (fun t O=>?_) ?_ fun d u m F=>?_)
 ·rw [xx 0 (by lia)];exact Yi c0 (a0 0 (by lia))
 ·rw [c9,yy t (by lia)];exact vI (d1 t (by lia))
 ·have fin:=cl d u m F;refine Qt (J6 (Qt (UU (QD ((congrArg (fun b=>Q b _) (show Option.isNone (Uq u)=true by rw [F.fa,q4];rfl)).mpr ?_)))));exact fin _ rfl rfl rfl rfl
 ·rw [xx t (by lia)];exact Yi c0 (a0 t (by lia))
 ·rw [c9,yy _ (by lia)];exact vI (d1 _ (by lia))
 ·have fin:=cl d u m F;refine Qt (J6 (Qt (UU (QD ((congrArg (fun b=>Q b _) (show Option.isNone (Uq u)=true by rw [F.fa,q4];rfl)).mpr ?_)))));exact fin _ rfl rfl rfl rfl
end
end TS
namespace TS
open SG
abbrev oG:=Nat × Nat × Nat
def iJ(κ:KeyKind)(a:Array Zs):Nat->List oG->Nat->Prop
 | n,[],m=>n=m
 | n,r::rs,m=>r.1=n/\0<r.2.1/\Up κ a n r.2.1/\iJ κ a (n+r.2.1) rs m
variable {κ:KeyKind}{arr arr':Array Zs}
theorem sK:∀{xs ys:List oG}{n m:Nat},iJ κ arr n (xs++ys) m ↔ ∃ k,iJ κ arr n xs k/\iJ κ arr k ys m
 | [],ys,n,m=>⟨fun h=>⟨n,rfl,h⟩,fun⟨k,e,h⟩=>by cases e;exact h⟩
 | x::xs,ys,n,m=>⟨fun f=>by
   obtain⟨a,b,c,d⟩:=f;obtain⟨k,i,g⟩:=sK.mp d
   exact⟨k,⟨a,b,c,i⟩,g⟩,fun⟨k,⟨a,b,c,d⟩,h⟩=>⟨a,b,c,sK.mpr ⟨k,d,h⟩⟩⟩
theorem vR:∀{xs:List oG}{n m:Nat},iJ κ arr n xs m->n+xs.length<=m
 | [],n,m,h=>by cases h;exact Qm _
 | x::xs,n,m,⟨_,b,_,d⟩=>by have:=vR d;rw [Qv];lia
theorem vT:∀{xs:List oG}{n m:Nat},iJ κ arr n xs m->(∀ v,n<=v->v<m->KK κ arr' v=KK κ arr v)->iJ κ arr' n xs m
 | [],n,m,h,_=>h
 | x::xs,n,m,⟨a,b,c,d⟩,h=>⟨a,b,fun i j le lt=>by
   have:=vR d
   rw [h _ (by lia) (by lia),h _ (by lia) (by lia)]
   exact c i j le lt,vT d fun v f e=>h v (by lia) e⟩
theorem D2(g:∀ r,(f r).1=r.1)(e:∀ r,(f r).2.1=r.2.1):∀{xs:List oG}{i n m:Nat},iJ κ arr n xs m->iJ κ arr n (xs.modify i f) m
 | [],i,n,m,h=>by cases i <;> exact h
 | x::xs,0,n,m,⟨a,b,c,d⟩=>by
   rw [List.modify_zero_cons]
   refine⟨(g x).trans a,?_,?_,?_⟩
   ·rw [e];exact b
   ·rw [e];exact c
   ·rw [e];exact d
 | x::xs,i+1,n,m,⟨a,b,c,d⟩=>by
   rw [List.modify_succ_cons]
   exact⟨a,b,c,D2 g e d⟩
theorem IV:∀(l:List oG) (i:Nat),i+1<l.length->∃ pre r1 r2 post,l=pre++r1::r2::post/\pre.length=i
 | [],i,h=>by cases h
 | [x],i,h=>by rw [Yk]at h;lia
 | x::y::l,0,h=>⟨[],x,y,l,rfl,rfl⟩
 | x::y::l,i+1,h=>by
  obtain⟨pre,r1,r2,post,e,a⟩:=IV (y::l) i (by rw [Qv]at h;lia)
  exact⟨x::pre,r1,r2,post,by rw [e];rfl,by rw [Qv,a]⟩
theorem RD(e:p.toList=pre++r1::r2::post)(a:pre.length=i):(x6 p i r1 r2).toList=pre++(r1.1,r1.2.1+r2.2.1,r1.2.2)::post:=by
 unfold x6
 have:p=(pre++r1::r2::post).toArray:=by rw [<- e]
 subst this a
 simp [List.eraseIdx_append_of_length_le,List.set_append_right]
section
variable {prog:Zd}{w:Zf}{A:Around}{E:YP->J9->Prop}{s:J9}{kd:Z2}{z:ZJ}{src:Array Zs}
structure hF(κ:KeyKind)(src:Array Zs)(kd:Z2)(lo:Nat)(z:ZJ):Prop where
 ft:Ft src kd z
 co:iJ κ (Zg z) 0 (Zu z).toList lo
 le:lo<=src.size
theorem Dw{c i:Nat}(L:fW prog w A s κ kd)(all:KeysOf κ src)(f:hF κ src kd c z)(u:i+1<(Zu z).size)(k:∀ y,hF κ src kd c y->(Zu y).size+1=(Zu z).size->(∀ v,c<=v->KK κ (Zg y) v=KK κ (Zg z) v)->Q true y):wpS (Zc prog w) A E s (mergeAt' i) Q z:=by
 obtain⟨p,r1,r2,b,e,g⟩:=IV (Zu z).toList i (by rw [Qd];exact u);have l:=f.co;rw [e]at l;obtain⟨m,B,a1,o,H,b1,G,F,n⟩:=sK.mp l;have I:=vR n;have sz:=f.le
 have t:(Zu z)[i]?=some r1:=by rw [<- QA,e,<- g,QI (Qm _),Nat.sub_self];rfl
 have r:(Zu z)[i+1]?=some r2:=by rw [<- QA,e,<- g,QI (QV _ 1),YZ];rfl
 refine LL L all f.ft t r o G (by rw [b1,a1]) (by rw [b1];lia) (by rw [a1];exact H) (by rw [b1];exact F) fun y x q j a=>?_;have d:=RD e g;rw [<- q]at d;rw [a1,b1]at a;refine k y ⟨x,?_,f.le⟩ ?_ fun v h=>a v (Zl (by lia))
 ·rw [d];refine sK.mpr ⟨m,vT B fun v _ h=>a v (Zx h),a1,QX o (QV _ _),by rw [a1]at j;exact j,?_⟩
  show iJ κ (Zg y) (m+(r1.2.1+r2.2.1)) b c
  rw [<- JP];exact vT n fun v h _=>a v (Zl h)
 ·rw [<- Qd,<- Qd,d,e];simp;lia
theorem Ht{a:Nat}(f:hF κ src kd a z)(c:Ft src kd (ZV z ys))(b:Sm κ a (Zg z) ys):hF κ src kd a (ZV z ys):=⟨c,vT f.co fun v _ h=>b v h,f.le⟩
theorem Hu{a n:Nat}(f:hF κ src kd a z)(b:Up κ (Zg z) a n)(d:1<=n)(c:a+n<=src.size):hF κ src kd (a+n) (setPending z ((Zu z).push (a,n,0))):=⟨⟨f.ft.mix,f.ft.kd,f.ft.fine⟩,by
 show iJ κ (Zg z) 0 ((Zu z).push (a,n,0)).toList (a+n)
 rw [Jw]
 exact sK.mpr ⟨a,f.co,rfl,d,b,rfl⟩,c⟩
theorem all_z(L:fW prog w A s κ kd)(all:KeysOf κ src)(f:Ft src kd z)(W:Zu z=#[])(h2:2<=src.size)
  (k:∀ z',(Zg z').Perm src->Uq z'=none->SortedToK κ (Zg z') src.size->Q () z'):wpS (Zc prog w) A E s sortRuns' Q z:=by
 rw [sortRuns'_eq];refine Qt (UU ?_);dsimp only;simp only [f.len];have M:hF κ src kd 0 z:=⟨f,by rw [W];rfl,Q8 _⟩
 refine Qt (JC (Yw (fun t c y=>∃ b,c=(none,b)/\t<=b/\hF κ src kd b y) (Q:=fun c y=>c=(none,src.size)/\hF κ src kd src.size y)
  (fun t c y _ lt q=>?_) (fun c y q=>?_) ⟨0,rfl,Q8 _,M⟩) fun c y J=>?_)
 ·obtain⟨b,g,S,a⟩:=q;subst g;dsimp only;refine bY (fun c=>?_) fun c=>?_
  ·have e:b=src.size:=Nat.le_antisymm a.le c;subst e;exact QD ⟨rfl,a⟩
  ·refine Qt (MH L all a.ft (by lia) (by lia) fun m Z O T g1 g2 p=>?_);dsimp only;have F:=Ht a O T;refine bY (fun Y=>?_) fun Y=>?_;refine Qt (Vp (Jm ⟨rfl,Qt (Lu L all O (n:=min (src.size-b) (minRun' src.size src.size 0)) (by lia) (by lia) p fun us X N l=>?_)⟩));have x:=Ht F X N;simp only [Q0,Qg,if_false]
   have H:1<=min (src.size-b) (minRun' src.size src.size 0):=by lia
   have G:b+min (src.size-b) (minRun' src.size src.size 0)<=src.size:=by lia
   generalize min (src.size-b) (minRun' src.size src.size 0)=n at H G l ⊢
   rotate_left
   have x:=F;have l:=p;have H:=g1
   have G:b+m<=src.size:=by lia
   generalize m=n at H G l ⊢
   all_goals
    refine Qt (UU ?_);split
    ·refine Qt (JC (Yw (fun _ c o=>c=(none,())/\hF κ src kd b o/\Up κ (Zg o) b n) (Q:=fun c o=>c=(none,())/\hF κ src kd b o/\Up κ (Zg o) b n) (fun t c o _ lt q=>?_) (fun _ _ h=>h) ⟨rfl,x,l⟩) fun c o J=>?_)
     ·obtain⟨g,a,p⟩:=q;subst g;refine Qt (UU ?_);by_cases c:(Zu o).size > 1
      ·split
       ·refine bY (fun _=>QD ⟨rfl,a,p⟩) fun _=>?_;refine Qt (Dw L all a (by lia) fun y2 B _ v=>?_);simp only [Q0,Qg,if_false];exact QD ⟨rfl,B,fun i j le lt=>by rw [v _ (QV _ _),v _ (QV _ _)];exact p i j le lt⟩
       ·exact QD ⟨rfl,a,p⟩
      ·rw [if_neg c];exact QD ⟨rfl,a,p⟩
     ·obtain⟨g,a,p⟩:=J;subst g;dsimp only;refine Qt (J6 (Qt (J6 (QD ⟨b+n,rfl,by lia,Hu ⟨⟨a.ft.mix,a.ft.kd,a.ft.fine⟩,?_,a.le⟩ p H G⟩))));rw [Array.toList_modify];refine D2 ?_ ?_ a.co
      ·exact fun _=>rfl
      ·exact fun _=>rfl
    ·exact Qt (J6 (QD ⟨b+n,rfl,by lia,Hu x l H G⟩))
 ·obtain⟨b,g,S,a⟩:=q
  have:b=src.size:=by have:=a.le;lia
  subst this
  exact⟨g,a⟩
 ·obtain⟨g,a⟩:=J;subst g;dsimp only
  refine Qt (JC (Yw (fun t c y=>c=(none,())/\hF κ src kd src.size y/\((Zu y).size<=1 ∨ (Zu y).size+t<=src.size)) (Q:=fun c y=>c=(none,())/\hF κ src kd src.size y/\(Zu y).size<=1)
   (fun t c y _ lt q=>?_) (fun c y q=>?_) ⟨rfl,a,Zl ?_⟩) fun c y J=>?_)
  ·obtain⟨g,a,I⟩:=q;subst g;refine Qt (UU ?_);refine bY (fun c=>QD ⟨rfl,a,c⟩) fun c=>?_;refine Qt (Dw L all a ?_ fun o B sz _=>?_)
   ·repeat' split
    all_goals lia
   ·simp only [Q0,Qg,if_false];exact QD ⟨rfl,B,Zl (by lia)⟩
  ·obtain⟨g,a,I⟩:=q
   exact⟨g,a,by lia⟩
  ·have:=vR a.co;rw [Qd]at this;lia
  ·obtain⟨g,a,I⟩:=J;subst g;refine QD (k y a.ft.mix a.ft.fine ?_);have K:=a.co;rw [<- Qd]at I
   cases e:(Zu y).toList with
   | nil=>rw [e]at K;have:0=src.size:=K;lia
   | cons r U=>
    rw [e]at K I
    cases U with
    | cons _ _=>simp at I
    | nil=>
     obtain⟨_,_,u,d⟩:=K;have R:0+r.2.1=src.size:=d;rw [Q3]at R;rw [R]at u;intro i j le lt
     have:=u i j le lt
     rwa [Q3,Q3]at this
end
end TS
namespace SG
section
variable {prog:Zd}{w:Zf}{A:Around}{E:YP->J9->Prop}{s:J9}{κ:KeyKind}{kd:Z2}
theorem Tc(f:s.heap.get? a=some (UF "list" vs.toArray n))(all:KeysOf κ (Vk vs))(v:vs.length<=1000)
  (kind:∀ h',(∀ b o,b≠a->s.heap.get? b=some o->h'.get? b=some o)->2<=vs.length->Zb (Zc prog w) A (keyKind' vs.toArray) (fun q s'=>q=kd/\s'={ s with heap:=h' }) E { s with heap:=h' })
  (L:∀ h',(∀ b o,b≠a->s.heap.get? b=some o->h'.get? b=some o)->fW prog w A { s with heap:=h' } κ kd)
  (k:∀ z':ZJ,(Zg z').Perm (Vk vs)->SortedToK κ (Zg z') (Vk vs).size->P (.done (.ret .none)) { s with heap:=sortedHeap s.heap a vs ((Zg z').map (·.2)) }):
  Zb (Zc prog w) A (Builtin.«list.sort» ⟨[.ref a],[]⟩) P E s:=by
 have y:a<s.heap.objs.size:=Qs f
 have x:vs.toArray.size=vs.length:=by simp
 rw [list_sort_plain];refine Qa (listItems_at f rfl (Qa (listUpdate_at f rfl ?_)));obtain⟨t,p⟩:∃ t,(s.heap.update a (Uz fun _=>#[])).get? a=some (UF "list" #[] t):=⟨_,get?_update_seq f fun _=>#[]⟩;refine Qa (seqEpoch_at p rfl (Qa (wpAny_newTuple (Qa (wpAny_newList (Q7 ?_))))))
 show Zb (Zc prog w) A _ P E { s with heap:=((s.heap.update a (Uz fun _=>#[])).push (UF "tuple" vs.toArray 0)).push (UF "list" #[] 0) }
 have keep:∀ b o,b≠a->s.heap.get? b=some o->(((s.heap.update a (Uz fun _=>#[])).push (UF "tuple" vs.toArray 0)).push (UF "list" #[] 0)).get? b=some o:=fun b o u e=>
  Qh _ (Qh _ (by rw [Heap.get?_update_ne _ _ _ _ u];exact e))
 have g:(((s.heap.update a (Uz fun _=>#[])).push (UF "tuple" vs.toArray 0)).push (UF "list" #[] 0)).get? a=some (UF "list" #[] t):=Qh _ (Qh _ p);dsimp only;by_cases c:vs.toArray.size<2
 ·rw [if_pos c,if_pos c];refine Qa (Qb ?_);rw [StateT.run_pure]
  refine Qa (Qb (Qa (seqEpoch_at g rfl (Qa (listUpdate_at g rfl ?_ (hsz2:=by
   rw [YO];show(Vk vs).size<=_;rw [UG,Q5];lia))))))
  simp only [bne_self_eq_false,Qg,if_false];refine Qb (k (SortSt.mk' general' (vs.toArray.zip vs.toArray) #[] 7 none) (Array.Perm.refl _) fun i j le lt=>?_)
  obtain rfl:i=j:=by rw [UG]at lt;lia
  exact Yr _
 ·rw [if_neg c,if_neg c];refine Qa (Jp (kind _ keep (by lia)) (fun q s' m=>?_) fun _ _ e=>e);obtain⟨rfl,rfl⟩:=m
  refine Qa (Jp (TS.all_z (src:=Vk vs) (z:=SortSt.mk' q (vs.toArray.zip vs.toArray) #[] 7 none)
   (Q:=fun _ z'=>(Zg z').Perm (Vk vs)/\Uq z'=none/\SortedToK κ (Zg z') (Vk vs).size)
   (L _ keep) all ⟨Array.Perm.refl _,rfl,rfl⟩ rfl (by rw [UG];lia) fun z' d l h=>⟨d,l,h⟩) (fun r s' m=>?_) fun _ _ e=>e)
  obtain⟨⟨⟩,z'⟩:=r;obtain⟨rfl,d,l,h⟩:=m;dsimp only at d l h ⊢
  refine Qa (seqEpoch_at g rfl (Qa (listUpdate_at g rfl ?_ (hsz2:=by
   refine QJ (Nat.le_of_eq ((YO ..).trans (d.size_eq.trans (UG _)))) ?_
   rw [Q5];lia))))
  rw [l];simp only [bne_self_eq_false,Qg,if_false];exact Qb (k z' d h)
end
end SG
namespace DL
open PySem.Spec L2
abbrev D:=PyData
def kI(K:PySem.W.Frag)(F:J8->Prop)(H:Hp)(a:J8)(vs:List V):Prop:=(F a/\Rd H a (.lst vs)) ∨ bV K (fun _=>none) a vs
theorem kI.sq{K:PySem.W.Frag}{F:J8->Prop}{H:Hp}{a:J8}{vs:List V}(h:kI K F H a vs):bV K H a vs:=by
 rcases h with⟨_,h⟩ | (h | ⟨o,h⟩) | h
 ·exact .inl h
 ·cases h
 ·cases h
 ·exact .inr h
abbrev eL:=Sum (List Int) (List (List Int))
def m9(a:List Int):D:=.tuple (a.map .int)
def jY:eL->D
 | .inl b=>m9 b
 | .inr a=>.tuple (a.map m9)
def FG(a:List Int):Int:=reduceHash (Zt (a.map hashInt))
def B4:eL->Int
 | .inl b=>FG b
 | .inr a=>reduceHash (Zt (a.map FG))
def eX(K:PySem.W.Frag)(H:Hp)(k:eL)(b:J8):Prop:=match k with
 | .inl c=>bL K H b (c.map V.int)
 | .inr a=>a≠[]/\∃ bs:List J8,bL K H b (bs.map V.ref)/\Paired (fun(c:List Int) (b:J8)=>bL K H b (c.map V.int)) a bs
def bN(a:J8)(es:List (eL × J8 × V))(ep:Nat):HO:=.ext fun h=>(a == ZT)=false/\∃ o raw,h.get? a=some o/\o.ExactDict/\o.data=.dict raw ep/\Paired (fun(e:eL × J8 × V) (r:UC)=>r.hash=B4 e.1/\r.key=.ref e.2.1/\RelV e.2.2 r.val) es raw.toList
def Kt(a C:J8):HO:=.ext fun h=>∃ o,h.get? a=some o/\o.cls=.ref C
def Lh(x:Str):D:=.dict [(.none,.str x)]
def Kx(a:J8)(vs:List V):HO:=.ext fun h=>vs.length<=sizeLine/\∃(its:List YP) (n:Nat),Vals vs its/\h.get? a=some { cls:=.type "list",data:=.seq its.toArray n }
mutual
inductive aS(K:PySem.W.Frag)(F:J8->Prop)(H:Hp):D->V->Prop
 | non:aS K F H .none .non
 | bl (b:Bool):aS K F H (.bool b) (.bl b)
 | int (i:Int):aS K F H (.int i) (.int i)
 | str (x:Str):aS K F H (.str x) (.str x)
 | tup {a:J8}{vs:List V}{ds:List D}:bL K H a vs->Reps K F H ds vs->aS K F H (.tuple ds) (.ref a)
 | lst {a:J8}{vs:List V}{ds:List D}:kI K F H a vs->Reps K F H ds vs->aS K F H (.list ds) (.ref a)
 | dct {a:J8}{es:List (eL × J8 × V)}{kvs:List (D × D)}{ep:Nat}:F a->H a=some (bN a es ep)->(es.map (·.1)).Nodup->es.length<=1000->DReps K F H kvs es->aS K F H (.dict kvs) (.ref a)
 | exn {a C:J8}{x:Str}:F a->H a=some (Kt a C)->PySem.W.nsIn K Zv x=some (some (.ref C))->aS K F H (Lh x) (.ref a)
inductive DReps(K:PySem.W.Frag)(F:J8->Prop)(H:Hp):List (D × D)->List (eL × J8 × V)->Prop
 | nil:DReps K F H [] []
 | cons {k:eL}{b:J8}{d:D}{v:V}{kvs:List (D × D)}{es:List (eL × J8 × V)}:eX K H k b->aS K F H d v->DReps K F H kvs es->DReps K F H ((jY k,d)::kvs) ((k,b,v)::es)
inductive Reps(K:PySem.W.Frag)(F:J8->Prop)(H:Hp):List D->List V->Prop
 | nil:Reps K F H [] []
 | cons {d:D}{v:V}{ds:List D}{vs:List V}:aS K F H d v->Reps K F H ds vs->Reps K F H (d::ds) (v::vs)
end
structure bJ(K:PySem.W.Frag)(F F':J8->Prop)(H H':Hp):Prop where
 up:∀ a,F a->F' a
 tp:∀ a xs,bL K H a xs->bL K H' a xs
 ls:∀ a xs,F a->Rd H a (.lst xs)->Rd H' a (.lst xs)
 xt:∀ a φ,F a->H a=some (.ext φ)->H' a=some (.ext φ)
theorem eX.stay{K:PySem.W.Frag}{F f:J8->Prop}{H a:Hp}(S:bJ K F f H a){k:eL}{b:J8}(h:eX K H k b):eX K a k b:=by
 cases k with
 | inl g=>exact S.tp _ _ h
 | inr c=>obtain⟨n,bs,e,d⟩:=h;exact⟨n,bs,S.tp _ _ e,Paired.mapP d fun _ _ z=>S.tp _ _ z⟩
theorem kI.stay{K:PySem.W.Frag}{F c:J8->Prop}{H b:Hp}(S:bJ K F c H b){a:J8}{vs:List V}(h:kI K F H a vs):kI K c b a vs:=by
 rcases h with⟨f,h⟩ | h
 ·exact .inl ⟨S.up a f,S.ls a vs f h⟩
 ·exact .inr h
mutual
theorem aS.stay{K:PySem.W.Frag}{F c:J8->Prop}{H a:Hp}(S:bJ K F c H a){d:D}{v:V}(h:aS K F H d v):aS K c a d v:=by
 cases h with
 | non=>exact .non
 | bl b=>exact .bl b
 | int i=>exact .int i
 | str x=>exact .str x
 | tup h r=>exact .tup (S.tp _ _ h) (Reps.stay S r)
 | lst h r=>exact .lst (h.stay S) (Reps.stay S r)
 | dct f h n l r=>exact .dct (S.up _ f) (S.xt _ _ f h) n l (DReps.stay S r)
 | exn f h n=>exact .exn (S.up _ f) (S.xt _ _ f h) n
theorem DReps.stay{K:PySem.W.Frag}{F c:J8->Prop}{H b:Hp}(S:bJ K F c H b){a:List (D × D)}{es:List (eL × J8 × V)}(h:DReps K F H a es):DReps K c b a es:=by
 cases h with
 | nil=>exact .nil
 | cons h r t=>exact .cons (h.stay S) (aS.stay S r) (DReps.stay S t)
theorem Reps.stay{K:PySem.W.Frag}{F b:J8->Prop}{H a:Hp}(S:bJ K F b H a){ds:List D}{vs:List V}(h:Reps K F H ds vs):Reps K b a ds vs:=by
 cases h with
 | nil=>exact .nil
 | cons h r=>exact .cons (aS.stay S h) (Reps.stay S r)
end
theorem Reps.length{K:PySem.W.Frag}{F:J8->Prop}{H:Hp}:∀{ds:List D}{vs:List V},Reps K F H ds vs->ds.length=vs.length
 | _,_,.nil=>rfl
 | _,_,.cons _ r=>by simp [Reps.length r]
theorem Reps.get{K:PySem.W.Frag}{F:J8->Prop}{H:Hp}:∀{ds:List D}{vs:List V}{i:Nat}{d:D},Reps K F H ds vs->ds[i]?=some d->∃ v,vs[i]?=some v/\aS K F H d v
 | _,_,_,_,.nil,e=>by simp at e
 | _,_,0,_,.cons h _,e=>by simp at e;subst e;exact⟨_,rfl,h⟩
 | _,_,i+1,d,.cons _ r,e=>by
  obtain⟨v,b,a⟩:=Reps.get (i:=i) (d:=d) r (by simpa using e)
  exact⟨v,by simpa using b,a⟩
theorem Reps.append{K:PySem.W.Frag}{F:J8->Prop}{H:Hp}:∀{ds es:List D}{vs us:List V},Reps K F H ds vs->Reps K F H es us->Reps K F H (ds++es) (vs++us)
 | _,_,_,_,.nil,s=>s
 | _,_,_,_,.cons h r,s=>.cons h (Reps.append r s)
theorem Reps.take{K:PySem.W.Frag}{F:J8->Prop}{H:Hp}:∀{ds:List D}{vs:List V} (n:Nat),Reps K F H ds vs->Reps K F H (ds.take n) (vs.take n)
 | _,_,0,_=>.nil
 | _,_,_+1,.nil=>.nil
 | _,_,n+1,.cons h r=>.cons h (Reps.take n r)
theorem Reps.drop{K:PySem.W.Frag}{F:J8->Prop}{H:Hp}:∀{ds:List D}{vs:List V} (n:Nat),Reps K F H ds vs->Reps K F H (ds.drop n) (vs.drop n)
 | _,_,0,r=>r
 | _,_,_+1,.nil=>.nil
 | _,_,n+1,.cons _ r=>Reps.drop n r
structure aI(F F':J8->Prop)(H H':Hp):Prop where
 same:dX H H'
 up:∀ a,F a->F' a
 new:∀ a,F' a->F a ∨ (H a=none/\H' a≠none)
theorem aI.refl(F:J8->Prop)(H:Hp):aI F F H H:=⟨dX.refl H,fun _ h=>h,fun _ h=>.inl h⟩
theorem aI.trans(a:aI F F1 H H1)(b:aI F1 F2 H1 H2):aI F F2 H H2:=
 ⟨a.same.trans b.same,fun x h=>b.up x (a.up x h),fun x h=>by
  rcases b.new x h with d | ⟨d,f⟩
  ·rcases a.new x d with c | ⟨c,e⟩
   ·exact .inl c
   ·refine .inr ⟨c,fun z=>e (b.same.free z)⟩
  ·exact .inr ⟨a.same.free d,f⟩⟩
theorem dX.sqT{K:PySem.W.Frag}{H b:Hp}{a:J8}{xs:List V}(e:dX H b)(h:bL K H a xs):bL K b a xs:=by
 rcases h with(h | ⟨o,h⟩) | h
 ·exact .inl (.inl (e _ _ h))
 ·exact .inl (.inr ⟨o,e _ _ h⟩)
 ·exact .inr h
theorem dX.rd(e:dX H H')(h:Rd H a u):Rd H' a u:=by
 rcases h with h | ⟨o,h⟩
 ·exact .inl (e _ _ h)
 ·exact .inr ⟨o,e _ _ h⟩
theorem aI.stay{K:PySem.W.Frag}{F a:J8->Prop}{H H':Hp}(e:aI F a H H'):bJ K F a H H':=
 ⟨e.up,fun _ _ h=>dX.sqT e.same h,fun _ _ _ h=>dX.rd e.same h,fun _ _ _ h=>e.same _ _ h⟩
theorem HJ(a:H p=none):dX H (aJ H p o):=fun b u e=>by
 rw [aX (iF e a)];exact e
theorem aI.fresh(a:H p=none):aI F F H (aJ H p o):=⟨HJ a,fun _ h=>h,fun _ h=>.inl h⟩
theorem aI.frozen(b:H p=none):aI F (fun a=>F a ∨ a=p) H (aJ H p o):=
 ⟨HJ b,fun _ h=>.inl h,fun a h=>h.elim .inl fun e=>.inr (by subst e;exact⟨b,by rw [cO];simp⟩)⟩
theorem aS.newTup{K:PySem.W.Frag}{F:J8->Prop}{H:Hp}{p:J8}{vs:List V}{ds:List D}(a:H p=none)(r:Reps K F H ds vs):aS K F (aJ H p (.tup vs)) (.tuple ds) (.ref p):=
 .tup (.inl (.inl cO)) (r.stay (aI.fresh a).stay)
theorem aS.newLst{K:PySem.W.Frag}{F:J8->Prop}{H:Hp}{p:J8}{vs:List V}{ds:List D}(b:H p=none)(r:Reps K F H ds vs):aS K (fun a=>F a ∨ a=p) (aJ H p (.lst vs)) (.list ds) (.ref p):=
 .lst (.inl ⟨.inr rfl,.inl cO⟩) (r.stay (aI.frozen b).stay)
inductive Sl where
 | no
 | dat (d:D)
 | own (ds:List D)
 | ownD (kvs:List (D × D))
 | ownM (kvs:List (List Int × List D))
structure Q4 where
 k:List Int
 b:J8
 c:J8
 vs:List V
def Q4.ent(q:Q4):eL × J8 × V:=(.inl q.k,q.b,.ref q.c)
structure Ky(K:PySem.W.Frag)(F:J8->Prop)(H H₀:Hp)(kv:List Int × List D)(q:Q4):Prop where
 key:kv.1=q.k
 sq:bL K H q.b (q.k.map V.int)
 hc:H q.c=some (Kx q.c q.vs)
 nf:¬ F q.c
 h0:H₀ q.c=none
 rs:Reps K F H kv.2 q.vs
structure vD(K:PySem.W.Frag)(F:J8->Prop)(H H₀:Hp)(kvs:List (List Int × List D))(a:J8)(qs:List Q4)(ep:Nat):Prop where
 hd:H a=some (bN a (qs.map Q4.ent) ep)
 nf:¬ F a
 h0:H₀ a=none
 nd:(qs.map (·.k)).Nodup
 ln:qs.length<=1000
 nv:(qs.map (·.c)).Nodup
 na:a∉qs.map (·.c)
 ps:Paired (Ky K F H H₀) kvs qs
def qR(K:PySem.W.Frag)(F:J8->Prop)(H H₀:Hp):Option V->Sl->Prop
 | _,.no=>True
 | o,.dat d=>∃ v,o=some v/\aS K F H d v
 | o,.own ds=>∃ a vs,o=some (.ref a)/\H a=some (.lst vs)/\¬ F a/\H₀ a=none/\Reps K F H ds vs
 | o,.ownD kvs=>∃ a es ep,o=some (.ref a)/\H a=some (bN a es ep)/\¬ F a/\H₀ a=none/\(es.map (·.1)).Nodup/\es.length<=1000/\DReps K F H kvs es
 | o,.ownM kvs=>∃ a es ep,o=some (.ref a)/\vD K F H H₀ kvs a es ep
structure bF(K:PySem.W.Frag)(F:J8->Prop)(H H₀:Hp)(σ:L2.St)(ρ:List Sl):Prop where
 len:σ.length=ρ.length
 sl:∀(i:Nat) (s:Sl),ρ[i]?=some s->∃ o,σ[i]?=some o/\qR K F H H₀ o s
 sep:∀(i j:Nat) (a:J8) (ds es:List D),i≠j->ρ[i]?=some (.own ds)->ρ[j]?=some (.own es)->σ[i]?=some (some (.ref a))->σ[j]?≠some (some (.ref a))
 fz:∀ a,F a->H a≠none
theorem vD.to{K:PySem.W.Frag}{F e:J8->Prop}{H d H₀:Hp}{c:List (List Int × List D)}{a:J8}{es:List Q4}{ep:Nat}(m:vD K F H H₀ c a es ep)(T:bJ K F e H d)
  (k:∀ b φ,H b=some (.ext φ)->¬ F b->d b=some (.ext φ)/\¬ e b):vD K e d H₀ c a es ep:=
 ⟨(k _ _ m.hd m.nf).1,(k _ _ m.hd m.nf).2,m.h0,m.nd,m.ln,m.nv,m.na,Paired.mapP m.ps fun _ _ q=>⟨q.key,T.tp _ _ q.sq,(k _ _ q.hc q.nf).1,(k _ _ q.hc q.nf).2,q.h0,q.rs.stay T⟩⟩
theorem qR.ext{K:PySem.W.Frag}{F w:J8->Prop}{H u H₀:Hp}(e:aI F w H u){o:Option V}{s:Sl}(h:qR K F H H₀ o s):qR K w u H₀ o s:=by
 cases s with
 | no=>trivial
 | ownM i=>
  obtain⟨a,k,p,q,m⟩:=h
  refine⟨a,k,p,q,m.to e.stay fun b y t c=>⟨e.same _ _ t,fun f=>?_⟩⟩
  rcases e.new b f with f | ⟨f,_⟩
  ·exact c f
  ·rw [t]at f;cases f
 | ownD i=>
  obtain⟨a,k,p,q,g,c,j,n,l,r⟩:=h
  refine⟨a,k,p,q,e.same _ _ g,fun f=>?_,j,n,l,r.stay e.stay⟩
  rcases e.new a f with f | ⟨f,_⟩
  ·exact c f
  ·rw [g]at f;cases f
 | dat d=>obtain⟨v,q,r⟩:=h;exact⟨v,q,r.stay e.stay⟩
 | own z=>
  obtain⟨a,x,q,g,c,j,r⟩:=h
  refine⟨a,x,q,e.same _ _ g,fun f=>?_,j,r.stay e.stay⟩
  rcases e.new a f with f | ⟨f,_⟩
  ·exact c f
  ·rw [g]at f;cases f
theorem aI.fz(e:aI F F' H H')(z:∀ a,F a->H a≠none):∀ a,F' a->H' a≠none:=fun a f q=>by
 rcases e.new a f with f | ⟨_,f⟩
 ·exact z a f (e.same.free q)
 ·exact f q
theorem bF.ext{K:PySem.W.Frag}{F c:J8->Prop}{H b H₀:Hp}{a:L2.St}{ρ:List Sl}(S:bF K F H H₀ a ρ)(e:aI F c H b):bF K c b H₀ a ρ:=
 ⟨S.len,fun i s h=>let⟨o,q,r⟩:=S.sl i s h;⟨o,q,r.ext e⟩,S.sep,e.fz S.fz⟩
theorem bF.dat{K:PySem.W.Frag}{F:J8->Prop}{H H₀:Hp}{a:L2.St}{ρ:List Sl}(S:bF K F H H₀ a ρ){i:Nat}{d:D}(h:ρ[i]?=some (.dat d)):∃ v,a[i]?=some (some v)/\aS K F H d v:=by
 obtain⟨o,q,v,e,r⟩:=S.sl i _ h
 exact⟨v,by rw [q,e],r⟩
theorem bF.ownD{K:PySem.W.Frag}{F:J8->Prop}{H H₀:Hp}{c:L2.St}{ρ:List Sl}(S:bF K F H H₀ c ρ){i:Nat}{b:List (D × D)}(h:ρ[i]?=some (.ownD b)):
  ∃ a es ep,c[i]?=some (some (.ref a))/\H a=some (bN a es ep)/\¬ F a/\H₀ a=none/\(es.map (·.1)).Nodup/\es.length<=1000/\DReps K F H b es:=by
 obtain⟨o,q,a,es,ep,e,r⟩:=S.sl i _ h
 exact⟨a,es,ep,by rw [q,e],r⟩
theorem bF.own{K:PySem.W.Frag}{F:J8->Prop}{H H₀:Hp}{b:L2.St}{ρ:List Sl}(S:bF K F H H₀ b ρ){i:Nat}{ds:List D}(h:ρ[i]?=some (.own ds)):
  ∃ a vs,b[i]?=some (some (.ref a))/\H a=some (.lst vs)/\¬ F a/\H₀ a=none/\Reps K F H ds vs:=by
 obtain⟨o,q,a,vs,e,r⟩:=S.sl i _ h
 exact⟨a,vs,by rw [q,e],r⟩
theorem bF.put{K:PySem.W.Frag}{F:J8->Prop}{H H₀:Hp}{m:L2.St}{ρ:List Sl}(S:bF K F H H₀ m ρ){i:Nat}{d:D}{v:V}(r:aS K F H d v):bF K F H H₀ (m.set i (some v)) (ρ.set i (.dat d)):=by
 refine⟨by simp [S.len],fun j s h=>?_,fun j k a x u l g f n=>?_,S.fz⟩
 ·by_cases b:i=j
  ·subst b
   have c:i<ρ.length:=by
    have:=Qc.mp h
    simpa using this.1
   rw [Qw c]at h;cases h
   exact⟨some v,by rw [Qw (by rw [S.len];exact c)],v,rfl,r⟩
  ·rw [Qq b]at h;obtain⟨o,q,w⟩:=S.sl j s h
   exact⟨o,by rw [Qq b];exact q,w⟩
 ·have t:i≠j:=by
   intro e;subst e
   have c:i<ρ.length:=by
    have:=Qc.mp g
    simpa using this.1
   rw [Qw c]at g;cases g
  have p:i≠k:=by
   intro e;subst e
   have c:i<ρ.length:=by
    have:=Qc.mp f
    simpa using this.1
   rw [Qw c]at f;cases f
  rw [Qq t]at g n;rw [Qq p]at f ⊢;exact S.sep j k a x u l g f n
theorem bF.putOwn{K:PySem.W.Frag}{F:J8->Prop}{H H₀:Hp}{B:L2.St}{ρ:List Sl}(S:bF K F H H₀ B ρ){i:Nat}{ds:List D}{vs:List V}{p:J8}(E:H p=none)(N:H₀ p=none)(r:Reps K F H ds vs):
  bF K F (aJ H p (.lst vs)) H₀ (B.set i (some (.ref p))) (ρ.set i (.own ds)):=by
 have e:aI F F H (aJ H p (.lst vs)):=aI.fresh E;have S':=S.ext e;have M:¬ F p:=fun f=>S.fz p f E
 refine⟨by simp [S.len],fun j s h=>?_,fun j k a x v n A y u t=>?_,S'.fz⟩
 ·by_cases c:i=j
  ·subst c
   have g:i<ρ.length:=by
    have:=Qc.mp h
    simpa using this.1
   rw [Qw g]at h;cases h
   exact⟨some (.ref p),by rw [Qw (by rw [S.len];exact g)],p,vs,rfl,cO,M,N,r.stay e.stay⟩
  ·rw [Qq c]at h;obtain⟨o,q,w⟩:=S'.sl j s h
   exact⟨o,by rw [Qq c];exact q,w⟩
 ·have l:∀(m:Nat) (a:J8) (v:List D),i≠m->(ρ.set i (.own ds))[m]?=some (.own v)->(B.set i (some (.ref p)))[m]?=some (some (.ref a))->a≠p:=fun m a v J g1 g2 z=>by
   rw [Qq J]at g1 g2;obtain⟨b,O,I,G,_⟩:=S.own g1;rw [I]at g2;cases g2;subst z;rw [E]at G;cases G
  by_cases c:i=j
  ·subst c;have d:i≠k:=n
   have g:i<ρ.length:=by
    have:=Qc.mp A
    simpa using this.1
   rw [Qw (by rw [S.len];exact g)]at u;cases u;exact l k p v d y t rfl
  ·by_cases d:i=k
   ·subst d
    have g:i<ρ.length:=by
     have:=Qc.mp y
     simpa using this.1
    rw [Qw (by rw [S.len];exact g)]at t;cases t;exact l j p x c A u rfl
   ·rw [Qq c]at A u;rw [Qq d]at y t;exact S.sep j k a x v n A y u t
theorem bF.turn{K:PySem.W.Frag}{F:J8->Prop}{H H₀:Hp}{N:L2.St}{ρ:List Sl}(S:bF K F H H₀ N ρ){i:Nat}{ds es:List D}{vs us:List V}{p:J8}(J:ρ[i]?=some (.own ds))(hs:N[i]?=some (some (.ref p)))
  (I:H p=some (.lst vs)) (M:¬ F p) (r:Reps K F H es us):bF K F (aJ H p (.lst us)) H₀ N (ρ.set i (.own es))/\bJ K F F H (aJ H p (.lst us)):=by
 have T:bJ K F F H (aJ H p (.lst us)):=⟨fun _ h=>h,fun a xs h=>by
   rcases h with(h | ⟨o,h⟩) | h
   ·exact .inl (.inl (by rw [aX (by intro z;subst z;rw [I]at h;cases h)];exact h))
   ·exact .inl (.inr ⟨o,by rw [aX (by intro z;subst z;rw [I]at h;cases h)];exact h⟩)
   ·exact .inr h,fun a xs f h=>by
   have x:a≠p:=fun z=>M (z ▸ f);rcases h with h | ⟨o,h⟩
   ·exact .inl (by rw [aX x];exact h)
   ·exact .inr ⟨o,by rw [aX x];exact h⟩,fun a φ f h=>by rw [aX (fun z=>M (by rw [<- z];exact f))];exact h⟩
 refine⟨⟨by simp [S.len],fun j s h=>?_,fun j k a u c Q h1 h2 h3=>?_,fun a f z=>S.fz a f (by
  have x:a≠p:=fun y=>M (by rw [<- y];exact f)
  rwa [aX x]at z)⟩,T⟩
 ·by_cases t:i=j
  ·subst t;have hl:i<ρ.length:=(Qc.mp J).1;rw [Qw hl]at h;cases h;obtain⟨a,Y,Z,_,_,q4,_⟩:=S.own J;rw [hs]at Z;cases Z
   exact⟨_,hs,p,us,rfl,cO,M,q4,r.stay T⟩
  ·rw [Qq t]at h;obtain⟨o,q,w⟩:=S.sl j s h
   refine⟨o,q,?_⟩
   cases s with
   | no=>trivial
   | ownM O=>
    obtain⟨a,c,X,e,m⟩:=w
    exact⟨a,c,X,e,m.to T fun b φ R B=>⟨by rw [aX (by intro z;subst z;rw [I]at R;cases R)];exact R,B⟩⟩
   | ownD O=>
    obtain⟨a,c,X,e,G,B,U,n,l,A⟩:=w
    exact⟨a,c,X,e,by rw [aX (by intro z;subst z;rw [I]at G;cases G)];exact G,B,U,n,l,A.stay T⟩
   | dat d=>obtain⟨v,e,A⟩:=w;exact⟨v,e,A.stay T⟩
   | own u=>
    obtain⟨a,Y,e,G,B,U,A⟩:=w
    have x:a≠p:=by
     intro z;subst z;exact S.sep i j a ds u t J h hs (by rw [q,e])
    exact⟨a,Y,e,by rw [aX x];exact G,B,U,A.stay T⟩
 ·have get:∀(m:Nat) (c:List D),(ρ.set i (.own es))[m]?=some (.own c)->∃ ds'':List D,ρ[m]?=some (.own ds''):=fun m c g=>by
   by_cases E:i=m
   ·subst E;exact⟨ds,J⟩
   ·rw [Qq E]at g;exact⟨c,g⟩
  obtain⟨d1,g1⟩:=get j u h1;obtain⟨d2,g2⟩:=get k c h2;exact S.sep j k a d1 d2 Q g1 g2 h3
def frz:Sl->Sl
 | .own b=>.dat (.list b)
 | .ownD a=>.dat (.dict a)
 | .ownM _=>.no
 | s=>s
def dM(b:L2.St)(ρ:List Sl)(a:J8):Prop:=(∃(i:Nat) (ds:List D),ρ[i]?=some (.own ds)/\b[i]?=some (some (.ref a))) ∨ ∃(i:Nat) (kvs:List (D × D)),ρ[i]?=some (.ownD kvs)/\b[i]?=some (some (.ref a))
theorem bF.frz{K:PySem.W.Frag}{F:J8->Prop}{H H₀:Hp}{t:L2.St}{ρ:List Sl}(S:bF K F H H₀ t ρ):bF K (fun a=>F a ∨ dM t ρ a) H H₀ t (ρ.map frz):=by
 have T:bJ K F (fun a=>F a ∨ dM t ρ a) H H:=⟨fun _ h=>.inl h,fun _ _ h=>h,fun _ _ _ h=>h,fun _ _ _ h=>h⟩
 refine⟨by simp [S.len],fun j s h=>?_,fun j k a z G _ p=>?_,fun a f=>?_⟩
 ·rw [QE]at h
  cases e:ρ[j]? with
  | none=>rw [e]at h;cases h
  | some u=>
   rw [e]at h;obtain⟨o,q,w⟩:=S.sl j u e
   refine⟨o,q,?_⟩
   cases u with
   | no=>cases h;trivial
   | ownM g=>cases h;trivial
   | ownD g=>
    cases h;obtain⟨a,G,I,c,y,B,E,n,l,r⟩:=w
    exact⟨.ref a,c,.dct (.inr (.inr ⟨j,g,e,by rw [q,c]⟩)) y n l (r.stay T)⟩
   | dat d=>cases h;obtain⟨v,c,r⟩:=w;exact⟨v,c,r.stay T⟩
   | own z=>
    cases h;obtain⟨a,A,c,y,B,E,r⟩:=w
    exact⟨.ref a,c,.lst (.inl ⟨.inr (.inl ⟨j,z,e,by rw [q,c]⟩),.inl y⟩) (r.stay T)⟩
 ·rw [QE]at p
  cases e:ρ[j]? with
  | none=>rw [e]at p;cases p
  | some u=>rw [e]at p;cases u <;> cases p
 ·rcases f with f | ⟨i,z,x,m⟩ | ⟨i,g,x,m⟩
  ·exact S.fz a f
  ·obtain⟨b,A,g1,g2,_⟩:=S.own x;rw [g1]at m;cases m;rw [g2];simp
  ·obtain⟨b,A,I,g1,g2,_⟩:=S.ownD x;rw [g1]at m;cases m;rw [g2];simp
end DL
namespace DL
open PySem.Spec L2
abbrev aA:=List Sl
section
variable {X:Cx}
theorem cR{e:Expr}{t t':TE}(h:PE X e t)(m:∀ σ H Q,t' σ H Q->t σ H Q):PE X e t':=fun a s σ H Q I q=>h a s σ H Q I (m σ H Q q)
theorem lC{e:Expr}{t t':TT}(h:PT X e t)(m:∀ σ H Q,t' σ H Q->t σ H Q):PT X e t':=fun a s σ H Q I q=>h a s σ H Q I (m σ H Q q)
theorem BR{e:Expr}{t t':TT}(h:PW X e t)(m:∀ σ H Q,t' σ H Q->t σ H Q):PW X e t':=fun b a s σ H Q I q=>h b a s σ H Q I (m σ H Q q)
theorem n8{es:List Expr}{t t':TA}(h:PA X es t)(m:∀ σ H Q,t' σ H Q->t σ H Q):PA X es t':=fun b a s σ H Q I q=>h b a s σ H Q I (m σ H Q q)
theorem ps_mono(h:PS X e t)(m:∀ W σ H,t' W σ H->t W σ H):PS X e t':=fun a s σ H W I q=>h a s σ H W I (m W σ H q)
theorem tI(h:fE X e t)(m:∀ W σ H,t' W σ H->t W σ H):fE X e t':=fun a s σ H W I q=>h a s σ H W I (m W σ H q)
theorem qF(h:bH X f r)(m:∀ x y H Q,r' x y H Q->r x y H Q):bH X f r':=fun a s b H x y v u Q I d c q=>h a s b H x y v u Q I d c (m x y H Q q)
theorem VO(h:mY X f r)(m:∀ x H Q,r' x H Q->r x H Q):mY X f r':=fun a s b H x v Q I c q=>h a s b H x v Q I c (m x H Q q)
theorem mB(h:cU X f r)(m:∀ x H Q,r' x H Q->r x H Q):cU X f r':=fun a s b H x v Q I c q=>h a s b H x v Q I c (m x H Q q)
theorem Rr(h:iK X r)(m:∀ x y H Q,r' x y H Q->r x y H Q):iK X r':=fun a b c s d H x y v u Q I f e q g=>h a b c s d H x y v u Q I f e (m x y H Q q) g
end
inductive mV(K:PySem.W.Frag)(σ:L2.St)(H:Hp){α:Type}(g:aA->Option α)(h:(J8->Prop)->α->Prop):Prop
 | mk (F:J8->Prop) (H₀:Hp) (ρ:aA) (x:α) (S:bF K F H H₀ σ ρ) (q:g ρ=some x) (k:h F x):mV K σ H g h
def tD(K:PySem.W.Frag)(g:aA->Option D):TE:=fun a H Q=>mV K a H g fun F d=>∀ F' H' v,aI F F' H H'->aS K F' H' d v->Q v H'
def o7(K:PySem.W.Frag)(g:aA->Option Bool):TT:=fun a H Q=>mV K a H g fun F b=>∀ F' H',aI F F' H H'->Q b H'
def DR(K:PySem.W.Frag)(g:aA->Option (List D)):TA:=fun a H Q=>mV K a H g fun F b=>∀ F' H' vs,aI F F' H H'->Reps K F' H' b vs->Q vs H'
def DE(X:Cx)(e:Expr)(g:aA->Option D):Prop:=PE X e (tD X.K g)
def DT(X:Cx)(e:Expr)(g:aA->Option Bool):Prop:=PT X e (o7 X.K g)
def DW(X:Cx)(e:Expr)(g:aA->Option Bool):Prop:=PW X e (o7 X.K g)
def DA(X:Cx)(es:List Expr)(g:aA->Option (List D)):Prop:=PA X es (DR X.K g)
def eC(d:D):aA->Option D:=fun _=>some d
def eV(i:Nat):aA->Option D:=fun a=>match a[i]? with
 | some (.dat d)=>some d
 | _=>none
def aF(f:D->D->Option D)(ga gb:aA->Option D):aA->Option D:=fun a=>(ga a).bind fun x=>(gb a).bind fun y=>f x y
def qX(f:D->Option D)(ga:aA->Option D):aA->Option D:=fun a=>(ga a).bind f
def aG:aA->Option (List D):=fun _=>some []
def aD(ga:aA->Option D)(gr:aA->Option (List D)):aA->Option (List D):=fun a=>(ga a).bind fun x=>(gr a).bind fun b=>some (x::b)
def c6(ga:aA->Option (List D)):aA->Option D:=fun b=>(ga b).bind fun a=>if a.length<=1000 then some (.tuple a)else none
def oO(ga:aA->Option (List D)):aA->Option D:=fun b=>(ga b).bind fun a=>if a.length<=1000 then some (.list a)else none
def aT(G:List D->Option D)(ga:aA->Option (List D)):aA->Option D:=fun a=>(ga a).bind G
def jC:D->Option Bool
 | .bool b=>some b
 | _=>none
def Dq:D->Option Int
 | .int i=>some i
 | _=>none
def eB(ga:aA->Option D):aA->Option Bool:=fun a=>(ga a).bind jC
def kM(t u:aA->Option Bool):aA->Option Bool:=fun a=>(t a).bind fun b=>if b=true then u a else some false
def lP(t u:aA->Option Bool):aA->Option Bool:=fun a=>(t a).bind fun b=>if b=true then some true else u a
def lO(t:aA->Option Bool):aA->Option Bool:=fun a=>(t a).bind fun b=>some (!b)
def m7(t:aA->Option Bool)(ga gb:aA->Option D):aA->Option D:=fun a=>(t a).bind fun b=>if b=true then ga a else gb a
def kY(ga gb:aA->Option D):aA->Option D:=fun a=>(ga a).bind fun x=>(jC x).bind fun c=>if c=true then gb a else some (.bool false)
def Ds(ga gb:aA->Option D):aA->Option D:=fun a=>(ga a).bind fun x=>(jC x).bind fun c=>if c=true then some (.bool true)else gb a
def FT(ga:aA->Option D):aA->Option D:=fun a=>(ga a).bind fun x=>(jC x).bind fun c=>some (.bool (!c))
def p4(h h':D->D->Option D)(ga gb b:aA->Option D):aA->Option D:=fun a=>(ga a).bind fun x=>(gb a).bind fun y=>(h x y).bind fun z=>(jC z).bind fun k=>if k=true then(b a).bind fun w=>h' y w else some (.bool false)
inductive Dg(K:PySem.W.Frag)(h:D->D->Option D)(x y:V)(H:Hp)(Q:VK):Prop
 | mk (F:J8->Prop) (d e r:D) (z:∀ a,F a->H a≠none) (R1:aS K F H d x) (R2:aS K F H e y) (q:h d e=some r) (k:∀ F' H' v,aI F F' H H'->aS K F' H' r v->Q v H'):Dg K h x y H Q
def cE(K:PySem.W.Frag)(h:D->D->Option D):R2:=fun x y H Q=>Dg K h x y H Q
inductive Df(K:PySem.W.Frag)(h:D->Option D)(x:V)(H:Hp)(Q:VK):Prop
 | mk (F:J8->Prop) (d r:D) (z:∀ a,F a->H a≠none) (R1:aS K F H d x) (q:h d=some r) (k:∀ F' H' v,aI F F' H H'->aS K F' H' r v->Q v H'):Df K h x H Q
def DM(K:PySem.W.Frag)(h:D->Option D):V->Hp->VK->Prop:=fun x H Q=>Df K h x H Q
inductive Dh(K:PySem.W.Frag)(h:List D->Option D)(xs:List V)(H:Hp)(Q:VK):Prop
 | mk (F:J8->Prop) (ds:List D) (r:D) (z:∀ a,F a->H a≠none) (R1:Reps K F H ds xs) (q:h ds=some r) (k:∀ F' H' v,aI F F' H H'->aS K F' H' r v->Q v H'):Dh K h xs H Q
def iR(K:PySem.W.Frag)(h:List D->Option D):List V->Hp->VK->Prop:=fun a H Q=>Dh K h a H Q
section
variable {X:Cx}{a b c e:Expr}{es:List Expr}{ga gb gc:aA->Option D}{pos p:Pos}
theorem aE{d c:Type}{o:Option d}{f:d->Option c}{b:c}(h:o.bind f=some b):∃ a,o=some a/\f a=some b:=by
 cases o with
 | none=>cases h
 | some a=>exact⟨a,rfl,h⟩
theorem Ee(h:PE X e (tC v))(r:∀ K F H,aS K F H d v):DE X e (eC d):=
 cR h fun c H Q b=>by
  obtain⟨F,a,f,g,S,q,k⟩:=b;cases q;exact k F H v (aI.refl F H) (r _ _ _)
theorem aN:DE X (.Constant (.int i) j pos) (eC (.int i)):=Ee Gk fun _ _ _=>.int i
theorem iD:DE X (.Constant (.bool i) j pos) (eC (.bool i)):=Ee GV fun _ _ _=>.bl i
theorem aC(i:Nat)(j:X.N[i]?=some x:=by rfl)(f:fY X.env.scope x:=by first | exact Zx rfl | exact Zl (Zx rfl) | exact Zl (Zl rfl))(h:(x == ("__debug__":Str))=false:=by decide)
  (a:(x == ("__classdict__":Str))=false:=by decide):DE X (.Name x pos) (eV i):=
 cR (fS j f h a) fun l H Q c=>by
  obtain⟨F,b,m,d,S,q,k⟩:=c;unfold eV at q
  split at q
  ·rename_i n e;cases q;obtain⟨v,g,r⟩:=S.dat e
   exact⟨v,g,k F H v (aI.refl F H) r⟩
  ·cases q
theorem xL{h:D->D->Option D}{b:L2.St}{H:Hp}{Q:VK}(q:tD X.K (aF h ga gb) b H Q):nG (cE X.K h) (tD X.K ga) (tD X.K gb) b H Q:=by
 obtain⟨F,a,c,d,S,q,k⟩:=q;obtain⟨x,f,q⟩:=aE q;obtain⟨y,e,q⟩:=aE q
 exact⟨F,a,c,x,S,f,fun m p v E1 R1=>⟨m,a,c,y,S.ext E1,e,fun l o u E2 R2=>⟨l,x,y,d,((S.ext E1).ext E2).fz,R1.stay E2.stay,R2,q,fun j i w n g=>k j i w (E1.trans (E2.trans n)) g⟩⟩⟩
theorem bG(c:bH X (ZH op) (cE X.K h))(e:DE X a ga)(d:DE X b gb):DE X (.BinOp a op b pos) (aF h ga gb):=
 cR (Go c e d) fun _ _ _ q=>xL q
theorem sM(c:bH X (Zm op) (cE X.K h))(f:DE X a ga)(e:DE X b gb)(d:ZR op b=false):DE X (.Compare a [op] [b] pos) (aF h ga gb):=
 cR (GW c f e d) fun _ _ _ q=>xL q
theorem bC(c:iK X (cE X.K h))(e:DE X a ga)(d:DE X b gb)(hs:A6 b:=by exact fun _ _=>rfl):DE X (.Subscript a b pos) (aF h ga gb):=
 cR (Gm c e d hs) fun _ _ _ q=>xL q
theorem AF{op:UnaryOp}{h:D->Option D}(f:mY X (unaryOp op) (DM X.K h))(g:DE X a ga):DE X (.UnaryOp op a pos) (qX h ga):=
 cR (Mr f g) fun r H Q e=>by
  obtain⟨F,b,c,d,S,q,k⟩:=e;obtain⟨x,i,q⟩:=aE q
  exact⟨F,b,c,x,S,i,fun o s v E1 l=>⟨o,x,d,(S.ext E1).fz,l,q,fun n m w p j=>k n m w (E1.trans p) j⟩⟩
theorem lD{K:PySem.W.Frag}{F:J8->Prop}{H:Hp}{d:D}{v:V}{b:Bool}(r:aS K F H d v)(h:jC d=some b):v=.bl b:=by
 cases r with
 | bl c=>cases h;rfl
 | _=>cases h
theorem To{K:PySem.W.Frag}{F:J8->Prop}{H:Hp}{d:D}{v:V}{i:Int}(r:aS K F H d v)(h:Dq d=some i):v=.int i:=by
 cases r with
 | int c=>cases h;rfl
 | _=>cases h
theorem LF{t:TE}{g:aA->Option D}(m:∀ a H Q,tD X.K g a H Q->t a H Q){a:L2.St}{H:Hp}{Q:Bool->Hp->Prop}(q:o7 X.K (eB g) a H Q):v7 t a H Q:=by
 obtain⟨F,c,e,b,S,q,k⟩:=q;obtain⟨d,f,q⟩:=aE q;exact m a H _ ⟨F,c,e,d,S,f,fun j i v l h=>⟨b,lD h q,k j i l⟩⟩
theorem e9(c:bH X (Zm op) (cE X.K h))(f:DE X a ga)(e:DE X b gb)(d:ZR op b=false):DT X (.Compare a [op] [b] pos) (eB (aF h ga gb)):=
 lC (BQ c f e d) fun _ _ _ q=>LF (fun _ _ _=>xL) q
theorem LE{h h':D->D->Option D}{c:L2.St}{H:Hp}{Q:VK}(q:tD X.K (p4 h h' ga gb gc) c H Q):v6 (cE X.K h) (cE X.K h') (tD X.K ga) (tD X.K gb) (tD X.K gc) c H Q:=by
 obtain⟨F,a,b,d,S,q,k⟩:=q;obtain⟨x,o,q⟩:=aE q;obtain⟨y,n,q⟩:=aE q;obtain⟨z,m,q⟩:=aE q;obtain⟨f,l,q⟩:=aE q
 refine⟨F,a,b,x,S,o,fun I R v E1 R1=>⟨I,a,b,y,S.ext E1,n,fun G O u E2 R2=>⟨G,x,y,z,((S.ext E1).ext E2).fz,R1.stay E2.stay,R2,m,fun g A w E3 s=>⟨f,lD s l,?_⟩⟩⟩⟩
 cases f with
 | false=>
  simp only [Qg,if_false]at q ⊢;cases q;exact k g A _ (E1.trans (E2.trans E3)) (.bl false)
 | true=>
  simp only [if_true]at q ⊢;obtain⟨e,j,q⟩:=aE q;have S3:=((S.ext E1).ext E2).ext E3
  exact⟨g,a,b,e,S3,j,fun E N M E4 r=>⟨E,y,e,d,(S3.ext E4).fz,(R2.stay E3.stay).stay E4.stay,r,q,fun B t i J p=>k B t i (E1.trans (E2.trans (E3.trans (E4.trans J)))) p⟩⟩
theorem vW(e:bH X (Zm op) (cE X.K h))(d:bH X (Zm op') (cE X.K h'))(j:DE X a ga)(i:DE X b gb)(g:DE X c gc)
  (f:lastMarks [op,op'] [b,c]=false:=by with_unfolding_all rfl):DE X (.Compare a [op,op'] [b,c] pos) (p4 h h' ga gb gc):=
 cR (Ru e d j i g f) fun _ _ _ q=>LE q
theorem mE(g:DE X a ga)(he:∀ whole,isTrue a X.env whole=(do let v <- whole;standAt a.pos;UE [v] (truthy v)):=by intro _;rfl):DT X a (eB ga):=
 lC (Im g he) fun n H Q f=>by
  obtain⟨F,c,e,b,S,q,k⟩:=f;obtain⟨d,h,q⟩:=aE q
  exact⟨F,c,e,d,S,h,fun l j v m i=>⟨b,lD i q,k l j m⟩⟩
variable {t u:aA->Option Bool}{rest:List Expr}
theorem FS(b:DT X a t):DW X (.BoolOp .And [a] pos) t:=VB b
theorem AQ(b:DT X a t):DW X (.BoolOp .Or [a] pos) t:=Is b
theorem FR(i:DT X a t)(h:DW X (.BoolOp .And (b::rest) pos) u):DW X (.BoolOp .And (a::b::rest) pos) (kM t u):=
 BR (VA i h) fun p H Q g=>by
  obtain⟨F,c,e,r,S,q,k⟩:=g;obtain⟨d,j,q⟩:=aE q
  refine⟨F,c,e,d,S,j,fun f m E1=>?_⟩
  cases d with
  | true=>simp only [if_true]at q ⊢;exact⟨f,c,e,r,S.ext E1,q,fun n l o=>k n l (E1.trans o)⟩
  | false=>simp only [Qg,if_false]at q ⊢;cases q;exact k f m E1
theorem AO(i:DT X a t)(h:DW X (.BoolOp .Or (b::rest) pos) u):DW X (.BoolOp .Or (a::b::rest) pos) (lP t u):=
 BR (Ir i h) fun p H Q g=>by
  obtain⟨F,c,e,r,S,q,k⟩:=g;obtain⟨d,j,q⟩:=aE q
  refine⟨F,c,e,d,S,j,fun f m E1=>?_⟩
  cases d with
  | false=>simp only [Qg,if_false]at q ⊢;exact⟨f,c,e,r,S.ext E1,q,fun n l o=>k n l (E1.trans o)⟩
  | true=>simp only [if_true]at q ⊢;cases q;exact k f m E1
theorem qW(h:DW X a t):DT X a t:=PW.pt h
theorem rR(f:DT X a t):DT X (.UnaryOp .Not a pos) (lO t):=
 lC (Il f) fun l H Q e=>by
  obtain⟨F,b,c,r,S,q,k⟩:=e;obtain⟨d,g,q⟩:=aE q;cases q
  exact⟨F,b,c,d,S,g,fun i h j=>k i h j⟩
theorem sN(b:DE X a ga):DE X (.BoolOp op [a] pos) ga:=RA b
theorem vV(j:DE X a ga)(i:DE X (.BoolOp .And (b::rest) pos) gb):DE X (.BoolOp .And (a::b::rest) pos) (kY ga gb):=
 cR (R5 j i) fun u H Q h=>by
  obtain⟨F,e,f,r,S,q,k⟩:=h;obtain⟨d,m,q⟩:=aE q;obtain⟨c,l,q⟩:=aE q
  refine⟨F,e,f,d,S,m,fun g p v E1 n=>⟨c,lD n l,?_⟩⟩
  cases c with
  | true=>simp only [if_true]at q ⊢;exact⟨g,e,f,r,S.ext E1,q,fun s o w t R2=>k s o w (E1.trans t) R2⟩
  | false=>simp only [Qg,if_false]at q ⊢;cases q;exact k g p _ E1 (.bl false)
theorem La(j:DE X a ga)(i:DE X (.BoolOp .Or (b::rest) pos) gb):DE X (.BoolOp .Or (a::b::rest) pos) (Ds ga gb):=
 cR (Mq j i) fun u H Q h=>by
  obtain⟨F,e,f,r,S,q,k⟩:=h;obtain⟨d,m,q⟩:=aE q;obtain⟨c,l,q⟩:=aE q
  refine⟨F,e,f,d,S,m,fun g p v E1 n=>⟨c,lD n l,?_⟩⟩
  cases c with
  | false=>simp only [Qg,if_false]at q ⊢;exact⟨g,e,f,r,S.ext E1,q,fun s o w t R2=>k s o w (E1.trans t) R2⟩
  | true=>simp only [if_true]at q ⊢;cases q;exact k g p _ E1 (.bl true)
theorem Ot(g:DE X a ga):DE X (.UnaryOp .Not a pos) (FT ga):=
 cR (Rz g) fun o H Q f=>by
  obtain⟨F,b,e,r,S,q,k⟩:=f;obtain⟨d,i,q⟩:=aE q;obtain⟨c,h,q⟩:=aE q;cases q
  exact⟨F,b,e,d,S,i,fun m l v n j=>⟨c,lD j h,k m l _ n (.bl _)⟩⟩
theorem AC(m:DT X c t)(o:DE X a ga)(n:DE X b gb):DE X (.IfExp c a b pos) (m7 t ga gb):=
 cR (Rw m o n) fun s H Q l=>by
  obtain⟨F,e,f,r,S,q,k⟩:=l;obtain⟨d,p,q⟩:=aE q
  refine⟨F,e,f,d,S,p,fun j u E1=>?_⟩
  cases d with
  | true=>simp only [if_true]at q ⊢;exact⟨j,e,f,r,S.ext E1,q,fun h g w i R2=>k h g w (E1.trans i) R2⟩
  | false=>simp only [Qg,if_false]at q ⊢;exact⟨j,e,f,r,S.ext E1,q,fun h g w i R2=>k h g w (E1.trans i) R2⟩
variable {gr:aA->Option (List D)}
theorem aP:DA X [] aG:=n8 iV fun c H Q b=>by
 obtain⟨F,a,e,d,S,q,k⟩:=b;cases q;exact k F H [] (aI.refl F H) .nil
theorem Oo(h:DE X e ga)(g:DA X es gr)(hs:Za (e::es) X.env=(false,Zr e X.env)::Za es X.env:=by rfl):DA X (e::es) (aD ga gr):=
 n8 (gY h g hs) fun o H Q c=>by
  obtain⟨F,a,b,d,S,q,k⟩:=c;obtain⟨x,j,q⟩:=aE q;obtain⟨f,i,q⟩:=aE q;cases q
  exact⟨F,a,b,x,S,j,fun n r v E1 R1=>⟨n,a,b,f,S.ext E1,i,fun m l p E2 R2=>k m l _ (E1.trans E2) (.cons (R1.stay E2.stay) R2)⟩⟩
theorem gJ{n:Nat}(h:n<=1000):n<=sizeLine:=YQ (tT h)
theorem Ov{x1}(h:DA X es gr):DE X (.Tuple es x1 pos) (c6 gr):=
 cR (RC h) fun l H Q g=>by
  obtain⟨F,a,f,d,S,q,k⟩:=g;obtain⟨c,i,q⟩:=aE q
  refine⟨F,a,f,c,S,i,fun j n m E1 R1=>?_⟩
  by_cases b:c.length<=1000
  ·rw [if_pos b]at q;cases q
   refine⟨gJ (by rw [<- R1.length];exact b),fun p e=>k j _ _ (E1.trans (aI.fresh e)) (aS.newTup e R1)⟩
  ·rw [if_neg b]at q;cases q
theorem vX(h:DA X es gr):DE X (.List es pos) (oO gr):=
 cR (BJ h) fun j H Q g=>by
  obtain⟨F,a,f,d,S,q,k⟩:=g;obtain⟨c,i,q⟩:=aE q
  refine⟨F,a,f,c,S,i,fun n m l E1 R1=>?_⟩
  by_cases b:c.length<=1000
  ·rw [if_pos b]at q;cases q
   refine⟨gJ (by rw [<- R1.length];exact b),fun p e=>k _ _ _ (E1.trans (aI.frozen e)) (aS.newLst e R1)⟩
  ·rw [if_neg b]at q;cases q
theorem Hc{h:List D->Option D}{b:L2.St}{H:Hp}{Q:VK}(q:tD X.K (aT h gr) b H Q):Af (iR X.K h) (DR X.K gr) b H Q:=by
 obtain⟨F,a,e,d,S,q,k⟩:=q;obtain⟨c,f,q⟩:=aE q
 exact⟨F,a,e,c,S,f,fun l o n E1 g=>⟨l,c,d,(S.ext E1).fz,g,q,fun j i w m R2=>k j i w (E1.trans m) R2⟩⟩
theorem gI{id:String}{x:Str}{h:List D->Option D}(g:cU X (.builtin id) (iR X.K h))(f:Gl X x)(d:X.mg x=none)(b:ZD x=some (.builtin id))(i:DA X (e::es) gr)(c:x≠"__name__":=by decide)(a:(x == ("__debug__":Str))=false:=by decide)
  (he:Za (e::es) X.env=(false,Zr e X.env)::Za es X.env:=by rfl) (hpl:(Zw pos (Za es X.env)).any (·.1)=false:=by rfl):DE X (.Call (.Name x p) (e::es) [] pos) (aT h gr):=
 cR (BH g f d b i c a he hpl) fun _ _ _ q=>Hc q
theorem sL(g:cU X (.type T) (iR X.K h))(f:Gl X x)(d:X.mg x=none)(b:ZD x=some (.type T))(i:DA X (e::es) gr)(c:x≠"__name__":=by decide)(a:(x == ("__debug__":Str))=false:=by decide)
  (he:Za (e::es) X.env=(false,Zr e X.env)::Za es X.env:=by rfl) (hpl:(Zw pos (Za es X.env)).any (·.1)=false:=by rfl):DE X (.Call (.Name x p) (e::es) [] pos) (aT h gr):=
 cR (BI g f d b i c a he hpl) fun _ _ _ q=>Hc q
def aY(K:PySem.W.Frag)(n:Nat)(G:List D->Option D):Sp:=fun b H Q _=>∃(F:J8->Prop) (ds:List D) (d:D),ds.length=n/\(∀ a,F a->H a≠none)/\Reps K F H ds b/\G ds=some d/\∀ F' H' v,aI F F' H H'->aS K F' H' d v->Q v H'
theorem Oq{k n:Nat}{f:J8}{h:Zp}{ps:List Str}{x:Str}{G:List D->Option D}(F:aM X.prog X.w X.K X.mg X.base aO k f h ps (aY X.K n G))(m:cA k X.A)(s:Gl X x)(o:X.mg x=some (.ref f))(r:PySem.W.keepIn X.K (.ref f)=true)(t:Binds X.K h ps [])
  (u:DA X (e::es) gr) (c:∀ ρ ds,gr ρ=some ds->ds.length=n) (g:(x == ("__debug__":Str))=false:=by decide) (he:Za (e::es) X.env=(false,Zr e X.env)::Za es X.env:=by rfl) (hpl:(Zw pos (Za es X.env)).any (·.1)=false:=by rfl):
  DE X (.Call (.Name x p) (e::es) [] pos) (aT G gr):=
 cR (tG (E:=E0) F m s o r t .nil k9 u g he hpl) fun M H Q j=>by
  obtain⟨F,a,ρ,d,S,q,k⟩:=j;obtain⟨b,i,q⟩:=aE q
  exact⟨F,a,ρ,b,S,i,fun I z l E1 v=>by
   show aY X.K n G (l++[]) z Q E0
   rw [QP]
   exact⟨I,b,d,c ρ b i,(S.ext E1).fz,v,q,fun B y w J R2=>k B y w (E1.trans J) R2⟩⟩
theorem OQ(h:aG ρ=some ds):ds.length=0:=by cases h;rfl
theorem vZ{n:Nat}(h':∀ ρ ds,gr ρ=some ds->ds.length=n)(ρ:aA)(ds:List D)(h:aD ga gr ρ=some ds):ds.length=n+1:=by
 obtain⟨x,c,q⟩:=aE h;obtain⟨a,b,q⟩:=aE q;cases q
 simp [h' ρ a b]
end
end DL
namespace EX
open PySem.Spec L2
def Ku(h:Heap)(e:J8)(cls:YP)(a:Option J8):Prop:=
 ∃ oe vs,h.get? e=some oe/\oe.cls=cls/\oe.data=.fields vs/\match a with
  | none=>vs[1]?=some .none
  | some T=>vs[1]?=some (.ref T)/\T≠e/\∃ oT ts,h.get? T=some oT/\oT.data=.fields ts/\ts[3]?=some .none
structure ThrownC(X:Cx)(pins:List (J8 × Obj))(H:Hp)(s:J9)(a:J8)(cls:YP)(tr:Option J8):Prop where
 fly:Ku s.heap a cls tr
 new:∀ b,(b=a ∨ some b=tr)->X.s₀.heap.get? b=none/\H b=none/\b≠X.env.locals/\(∀ x c,X.env.cells.lookup x=some c->c≠b)/\∀ p∈X.pn++pins,p.1≠b
section
variable {M:Model}{A:Around}{E:YP->J9->Prop}{s:J9}
end
end EX
namespace DL
open PySem.Spec L2
inductive bD where
 | nx (ρ:aA)
 | rt (d:D)
 | bk (ρ:aA)
 | ct (ρ:aA)
 | ex (x:Str) (ρ:aA)
theorem bJ.refl(K:PySem.W.Frag)(F:J8->Prop)(H:Hp):bJ K F F H H:=⟨fun _ h=>h,fun _ _ h=>h,fun _ _ _ h=>h,fun _ _ _ h=>h⟩
theorem bJ.trans{K:PySem.W.Frag}{F i g:J8->Prop}{H e H2:Hp}(a:bJ K F i H e)(b:bJ K i g e H2):bJ K F g H H2:=
 ⟨fun x h=>b.up x (a.up x h),fun x c h=>b.tp x c (a.tp x c h),fun x c f h=>b.ls x c (a.up x f) (a.ls x c f h),fun x d f h=>b.xt x d (a.up x f) (a.xt x d f h)⟩
def sI(X:Cx)(b:J8->Prop)(H₀:Hp)(F:J8->Prop)(H:Hp)(W:jS):bD->Prop
 | .nx ρ=>∀ F' H' σ,aI b F' H₀ H'->bJ X.K F F' H H'->bF X.K F' H' H₀ σ ρ->W.nx σ H'
 | .rt d=>∀ F' H' v,aI b F' H₀ H'->aS X.K F' H' d v->W.rt v H'
 | .bk ρ=>∀ F' H' σ,aI b F' H₀ H'->bJ X.K F F' H H'->bF X.K F' H' H₀ σ ρ->W.bk σ H'
 | .ct ρ=>∀ F' H' σ,aI b F' H₀ H'->bJ X.K F F' H H'->bF X.K F' H' H₀ σ ρ->W.ct σ H'
 | .ex x ρ=>∀ F' H' σ pins s a C tr,aI b F' H₀ H'->bF X.K F' H' H₀ σ ρ->Inv X pins σ H' s->PySem.W.nsIn X.K Zv x=some (some (.ref C))->EX.ThrownC X pins H' s a (.ref C) tr->X.xe (.ref a) s
theorem sI.from{X:Cx}{a F h:J8->Prop}{H₀ H g:Hp}{W:jS}{o:bD}(T:bJ X.K F h H g)(k:sI X a H₀ F H W o):sI X a H₀ h g W o:=by
 cases o with
 | nx ρ=>exact fun f e b E c S=>k f e b E (T.trans c) S
 | rt d=>exact k
 | bk ρ=>exact fun f e b E c S=>k f e b E (T.trans c) S
 | ct ρ=>exact fun f e b E c S=>k f e b E (T.trans c) S
 | ex x ρ=>exact k
inductive Dk(X:Cx)(g:aA->Option bD)(W:jS)(σ:L2.St)(H:Hp):Prop
 | mk (F₀:J8->Prop) (H₀:Hp) (F:J8->Prop) (ρ:aA) (o:bD) (E:aI F₀ F H₀ H) (S:bF X.K F H H₀ σ ρ) (q:g ρ=some o) (k:sI X F₀ H₀ F H W o):Dk X g W σ H
def uV(X:Cx)(g:aA->Option bD):TS:=fun W a H=>Dk X g W a H
def DS(X:Cx)(a:ZE)(g:aA->Option bD):Prop:=PS X a (uV X g)
def jR(X:Cx)(a:List ZE)(g:aA->Option bD):Prop:=fE X a (uV X g)
def bO(g1 g2:aA->Option bD):aA->Option bD:=fun a=>(g1 a).bind fun o=>match o with
 | .nx ρ'=>g2 ρ'
 | o=>some o
def gL:aA->Option bD:=fun a=>some (.nx a)
def cJ(g:aA->Option D):aA->Option bD:=fun a=>(g (a.map frz)).bind fun d=>some (.rt d)
def dO(i:Nat)(g:aA->Option D):aA->Option bD:=fun a=>(g a).bind fun d=>some (.nx (a.set i (.dat d)))
def o6(i:Nat)(g:aA->Option (List D)):aA->Option bD:=fun a=>(g a).bind fun b=>if b.length<=1000 then some (.nx (a.set i (.own b)))else none
def Fj(i:Nat)(ρ:aA):aA:=match ρ[i]? with
 | some (.own ds)=>ρ.set i (.dat (.list ds))
 | _=>ρ
def eU(t:aA->Option Bool)(g1 g2:aA->Option bD):aA->Option bD:=fun a=>(t (a.map frz)).bind fun b=>if b=true then g1 a else g2 a
def mK(g:aA->Option D):aA->Option bD:=fun a=>(g a).bind fun _=>some (.nx a)
def o3(i:Nat)(g:aA->Option D):aA->Option bD:=fun a=>match a[i]? with
 | some (.own ds)=>(g a).bind fun d=>if ds.length<1000 then some (.nx (a.set i (.own (ds++[d]))))else none
 | _=>none
def mO(t:aA->Option Bool)(g:aA->Option bD):Nat->aA->Option bD
 | 0,_=>none
 | n+1,ρ=>(t (ρ.map frz)).bind fun b=>if b=true then(g ρ).bind fun o=>match o with
   | .nx ρ'=>mO t g n ρ'
   | .ct ρ'=>mO t g n ρ'
   | .bk ρ'=>some (.nx ρ')
   | .rt d=>some (.rt d)
   | .ex x ρ'=>some (.ex x ρ')
  else some (.nx ρ)
def iN(s:D->aA->Option aA)(g:aA->Option bD):List D->aA->Option bD
 | [],ρ=>some (.nx ρ)
 | d::ds,ρ=>(s d ρ).bind fun a=>(g a).bind fun o=>match o with
   | .nx ρ'=>iN s g ds ρ'
   | .ct ρ'=>iN s g ds ρ'
   | .bk ρ'=>some (.nx ρ')
   | .rt d=>some (.rt d)
   | .ex x ρ'=>some (.ex x ρ')
def j6(gi:aA->Option (List D))(s:D->aA->Option aA)(g:aA->Option bD):aA->Option bD:=fun a=>(gi a).bind fun b=>iN s g b a
section
variable {X:Cx}{e a b c tg:Expr}{es:List Expr}{st:ZE}{rest body orelse:List ZE}{g g1 g2 gb:aA->Option bD}{ga:aA->Option D}{gr:aA->Option (List D)}{t:aA->Option Bool}{pos p:Pos}
theorem jI:jR X [] gL:=tI Ik fun W c H d=>by
 obtain⟨b,a,F,e,o,E,S,q,k⟩:=d;cases q;exact k F H c E (bJ.refl _ F H) S
theorem TJ(E:aI F₀ F H₀ H)(S:bF X.K F H H₀ σ ρ)(q:bO g1 g2 ρ=some o)(k:sI X F₀ H₀ F H W o):uV X g1 { W with nx:=uV X g2 W } σ H:=by
 obtain⟨a,c,q⟩:=aE q
 refine⟨F₀,H₀,F,ρ,a,E,S,c,?_⟩
 cases a with
 | nx ρ'=>exact fun g i b h e f=>⟨F₀,H₀,g,ρ',o,h,f,q,k.from e⟩
 | rt d=>cases q;exact k
 | bk ρ'=>cases q;exact k
 | ct ρ'=>cases q;exact k
 | ex x ρ'=>cases q;exact k
theorem bT(d:DS X st g1)(c:jR X rest g2):jR X (st::rest) (bO g1 g2):=
 tI (yA d c) fun W e H ⟨b,a,F,f,o,E,S,q,k⟩=>TJ E S q k
theorem bR(a:DS X st g):jR X [st] g:=wG a
theorem aI.thaw{K:PySem.W.Frag}{c F j:J8->Prop}{H₀ H H':Hp}{h:L2.St}{ρ:aA}(E:aI c F H₀ H)(S:bF K F H H₀ h ρ)(E':aI (fun a=>F a ∨ dM h ρ a) j H H'):aI c j H₀ H':=
 ⟨E.same.trans E'.same,fun a f=>E'.up a (.inl (E.up a f)),fun a f=>by
  rcases E'.new a f with(f | ⟨i,o,e,d⟩ | ⟨i,o,e,d⟩) | ⟨m,l⟩
  ·rcases E.new a f with f | ⟨f,n⟩
   ·exact .inl f
   ·exact .inr ⟨f,fun z=>n (E'.same.free z)⟩
  ·obtain⟨b,k,g1,g2,_,g,_⟩:=S.own e;rw [g1]at d;cases d;exact .inr ⟨g,by rw [E'.same _ _ g2];simp⟩
  ·obtain⟨b,k,p,g1,g2,_,g,_⟩:=S.ownD e;rw [g1]at d;cases d;exact .inr ⟨g,by rw [E'.same _ _ g2];simp⟩
  ·exact .inr ⟨E.same.free m,l⟩⟩
theorem cW(g:DE X e ga):DS X (.Return (some e) pos) (cJ ga):=ps_mono (BP g) fun W n H f=>by
 obtain⟨b,a,F,c,o,E,S,q,k⟩:=f;obtain⟨d,h,q⟩:=aE q;cases q
 exact⟨_,a,c.map frz,d,S.frz,h,fun l j v m i=>k l j v (E.thaw S m) i⟩
theorem eO(m:X.N.Nodup)(l:DE X e ga)(h:X.N[i]?=some x:=by rfl)(g:hE X.env.scope x:=by first | exact Zx rfl | exact Zl rfl)(hs:ZI e (some (.Name x pos')) pos.line X.env=pure false:=by rfl)(j:X.fn x=true ∨ X.env.scope.names.lookup x=some .local:=by first | exact .inl rfl | exact .inr rfl | assumption):
  DS X (.Assign [.Name x pos'] e pos) (dO i ga):=ps_mono (lA m h g l hs j) fun W t H f=>by
 obtain⟨b,a,F,c,o,E,S,q,k⟩:=f;obtain⟨d,n,q⟩:=aE q;cases q
 exact⟨F,a,c,d,S,n,fun s r v E' p=>k s r _ (E.trans E') E'.stay ((S.ext E').put p)⟩
theorem aI.lend{K:PySem.W.Frag}{F g:J8->Prop}{H H₀ H':Hp}{d:L2.St}{ρ:aA}(S:bF K F H H₀ d ρ)(E':aI (fun a=>F a ∨ dM d ρ a) g H H'):aI F (fun a=>g a/\¬ dM d ρ a) H H':=
 ⟨E'.same,fun a f=>⟨E'.up a (.inl f),fun z=>by
   rcases z with⟨i,k,e,c⟩ | ⟨i,k,e,c⟩
   ·obtain⟨b,j,g1,g2,g3,_⟩:=S.own e;rw [g1]at c;cases c;exact g3 f
   ·obtain⟨b,j,l,g1,g2,g3,_⟩:=S.ownD e;rw [g1]at c;cases c
    exact g3 f⟩,fun a h=>by
  obtain⟨f,n⟩:=h;rcases E'.new a f with(f | f) | f
  ·exact .inl f
  ·exact absurd f n
  ·exact .inr f⟩
theorem rQ(n:X.N.Nodup)(m:DA X es gr)(j:X.N[i]?=some x:=by rfl)(h:hE X.env.scope x:=by first | exact Zx rfl | exact Zl rfl)(hs:ZI (.List es pos'') (some (.Name x pos')) pos.line X.env=pure false:=by rfl)(l:X.fn x=true ∨ X.env.scope.names.lookup x=some .local:=by first | exact .inl rfl | exact .inr rfl | assumption):
  DS X (.Assign [.Name x pos'] (.List es pos'') pos) (o6 i gr):=ps_mono (lA n j h (BJ m) hs l) fun W s H g=>by
 obtain⟨e,a,F,f,o,E,S,q,k⟩:=g;obtain⟨d,p,q⟩:=aE q;by_cases c:d.length<=1000
 ·rw [if_pos c]at q;cases q
  refine⟨F,a,f,d,S,p,fun r v t E' R'=>⟨gJ (by rw [<- R'.length];exact c),fun u b=>?_⟩⟩
  exact k r _ _ ((E.trans E').trans (aI.fresh b)) (E'.stay.trans (aI.fresh b).stay) ((S.ext E').putOwn b ((E.trans E').same.free b) R')
 ·rw [if_neg c]at q;cases q
theorem jH(f:DT X c t)(h:jR X body g1)(g:jR X orelse g2):DS X (.If c body orelse pos) (eU t g1 g2):=ps_mono (Ij f h g) fun W j H e=>by
 obtain⟨b,a,F,d,o,E,S,q,k⟩:=e;obtain⟨r,i,q⟩:=aE q
 refine⟨_,a,d.map frz,r,S.frz,i,fun m l E'=>?_⟩
 have E2:=E'.lend S
 cases r with
 | true=>simp only [if_true]at q ⊢;exact⟨b,a,_,d,o,E.trans E2,S.ext E2,q,k.from E2.stay⟩
 | false=>simp only [Qg,if_false]at q ⊢;exact⟨b,a,_,d,o,E.trans E2,S.ext E2,q,k.from E2.stay⟩
theorem rO(h:DE X e ga)(hs:ZI e none pos.line X.env=pure false:=by rfl):DS X (.Expr e pos) (mK ga):=ps_mono (qK h hs) fun W c H g=>by
 obtain⟨b,a,F,f,o,E,S,q,k⟩:=g;obtain⟨d,i,q⟩:=aE q;cases q
 exact⟨F,a,f,d,S,i,fun l j v E' m=>k l j c (E.trans E') E'.stay (S.ext E')⟩
theorem aI.turn{c F:J8->Prop}{H₀ H:Hp}{p:J8}{o:HO}(E:aI c F H₀ H)(e:H₀ p=none):aI c F H₀ (aJ H p o):=
 ⟨fun b u q=>by rw [aX (iF q e)];exact E.same b u q,E.up,fun a f=>by
  rcases E.new a f with f | ⟨h,g⟩
  ·exact .inl f
  ·refine .inr ⟨h,fun z=>?_⟩;by_cases d:a=p
   ·subst d;rw [cO]at z;cases z
   ·rw [aX d]at z;exact g z⟩
theorem FP(K:DE X e ga)(M:X.N[i]?=some x:=by rfl)(I:fY X.env.scope x:=by first | exact Zx rfl | exact Zl (Zx rfl) | exact Zl (Zl rfl))(J:(x == ("__debug__":Str))=false:=by decide)
  (r:(x == ("__classdict__":Str))=false:=by decide) (f:Za [e] X.env=(false,Zr e X.env)::Za [] X.env:=by rfl)
  (c:ZM (.Name x p) "append" X.env (Zr (.Name x p) X.env)=Zr (.Name x p) X.env:=by rfl)
  (g:((Zw pos' (Za [e] X.env)).all (fun x => !x.1) && (Um pos' (ZS [] X.env)).all (fun x=>x.1.isSome)
   && decide ([e].length+([]:List Uw).length+(if([]:List Uw).isEmpty then 0 else 1)<30))=true:=by rfl)
  (b:(apos.endLine == pos'.line)=true:=by rfl) (a:(Zw pos' (Za [] X.env)).any (·.1)=false:=by rfl) (n:ZI (.Call (.Attribute (.Name x p) "append" apos) [e] [] pos') none pos.line X.env=pure false:=by rfl):
  DS X (.Expr (.Call (.Attribute (.Name x p) "append" apos) [e] [] pos') pos) (o3 i ga):=
 ps_mono (qK (BG PySem.F.plainAttrs_list PySem.F.slot_list_append PySem.F.type_list_append Ck (fS M I J r) (gY K iV f) c g b f a) n) fun W y H A=>by
 obtain⟨w,h,F,z,o,E,S,q,k⟩:=A;unfold o3 at q
 split at q
 ·rename_i Q s;obtain⟨d,O,q⟩:=aE q;by_cases t:Q.length<1000
  ·rw [if_pos t]at q;cases q;obtain⟨l,Z,m,G,q3,B,q5⟩:=S.own s
   refine⟨_,m,.inl ⟨rfl,_,bV.of G⟩,F,h,z,d,S,O,fun Y H' v E' U=>?_⟩
   have S':=S.ext E';obtain⟨l',j,g1,g2,g3,g4,u⟩:=S'.own s;rw [m]at g1;cases g1
   refine⟨l,j,v,rfl,rfl,g2,tT (by rw [<- u.length];lia),?_⟩
   obtain⟨R,T⟩:=S'.turn s m g2 g3 (u.append (.cons U .nil));exact k Y _ y ((E.trans E').turn B) (E'.stay.trans T) R
  ·rw [if_neg t]at q;cases q
 ·cases q
end
end DL
namespace DL
open PySem.Spec L2
inductive Dj(K:PySem.W.Frag)(s:D->aA->Option aA)(v:V)(σ:L2.St)(H:Hp)(Q:L2.St->Hp->Prop):Prop
 | mk (F:J8->Prop) (H₀:Hp) (ρ:aA) (d:D) (ρ':aA) (S:bF K F H H₀ σ ρ) (R:aS K F H d v) (q:s d ρ=some ρ') (k:∀ σ',bF K F H H₀ σ' ρ'->Q σ' H):Dj K s v σ H Q
def Ag(K:PySem.W.Frag)(s:D->aA->Option aA):TG:=fun v a H Q=>Dj K s v a H Q
def Ni(K:PySem.W.Frag)(s:List D->aA->Option aA):mW:=fun b a H Q=>∃(F:J8->Prop) (H₀:Hp) (ρ:aA) (ds:List D) (ρ':aA),bF K F H H₀ a ρ/\Reps K F H ds b/\s ds ρ=some ρ'/\∀ σ',bF K F H H₀ σ' ρ'->Q σ' H
def DG(X:Cx)(a:Expr)(s:D->aA->Option aA):Prop:=PG X a (Ag X.K s)
def tZ(X:Cx)(a:List Expr)(s:List D->aA->Option aA):Prop:=mR X a (Ni X.K s)
def cT(i:Nat):D->aA->Option aA:=fun d a=>some (a.set i (.dat d))
def rL:List D->aA->Option aA
 | [],ρ=>some ρ
 | _::_,_=>none
def lF(c:D->aA->Option aA)(b:List D->aA->Option aA):List D->aA->Option aA
 | [],_=>none
 | d::ds,ρ=>(c d ρ).bind fun a=>b ds a
def rM(n:Nat)(s:List D->aA->Option aA):D->aA->Option aA
 | .tuple ds,ρ=>if ds.length=n then s ds ρ else none
 | _,_=>none
section
variable {X:Cx}{e tg:Expr}{es:List Expr}{pos:Pos}
theorem Gp(h:PG X tg t)(m:∀ v σ H Q,t' v σ H Q->t v σ H Q):PG X tg t':=fun a s σ H v u Q I r q=>h a s σ H v u Q I r (m v σ H Q q)
theorem Gq(h:mR X es t)(m:∀ v σ H Q,t' v σ H Q->t v σ H Q):mR X es t':=fun a s σ H v u Q I r q=>h a s σ H v u Q I r (m v σ H Q q)
theorem e8(h:X.N.Nodup)(f:X.N[i]?=some x:=by rfl)(e:hE X.env.scope x:=by first | exact Zx rfl | exact Zl rfl)(g:X.fn x=true ∨ X.env.scope.names.lookup x=some .local:=by first | exact .inl rfl | exact .inr rfl | assumption):DG X (.Name x pos) (cT i):=
 Gp (BK h f e g) fun v j H Q c=>by
  obtain⟨F,a,l,d,b,S,R,q,k⟩:=c;cases q;exact k _ (S.put R)
theorem AJ:tZ X [] rL:=Gq TW fun v b H Q d=>by
 obtain⟨F,a,e,f,c,S,R,q,k⟩:=d
 cases R with
 | nil=>cases q;exact⟨rfl,k b S⟩
 | cons _ _=>cases q
theorem pY(j:DG X e s1)(i:tZ X es s2)
  (hs:(Uc (e::es) X.env).map (·.2)=assign e X.env::(Uc es X.env).map (·.2):=by rfl):tZ X (e::es) (lF s1 s2):=
 Gq (TV j i hs) fun v n H Q g=>by
  obtain⟨F,a,f,o,c,S,R,q,k⟩:=g
  cases R with
  | nil=>cases q
  | cons r h=>
   obtain⟨b,l,q⟩:=aE q
   exact⟨_,_,rfl,F,a,f,_,b,S,r,l,fun d m=>⟨F,a,b,_,c,m,h,q,k⟩⟩
theorem AI(l:X.calm=true)(h:tZ X es s)(j:(Uc es X.env).length=n:=by rfl)(f:(Uc es X.env).findIdx? (·.1)=none:=by rfl):DG X (.Tuple es k pos) (rM n s):=
 Gp (TU l h j f) fun v m H Q i=>by
  obtain⟨F,c,e,d,ρ',S,R,q,k⟩:=i
  cases R with
  | @tup a vs ds hq r=>
   by_cases g:ds.length=n
   ·have b:(if ds.length=n then s ds e else none)=some ρ':=q;rw [if_pos g]at b
    exact⟨_,_,rfl,hq,by rw [<- r.length];exact g,F,c,e,_,ρ',S,r,b,k⟩
   ·have b:(if ds.length=n then s ds e else none)=some ρ':=q;rw [if_neg g]at b;cases b
  | non=>cases q
  | dct _ _ _ _ _=>cases q
  | exn _ _ _=>cases q
  | bl _=>cases q
  | int _=>cases q
  | str _=>cases q
  | lst _ _=>cases q
end
section
variable {X:Cx}{e a b c tg iter:Expr}{es:List Expr}{st:ZE}{rest body orelse:List ZE}{g g1 g2 gb:aA->Option bD}{ga:aA->Option D}{gr:aA->Option (List D)}{t:aA->Option Bool}{pos p:Pos}
theorem ON(n:Nat)(I:PassesOwn (Zc X.prog X.w) X.A X.env X.xe)(J:DT X c t)(M:jR X body g):DS X (.While c body [] pos) (mO t g n):=
 ps_mono (Vw I J M) fun W T H G=>by
  obtain⟨f,a,z,y,o,E,S,q,k⟩:=G
  refine⟨fun m j v=>∃ F h,aI f F a v/\bJ X.K z F H v/\bF X.K F v a j h/\mO t g m h=some o,⟨n,z,y,E,bJ.refl _ _ _,S,q⟩,?_⟩
  rintro m j v ⟨F,h,E',T',S',e⟩
  cases m with
  | zero=>cases e
  | succ m=>
   obtain⟨r,Q,e⟩:=aE e
   refine⟨_,a,h.map frz,r,S'.frz,Q,fun U R E2'=>?_⟩
   have E2:=E2'.lend S'
   cases r with
   | false=>
    simp only [Qg,if_false]at e ⊢;cases e;exact k _ R j (E'.trans E2) (T'.trans E2.stay) (S'.ext E2)
   | true=>
    simp only [if_true]at e ⊢;obtain⟨B,O,e⟩:=aE e
    refine⟨fun b i=>∃ F h,aI f F a i/\bJ X.K z F H i/\bF X.K F i a b h/\mO t g m h=some o,fun b i N=>⟨m,JA m,N⟩,f,a,_,h,B,E'.trans E2,S'.ext E2,O,?_⟩
    cases B with
    | nx ρ3=>exact fun s i b u l p=>⟨s,ρ3,u,(T'.trans E2.stay).trans l,p,e⟩
    | ct ρ3=>exact fun s i b u l p=>⟨s,ρ3,u,(T'.trans E2.stay).trans l,p,e⟩
    | bk ρ3=>cases e;exact fun s i b u l p=>k s i b u ((T'.trans E2.stay).trans l) p
    | rt d=>cases e;exact k
    | ex x ρ3=>cases e;exact k
def oD(K:PySem.W.Frag)(F:J8->Prop)(H:Hp)(ds:List D)(J:It):Prop:=
 ∀ F2 H2,bJ K F F2 H H2->(∀ a,F2 a->H2 a≠none)->∀ i:Nat,(∀ d,ds[i]?=some d->J.go i H2/\∀ x H3,J.yld i H2 x H3->∃ F3,aI F2 F3 H2 H3/\aS K F3 H3 d x)/\(ds.length<=i->J.stop i H2)
def Ah(K:PySem.W.Frag)(gi:aA->Option (List D)):TI:=fun a H R=>mV K a H gi fun F b=>∀ F' H' J,aI F F' H H'->oD K F' H' b J->R J H'
def DI(X:Cx)(b a:Expr)(gi:aA->Option (List D)):Prop:=PI X b a (Ah X.K gi)
theorem BL(h:PI X tg iter wi)(m:∀ σ H R,wi' σ H R->wi σ H R):PI X tg iter wi':=fun a s σ H R I q=>h a s σ H R I (m σ H R q)
structure CM(K:PySem.W.Frag)(s:D->aA->Option aA)(g:aA->Option bD)(xs:List D)(o:bD)(F₀ F F1:J8->Prop)(H₀ H H1:Hp)(i:Nat)(σ2:L2.St)(H2:Hp)(F2:J8->Prop)(ρ2:aA):Prop where
 E:aI F₀ F2 H₀ H2
 T0:bJ K F F2 H H2
 T1:bJ K F1 F2 H1 H2
 S:bF K F2 H2 H₀ σ2 ρ2
 q:iN s g (xs.drop i) ρ2=some o
theorem p3(hp:PassesOwn (Zc X.prog X.w) X.A X.env X.xe)(hc:X.calm=true)(hi:DI X tg iter gi)(hg:DG X tg s)(hb:jR X body g)
  (hs:∀ x,ZX iter X.env x=pure x:=by intro _;rfl):DS X (.For tg iter body [] pos) (j6 gi s g):=
 ps_mono (Ii hp hc hi hg hb hs) fun W σ H zz=>by
  obtain⟨e,a,F,U,o,E,S,q,k⟩:=zz;obtain⟨b,e1,q⟩:=aE q
  refine⟨F,a,U,b,S,e1,fun T H1 J E1 I1=>?_⟩
  refine⟨fun i m l I=>m=b.length-i/\i<=b.length/\∃ M n,CM X.K s g b o e F T a H H1 i l I M n,
   ⟨b.length,rfl,Q8 _,T,U,E.trans E1,E1.stay,bJ.refl _ _ _,S.ext E1,q⟩,?_⟩
  rintro i m l I ⟨rfl,a2,M,n,E2,T0,T1,S2,c⟩;obtain⟨Q,O⟩:=I1 M I T1 S2.fz i;by_cases f:i<b.length
  ·right
   have u:b[i]?=some b[i]:=by simp [f]
   obtain⟨go,N⟩:=Q _ u;rw [Yl f]at c;obtain⟨t,e3,c⟩:=aE c;obtain⟨Y,e4,c⟩:=aE c
   refine⟨go,fun r Z=>∃ F4 ρ4,CM X.K s g b o e F T a H H1 (i+1) r Z F4 ρ4,fun r Z h=>⟨b.length-(i+1),by lia,rfl,f,h⟩,fun x H3 y=>?_⟩
   obtain⟨F3,E3,R3⟩:=N x H3 y
   refine⟨F3,a,n,b[i],t,S2.ext E3,R3,e3,fun a0 S5=>⟨e,a,F3,t,Y,E2.trans E3,S5,e4,?_⟩⟩
   have TT0:=T0.trans E3.stay;have TT1:=T1.trans E3.stay
   cases Y with
   | nx ρ6=>exact fun B R j G p z=>⟨B,ρ6,G,TT0.trans p,TT1.trans p,z,c⟩
   | ct ρ6=>exact fun B R j G p z=>⟨B,ρ6,G,TT0.trans p,TT1.trans p,z,c⟩
   | bk ρ6=>cases c;exact fun B R j G p z=>k B R j G (TT0.trans p) z
   | rt d=>cases c;exact k
   | ex x ρ6=>cases c;exact k
  ·left
   have v:b.length<=i:=YY f
   refine⟨O v,?_⟩
   rw [Y4 v]at c;cases c;exact k M I l E2 T0 S2
def oZ:List D->Option (List D)
 | [.int j]=>if -4611686018427387904<=j/\j<4611686018427387904 then some ((List.range j.toNat).map fun(k:Nat)=>.int (0+(k:Int)))else none
 | _=>none
theorem Ri{K:PySem.W.Frag}{F:J8->Prop}{H:Hp}(a:Int)(n:Nat):oD K F H ((List.range n).map fun(k:Nat)=>.int (a+(k:Int))) (t7 a n):=fun j m T z i=>by
 refine⟨fun d c=>?_,fun h=>?_⟩
 ·have e:i<n:=by
   have:=(Qc.mp c).1
   simpa using this
  have b:d=.int (a+(i:Int)):=by
   rw [QE,List.getElem?_range e]at c;cases c;rfl
  subst b
  refine⟨e,fun x l y=>?_⟩
  obtain⟨g,f⟩:=y;subst g f
  exact⟨j,aI.refl _ _,.int _⟩
 ·show n<=i
  simpa using h
theorem OD(g:Gl X "range")(f:X.mg "range"=none)(h:DA X [a] gr)(hs:Za [a] X.env=[(false,Zr a X.env)]:=by rfl):DI X tg (.Call (.Name "range" p) [a] [] pos) (fun ρ=>(gr ρ).bind oZ):=
 BL (TZ g f h hs) fun s H R d=>by
  obtain⟨F,b,ρ,v,S,q,k⟩:=d;obtain⟨t,i,q⟩:=aE q;unfold oZ at q
  split at q
  ·rename_i j;by_cases c:-4611686018427387904<=j/\j<4611686018427387904
   ·rw [if_pos c]at q;cases q
    refine⟨F,b,ρ,_,S,i,fun n m u o l=>?_⟩
    cases l with
    | cons r e=>
     cases r;cases e
     exact⟨j,rfl,by lia,by lia,k n m _ o (Ri 0 _)⟩
   ·rw [if_neg c]at q;cases q
  ·cases q
def rH:D->Option (List D)
 | .list a=>some a
 | .tuple a=>some a
 | _=>none
theorem Rh{K:PySem.W.Frag}{F:J8->Prop}{H:Hp}{a:J8}{vs:List V}{ds:List D}(h:kI K F H a vs)(r:Reps K F H ds vs):oD K F H ds (CN K a):=fun m o T z i=>by
 have b:=h.stay T;have c:=r.stay T
 refine⟨fun d l=>?_,fun k=>⟨vs,b.sq,by rw [<- c.length];exact k⟩⟩
 obtain⟨v,e,j⟩:=c.get l
 refine⟨⟨vs,v,b.sq,e⟩,fun x n y=>?_⟩
 obtain⟨g,f⟩:=y;subst g
 have:=f vs b.sq
 rw [e]at this;cases this
 exact⟨m,aI.refl _ _,j⟩
theorem Rj{K:PySem.W.Frag}{F:J8->Prop}{H:Hp}{a:J8}{vs:List V}{ds:List D}(h:bL K H a vs)(r:Reps K F H ds vs):oD K F H ds (CO K a):=fun m o T z i=>by
 have b:=T.tp _ _ h;have c:=r.stay T
 refine⟨fun d l=>?_,fun k=>⟨vs,b,by rw [<- c.length];exact k⟩⟩
 obtain⟨v,e,j⟩:=c.get l
 refine⟨⟨vs,v,b,e⟩,fun x n y=>?_⟩
 obtain⟨g,f⟩:=y;subst g
 have:=f vs b
 rw [e]at this;cases this
 exact⟨m,aI.refl _ _,j⟩
theorem OE(A:DE X e ga):DI X tg e (fun ρ=>(ga ρ).bind rH):=by
 intro i s u H R I h;obtain⟨F,l,ρ,E,S,q,k⟩:=h;obtain⟨d,B,q⟩:=aE q;refine aW (A i s u H (fun x f=>∃ g,aI F g H f/\aS X.K g f d x) I ⟨F,l,ρ,d,S,B,fun g f v m r=>⟨g,m,r⟩⟩) fun v c w=>?_;obtain⟨x,f,I1,t,g,m,r⟩:=w
 cases r with
 | @lst a vs ds' hq rr=>
  cases q;cases t;obtain⟨j,y,p,z⟩:=I1.list hq.sq;refine UH p.isList ?_
  refine⟨c.heap.objs.size,[c.heap.objs.size],_,_,f,rfl,I1.kept (t':=c.toks) fun b o e=>Qh _ e,WA a _,⟨_,Qy _ rfl,rfl,rfl⟩,fun b n=>?_,k g f _ m (Rh hq rr)⟩
  have e:b=c.heap.objs.size:=by simpa using n
  subst e;exact I1.fpOk (Qm _) (I1.hok.fresh (Qm _))
 | @tup a vs ds' hq rr=>
  cases q;cases t;obtain⟨j,y,p,z⟩:=I1.tuple hq;refine UA (show c.heap.IsTuple a j.toArray from p) ?_
  refine⟨c.heap.objs.size,[c.heap.objs.size],_,_,f,rfl,I1.kept (t':=c.toks) fun b o e=>Qh _ e,WC a _,⟨_,Qy _ rfl,rfl,rfl⟩,fun b n=>?_,k g f _ m (Rj hq rr)⟩
  have e:b=c.heap.objs.size:=by simpa using n
  subst e;exact I1.fpOk (Qm _) (I1.hok.fresh (Qm _))
 | non=>cases q
 | dct _ _ _ _ _=>cases q
 | exn _ _ _=>cases q
 | bl _=>cases q
 | int _=>cases q
 | str _=>cases q
end
def cY(n:Nat)(ds:List D):aA:=ds.map .dat++List.replicate (n-ds.length) .no
def cQ(n:Nat)(g:aA->Option bD):List D->Option D:=fun a=>match g (cY n a)with
 | some (.rt d)=>some d
 | some (.nx _)=>some .none
 | _=>none
theorem xE{K:PySem.W.Frag}{F:J8->Prop}{H:Hp}{N:List Str}{ds:List D}{vs:List V}(z:∀ a,F a->H a≠none)(r:Reps K F H ds vs):bF K F H H (L2.start N vs) (cY N.length ds):=by
 have k:=r.length
 refine⟨by simp [L2.start,cY,k],fun i s h=>?_,fun i j a o m l b=>?_,z⟩
 ·unfold cY at h;by_cases c:i<ds.length
  ·rw [QR (by simpa using c),QE]at h
   cases e:ds[i]? with
   | none=>rw [e]at h;cases h
   | some d=>
    rw [e]at h;cases h;obtain⟨v,n,g⟩:=r.get e
    refine⟨some v,?_,v,rfl,g⟩
    unfold L2.start;rw [QR (by simpa using(by lia:i<vs.length)),QE,n];rfl
  ·rw [QI (by simpa using c),YX]at h
   split at h
   ·rename_i f;cases h
    refine⟨none,?_,trivial⟩
    unfold L2.start;rw [QI (by simpa using(by lia:vs.length<=i)),YX,if_pos (by simp at f ⊢;lia)]
   ·cases h
 ·unfold cY at b;by_cases c:i<ds.length
  ·rw [QR (by simpa using c),QE]at b
   cases e:ds[i]? with
   | none=>rw [e]at b;cases b
   | some d=>rw [e]at b;cases b
  ·rw [QI (by simpa using c),YX]at b
   split at b <;> cases b
theorem Lj{P:Zd}{w:Zf}{K:PySem.W.Frag}{l:Str->Option YP}{base:Heap}{x a:Str}{b:ZE}{f:J8}{o:Zp}{N ps:List Str}{k:Nat}{g:aA->Option bD}(F:eP K x a b f o)(S:bQ N ps (aV b))
  (B:∀(cdv:YP) (A:Around) (outer:List Env) (s:J9) (H:Hp) (E:XK),cA k (A.deeper (U2 a (aV b) s.heap.objs.size f cdv))->
   jR (jV aO P w K l base N a (aV b) f cdv A outer s H E).nox (c8 b) g):aM P w K l base aO (k+1) f o ps (aY K ps.length (cQ N.length g)):=by
 refine F.ok S (fun u H Q E h=>?_) (fun cdv A outer s H u Q E y h=>?_)
 ·obtain⟨F,G,d,n,_,r,_⟩:=h;rw [<- r.length,n]
 ·obtain⟨F,G,d,n,z,r,q,m⟩:=h
  refine⟨_,B cdv A outer s H E y,?_⟩
  unfold cQ at q
  split at q
  ·rename_i J e;cases q
   exact⟨F,H,F,_,_,aI.refl F H,xE z r,e,fun i c v j I=>m i c v j I⟩
  ·rename_i t e;cases q
   exact⟨F,H,F,_,_,aI.refl F H,xE z r,e,fun i c p j M O=>m i c .non j .non⟩
  ·cases q
end DL
namespace DL
open PySem.Spec PySem.SeqAt L2
mutual
theorem aS.reads(I:L2.Inv X pins σ H s)(h:aS X.K F H d x)(c:d.canLay0=true)(r:L2.RelV x u):∃ as,Reads s.heap u d as:=by
 cases h with
 | non=>cases r;exact⟨_,.none⟩
 | bl b=>cases r;exact⟨_,.bool b⟩
 | int i=>obtain⟨t,rfl⟩:=r;exact⟨_,.int i t⟩
 | str x=>obtain⟨t,rfl⟩:=r;exact⟨_,.str x t⟩
 | tup h q=>
  cases r;obtain⟨e,a,⟨o,g,k,n,j⟩,_⟩:=I.tuple h;obtain⟨as,z⟩:=Reps.reads I q c a
  exact⟨_,.tuple g k j z⟩
 | lst h q=>
  cases r;obtain⟨e,a,m,_⟩:=I.list h.sq;obtain⟨o,n,g,k,_,j⟩:=m;obtain⟨as,z⟩:=Reps.reads I q c a
  exact⟨_,.list g k j z⟩
 | dct f h n l r=>cases c
 | exn f h n=>cases c
theorem Reps.reads(I:L2.Inv X pins σ H s)(h:Reps X.K F H ds xs)(c:Zy ds=true)(r:L2.Vals xs us):∃ as,ReadsAll s.heap us ds as:=by
 cases h with
 | nil=>cases r;exact⟨_,.nil⟩
 | cons h q=>
  have c:=QO.mp c
  cases r with
  | cons b a=>
   obtain⟨as,z⟩:=aS.reads I h c.1 b;obtain⟨bs,y⟩:=Reps.reads I q c.2 a
   exact⟨_,.cons z y⟩
end
def qT(t:Int->Int->D):D->D->Option D
 | .int i,.int j=>some (t i j)
 | _,_=>none
def qU(C:Int->Int->Bool)(t:Int->Int->D):D->D->Option D
 | .int i,.int j=>if C i j=true then some (t i j)else none
 | _,_=>none
def k7(i j:Int):Bool:=(decide (-18446744073709551616<i) && decide (i<18446744073709551616)) || (decide (-18446744073709551616<j) && decide (j<18446744073709551616))
def qD(_ j:Int):Bool:=decide (0<j) && decide (j<1073741824)
def GE(_ j:Int):Bool:=decide (0<j)
section
variable {X:Cx}
theorem zF(h:bH X f (lU g))(r:∀ i j K F H,aS K F H (t i j) (g i j)):bH X f (cE X.K (qT t)):=
 qF h fun x y H Q b=>by
  obtain⟨F,d,e,q,z,c,R2,a,k⟩:=b;unfold qT at a
  split at a
  ·cases a;cases c;cases R2
   exact⟨_,_,rfl,rfl,k F H _ (aI.refl F H) (r _ _ _ _ _)⟩
  ·cases a
theorem zG(h:bH X f (rI C g))(l:∀ i j,B i j=true->C i j)(r:∀ i j K F H,aS K F H (t i j) (g i j)):bH X f (cE X.K (qU B t)):=
 qF h fun x y H Q c=>by
  obtain⟨F,d,e,q,z,m,R2,a,k⟩:=c;unfold qU at a
  split at a
  ·rename_i i j;by_cases b:B i j=true
   ·rw [if_pos b]at a;cases a;cases m;cases R2
    exact⟨_,_,rfl,rfl,l _ _ b,k F H _ (aI.refl F H) (r _ _ _ _ _)⟩
   ·rw [if_neg b]at a;cases a
  ·cases a
def iM:D->D->Option D:=qT fun i j=>.int (i-j)
def KZ:D->D->Option D:=qU k7 fun i j=>.int (i * j)
def kD:D->D->Option D:=qU qD fun i j=>.int (i / j)
def hW:D->D->Option D:=qU GE fun i j=>.int (i % j)
def fZ:D->D->Option D:=qT fun i j=>.bool (decide (i<=j))
def y8:D->D->Option D:=qT fun i j=>.bool (decide (j<i))
theorem k8:bH X (ZH .Sub) (cE X.K iM):=zF RT fun _ _ _ _ _=>.int _
theorem RU:bH X (ZH .Mult) (cE X.K KZ):=zG RS (fun i j h=>by
 unfold k7 at h;simp only [JN,QL,decide_eq_true_eq]at h;unfold tY
 lia) fun _ _ _ _ _=>.int _
theorem qE:bH X (ZH .FloorDiv) (cE X.K kD):=zG RO (fun i j h=>by
 unfold qD at h;simp only [QL,decide_eq_true_eq]at h
 exact h) fun _ _ _ _ _=>.int _
theorem n7:bH X (ZH .Mod) (cE X.K hW):=zG RQ (fun i j h=>by
 unfold GE at h
 simpa using h) fun _ _ _ _ _=>.int _
theorem jO:bH X (Zm .LtE) (cE X.K fZ):=zF Mn fun _ _ _ _ _=>.bl _
theorem GH:bH X (Zm .Gt) (cE X.K y8):=zF Mm fun _ _ _ _ _=>.bl _
def oM:D->Option D
 | .int i=>some (.int (-i))
 | _=>none
theorem Cv:mY X (unaryOp .USub) (DM X.K oM):=VO VN fun x H Q b=>by
 obtain⟨F,d,q,z,c,a,k⟩:=b;unfold oM at a
 split at a
 ·cases a;cases c
  exact⟨_,rfl,k F H _ (aI.refl F H) (.int _)⟩
 ·cases a
def lN(d e:D):Option D:=if(shaped d && shaped e)=true then some (.bool (ZQ d e))else none
def bW(d e:D):Option D:=if(shaped d && shaped e)=true then some (.bool (!PyData.eqv d e))else none
theorem GG(j:X.A.units+64<Zi):bH X (Zm .Eq) (cE X.K lN):=fun f s m H x y v u Q I i h g=>by
 obtain⟨F,d,e,q,z,R1,R2,a,k⟩:=g;unfold lN at a;by_cases c:(shaped d && shaped e)=true
 ·rw [if_pos c]at a;cases a;have b:=QO.mp c;obtain⟨n,a1⟩:=R1.reads I (QZ b.1) i;obtain⟨bs,l⟩:=R2.reads I (QZ b.2) h;exact eq_dataH a1 l b.1 b.2 j ⟨.bl _,H,I,rfl,k F H _ (aI.refl F H) (.bl _)⟩
 ·rw [if_neg c]at a;cases a
theorem gX(j:X.A.units+64<Zi):bH X (Zm .NotEq) (cE X.K bW):=fun f s m H x y v u Q I i h g=>by
 obtain⟨F,d,e,q,z,R1,R2,a,k⟩:=g;unfold bW at a;by_cases c:(shaped d && shaped e)=true
 ·rw [if_pos c]at a;cases a;have b:=QO.mp c;obtain⟨n,a1⟩:=R1.reads I (QZ b.1) i;obtain⟨bs,l⟩:=R2.reads I (QZ b.2) h;exact ne_dataH a1 l b.1 b.2 j ⟨.bl _,H,I,rfl,k F H _ (aI.refl F H) (.bl _)⟩
 ·rw [if_neg c]at a;cases a
def dY(b:Bool)(d:D):D->Option D
 | .list a=>if(shaped d && shaped (.list a))=true then some (.bool (if b then !(a.any fun y=>ZQ y d)else a.any fun y=>ZQ y d))else none
 | .tuple a=>if(shaped d && shaped (.tuple a))=true then some (.bool (if b then !(a.any fun y=>ZQ y d)else a.any fun y=>ZQ y d))else none
 | _=>none
theorem n6(l:X.A.units+65<Zi):bH X (Zm .In) (cE X.K (dY false)):=fun j s o H x y v u Q I i h m=>by
 obtain⟨F,d,e,q,z,R1,R2,a,k⟩:=m;unfold dY at a
 split at a
 ·rename_i f;by_cases c:(shaped d && shaped (.list f))=true
  ·rw [if_pos c]at a;cases a;have b:=QO.mp c;obtain⟨n,a1⟩:=R1.reads I (QZ b.1) i;obtain⟨bs,g⟩:=R2.reads I (QZ b.2) h;exact in_list_reads g a1 (QZ b.2) (QZ b.1) (Vd b.1 l) ⟨.bl _,H,I,rfl,k F H _ (aI.refl F H) (.bl _)⟩
  ·rw [if_neg c]at a;cases a
 ·rename_i f;by_cases c:(shaped d && shaped (.tuple f))=true
  ·rw [if_pos c]at a;cases a;have b:=QO.mp c;obtain⟨n,a1⟩:=R1.reads I (QZ b.1) i;obtain⟨bs,g⟩:=R2.reads I (QZ b.2) h;exact in_tuple_reads g a1 (QZ b.2) (QZ b.1) (Vd b.1 l) ⟨.bl _,H,I,rfl,k F H _ (aI.refl F H) (.bl _)⟩
  ·rw [if_neg c]at a;cases a
 ·cases a
theorem GI(l:X.A.units+65<Zi):bH X (Zm .NotIn) (cE X.K (dY true)):=fun j s o H x y v u Q I i h m=>by
 obtain⟨F,d,e,q,z,R1,R2,a,k⟩:=m;unfold dY at a
 split at a
 ·rename_i f;by_cases c:(shaped d && shaped (.list f))=true
  ·rw [if_pos c]at a;cases a;have b:=QO.mp c;obtain⟨n,a1⟩:=R1.reads I (QZ b.1) i;obtain⟨bs,g⟩:=R2.reads I (QZ b.2) h;exact notIn_list_reads g a1 (QZ b.2) (QZ b.1) (Vd b.1 l) ⟨.bl _,H,I,rfl,k F H _ (aI.refl F H) (.bl _)⟩
  ·rw [if_neg c]at a;cases a
 ·rename_i f;by_cases c:(shaped d && shaped (.tuple f))=true
  ·rw [if_pos c]at a;cases a;have b:=QO.mp c;obtain⟨n,a1⟩:=R1.reads I (QZ b.1) i;obtain⟨bs,g⟩:=R2.reads I (QZ b.2) h;exact notIn_tuple_reads g a1 (QZ b.2) (QZ b.1) (Vd b.1 l) ⟨.bl _,H,I,rfl,k F H _ (aI.refl F H) (.bl _)⟩
  ·rw [if_neg c]at a;cases a
 ·cases a
def aR:D->D->Option D
 | .tuple xs,.int i=>atI xs i
 | .list xs,.int i=>atI xs i
 | _,_=>none
theorem Reps.atI{K:PySem.W.Frag}{F:J8->Prop}{H:Hp}{ds:List D}{vs:List V}{i:Int}{d:D}(r:Reps K F H ds vs)(h:L2.atI ds i=some d):∃ v,L2.atI vs i=some v/\aS K F H d v:=by
 unfold L2.atI at h ⊢;rw [r.length]at h
 cases e:ixN vs.length i with
 | none=>rw [e]at h;cases h
 | some j=>
  rw [e]at h;obtain⟨v,b,a⟩:=r.get (show ds[j]?=some d from h)
  exact⟨v,b,a⟩
theorem bA:iK X (cE X.K aR):=Rr (Rp.or Rq) fun x y H Q f=>by
 obtain⟨F,d,e,q,z,c,R2,b,k⟩:=f;unfold aR at b
 split at b
 ·rename_i g i
  cases c with
  | @tup a vs _ h1 r1=>
   cases R2;obtain⟨v,g1,g2⟩:=r1.atI b;exact .inr ⟨a,vs,i,v,rfl,rfl,h1,g1,k F H _ (aI.refl F H) g2⟩
 ·rename_i g i
  cases c with
  | @lst a vs _ h1 r1=>
   cases R2;obtain⟨v,g1,g2⟩:=r1.atI b;exact .inl ⟨a,vs,i,v,rfl,rfl,h1.sq,g1,k F H _ (aI.refl F H) g2⟩
 ·cases b
def gA:List D->Option D
 | [.list xs]=>some (.int xs.length)
 | [.tuple xs]=>some (.int xs.length)
 | _=>none
theorem nR:cU X (.builtin "len") (iR X.K gA):=mB Ob fun e H Q d=>by
 obtain⟨F,f,q,z,R,b,k⟩:=d;unfold gA at b
 split at b
 ·cases b
  cases R with
  | cons c R2=>
   cases R2
   cases c with
   | @lst a vs _ h1 r1=>exact⟨a,vs,rfl,.inl h1.sq,by rw [<- r1.length];exact k F H _ (aI.refl F H) (.int _)⟩
 ·cases b
  cases R with
  | cons c R2=>
   cases R2
   cases c with
   | @tup a vs _ h1 r1=>exact⟨a,vs,rfl,.inr h1,by rw [<- r1.length];exact k F H _ (aI.refl F H) (.int _)⟩
 ·cases b
def mZ:List D->Option D
 | [.int i]=>some (.int (if i<0 then -i else i))
 | _=>none
theorem sJ:cU X (.builtin "abs") (iR X.K mZ):=mB N7 fun d H Q b=>by
 obtain⟨F,e,q,z,R,a,k⟩:=b;unfold mZ at a
 split at a
 ·cases a
  cases R with
  | cons c R2=>cases R2;cases c;exact⟨_,rfl,k F H _ (aI.refl F H) (.int _)⟩
 ·cases a
def cX:List D->Option (List Int)
 | []=>some []
 | .int i::r=>(cX r).bind fun a=>some (i::a)
 | _=>none
def xJ:List Int->Option Int
 | []=>none
 | [a]=>some a
 | a::r=>(xJ r).bind fun b=>some (if a<=b then a else b)
def xW:List Int->Option Int
 | []=>none
 | [a]=>some a
 | a::r=>(xW r).bind fun b=>some (if b<=a then a else b)
theorem G6:∀{l:List Int}{m:Int},xJ l=some m->m∈l/\∀ a∈l,m<=a
 | [],_,h=>by cases h
 | [a],m,h=>by cases h;simp
 | a::b::r,m,h=>by
  obtain⟨c,e,h⟩:=aE h;obtain⟨g,f⟩:=G6 e;cases h;by_cases q:a<=c
  ·rw [if_pos q]
   refine⟨Qk,fun x d=>?_⟩
   rcases Ql.mp d with d | d
   ·rw [d];exact Int.le_refl _
   ·exact Int.le_trans q (f x d)
  ·rw [if_neg q]
   refine⟨Qf _ g,fun x d=>?_⟩
   rcases Ql.mp d with d | d
   ·rw [d];lia
   ·exact f x d
theorem Hn:∀{l:List Int}{m:Int},xW l=some m->m∈l/\∀ a∈l,a<=m
 | [],_,h=>by cases h
 | [a],m,h=>by cases h;simp
 | a::b::r,m,h=>by
  obtain⟨c,e,h⟩:=aE h;obtain⟨g,f⟩:=Hn e;cases h;by_cases q:c<=a
  ·rw [if_pos q]
   refine⟨Qk,fun x d=>?_⟩
   rcases Ql.mp d with d | d
   ·rw [d];exact Int.le_refl _
   ·exact Int.le_trans (f x d) q
  ·rw [if_neg q]
   refine⟨Qf _ g,fun x d=>?_⟩
   rcases Ql.mp d with d | d
   ·rw [d];lia
   ·exact f x d
theorem mG{K:PySem.W.Frag}{F:J8->Prop}{H:Hp}:∀{ds:List D}{vs:List V}{is:List Int},Reps K F H ds vs->cX ds=some is->vs=is.map V.int:=by
 intro ds
 induction ds with
 | nil=>intro vs is r h;cases r;cases h;rfl
 | cons d ds c=>
  intro vs is r h
  cases r with
  | cons b a=>
   cases d with
   | int i=>
    cases b;obtain⟨f,e,h⟩:=aE h;cases h;rw [c a e];rfl
   | _=>cases h
def qV:List D->Option D
 | [.int i,.int j]=>some (.int (if j<i then j else i))
 | [.list ds]=>(cX ds).bind fun a=>(xJ a).bind fun m=>some (.int m)
 | _=>none
def uE:List D->Option D
 | [.int i,.int j]=>some (.int (if j > i then j else i))
 | [.list ds]=>(cX ds).bind fun a=>(xW a).bind fun m=>some (.int m)
 | _=>none
theorem NL(E:X.calm=true):cU X (.builtin "min") (fun xs H Q=>∃ a is m,xs=[.ref a]/\bV X.K H a (is.map V.int)/\xJ is=some m/\Q (.int m) H):=by
 intro k s J H xs M Q I r h;obtain⟨a,is,m,rfl,x,y,q⟩:=h;obtain⟨u,rfl,n⟩:=g7 r;cases n;obtain⟨d,o,p,_⟩:=I.list x;obtain⟨c,g⟩:=G6 y;have l:Z1 d is:=vA o;obtain⟨xs,e⟩:=l.allInts.items
 have z:s.heap.IsList a (intItems xs):=by rw [<- e];exact p.isList
 have b:xs.toList.map (·.1)=is:=by
  have:=l.numsOf
  rw [<- nums_intItems,<- e]
  simpa using this
 have f:0<xs.size:=by
  have:0<is.length:=List.length_pos_of_mem c
  rw [<- b,Qi,Qd]at this;exact this
 refine min_intList (I.ok.hd E) z f fun v O N w A=>?_;obtain⟨t,rfl⟩:=intItems_at w;obtain⟨g1,g2⟩:=argBest_lt (numAt xs) (xs.size-1)
 have G:numAt xs (argBest (fun i j=>decide (numAt xs i<numAt xs j)) (xs.size-1))=m:=by
  apply Int.le_antisymm
  ·rw [<- b]at c;obtain⟨j,B,F⟩:=mem_getD c;rw [Qi,Qd]at B;rw [<- F,<- numAt_eq];exact g2 j (by lia)
  ·apply g;rw [<- b,numAt_eq];exact getD_mem (by rw [Qi,Qd];lia)
 exact⟨.int m,H,I.kept A,⟨t,by rw [G]⟩,q⟩
theorem NK(E:X.calm=true):cU X (.builtin "max") (fun xs H Q=>∃ a is m,xs=[.ref a]/\bV X.K H a (is.map V.int)/\xW is=some m/\Q (.int m) H):=by
 intro k s J H xs M Q I r h;obtain⟨a,is,m,rfl,x,y,q⟩:=h;obtain⟨u,rfl,n⟩:=g7 r;cases n;obtain⟨d,o,p,_⟩:=I.list x;obtain⟨c,g⟩:=Hn y;have l:Z1 d is:=vA o;obtain⟨xs,e⟩:=l.allInts.items
 have z:s.heap.IsList a (intItems xs):=by rw [<- e];exact p.isList
 have b:xs.toList.map (·.1)=is:=by
  have:=l.numsOf
  rw [<- nums_intItems,<- e]
  simpa using this
 have f:0<xs.size:=by
  have:0<is.length:=List.length_pos_of_mem c
  rw [<- b,Qi,Qd]at this;exact this
 refine max_intList (I.ok.hd E) z f fun v O N w A=>?_;obtain⟨t,rfl⟩:=intItems_at w;obtain⟨g1,g2⟩:=argBest_gt (numAt xs) (xs.size-1)
 have G:numAt xs (argBest (fun i j=>decide (numAt xs i > numAt xs j)) (xs.size-1))=m:=by
  apply Int.le_antisymm
  ·apply g;rw [<- b,numAt_eq];exact getD_mem (by rw [Qi,Qd];lia)
  ·rw [<- b]at c;obtain⟨j,B,F⟩:=mem_getD c;rw [Qi,Qd]at B;rw [<- F,<- numAt_eq];exact g2 j (by lia)
 exact⟨.int m,H,I.kept A,⟨t,by rw [G]⟩,q⟩
theorem OR(d:X.calm=true):cU X (.builtin "min") (iR X.K qV):=mB ((Ew d).or (NL d)) fun j H Q e=>by
 obtain⟨F,l,q,z,R,b,k⟩:=e;unfold qV at b
 split at b
 ·cases b
  cases R with
  | cons c R2=>
   cases c
   cases R2 with
   | cons R2 i=>cases i;cases R2;exact .inl ⟨_,_,rfl,k F H _ (aI.refl F H) (.int _)⟩
 ·obtain⟨f,h,b⟩:=aE b;obtain⟨m,g,b⟩:=aE b;cases b
  cases R with
  | cons c R2=>
   cases R2
   cases c with
   | @lst a vs _ h1 r1=>
    have:=mG r1 h
    subst this;exact .inr ⟨a,f,m,rfl,h1.sq,g,k F H _ (aI.refl F H) (.int _)⟩
 ·cases b
theorem NT(d:X.calm=true):cU X (.builtin "max") (iR X.K uE):=mB ((Ev d).or (NK d)) fun j H Q e=>by
 obtain⟨F,l,q,z,R,b,k⟩:=e;unfold uE at b
 split at b
 ·cases b
  cases R with
  | cons c R2=>
   cases c
   cases R2 with
   | cons R2 i=>cases i;cases R2;exact .inl ⟨_,_,rfl,k F H _ (aI.refl F H) (.int _)⟩
 ·obtain⟨f,h,b⟩:=aE b;obtain⟨m,g,b⟩:=aE b;cases b
  cases R with
  | cons c R2=>
   cases R2
   cases c with
   | @lst a vs _ h1 r1=>
    have:=mG r1 h
    subst this;exact .inr ⟨a,f,m,rfl,h1.sq,g,k F H _ (aI.refl F H) (.int _)⟩
 ·cases b
def pX:List D->Option D
 | [.list xs]=>some (.tuple xs)
 | [.tuple xs]=>some (.tuple xs)
 | _=>none
theorem vN:cU X (.type "tuple") (iR X.K pX):=mB NP fun f H Q e=>by
 obtain⟨F,g,q,z,R,b,k⟩:=e;unfold pX at b
 split at b
 ·cases b
  cases R with
  | cons c R2=>
   cases R2
   cases c with
   | @lst a vs _ h1 r1=>exact⟨a,vs,rfl,.inl ⟨h1.sq,fun l d=>k F _ _ (aI.fresh d) (aS.newTup d r1)⟩⟩
 ·cases b
  cases R with
  | cons c R2=>
   cases R2
   cases c with
   | @tup a vs _ h1 r1=>exact⟨a,vs,rfl,.inr ⟨h1,k F H _ (aI.refl F H) (.tup h1 r1)⟩⟩
 ·cases b
end
end DL
namespace CL
open PySem.Spec L2
theorem Bh:∀(names:List (Str × UX)) (acc:List (Str × J8)),(∀ x∈names,x.2=.free->∃ c,env.cells.lookup x.1=some c)->
  (∀ x c,acc.lookup x=some c->env.cells.lookup x=some c)->
  ∃ cl,(forIn names acc (fun(x:Str × UX) (cs:List (Str × J8))=>(do
    if x.2 == .free then
     let c <- cellOf env x.1
     pure (Ux ((x.1,c)::cs))
    else pure (Ux cs):Sem (ForInStep (List (Str × J8)))))=(pure cl:Sem _))/\(∀ x c,cl.lookup x=some c->env.cells.lookup x=some c) /\
   (∀ x,(x,Zj)∈names->∃ c,cl.lookup x=some c)/\(∀ x c,acc.lookup x=some c->∃ c',cl.lookup x=some c')/\(∀ x c,cl.lookup x=some c->(x,Zj)∈names ∨ acc.lookup x=some c)
 | [],acc,_,h2=>⟨acc,by rw [List.forIn_nil],h2,fun x h=>by simp at h,fun x c h=>⟨c,h⟩,fun x c h=>.inr h⟩
 | (n,k)::r,acc,h1,h2=>by
  rw [List.forIn_cons];by_cases f:k=.free
  ·subst f;obtain⟨c,l⟩:=h1 (n,.free) (Qk) rfl;have b:env.cells.lookup n=some c:=l
   have g:∀ x c',((n,c)::acc).lookup x=some c'->env.cells.lookup x=some c':=fun x c' h=>by
    rw [QT]at h
    cases e:x == n with
    | true=>rw [e]at h;cases h;rw [Yz e];exact b
    | false=>rw [e]at h;exact h2 x c' h
   obtain⟨cl,q,a1,j,d,i⟩:=Bh r ((n,c)::acc) (fun x a=>h1 x (Qf _ a)) g
   refine⟨cl,?_,a1,fun x a=>?_,fun x c' h=>?_,fun x c' h=>?_⟩
   ·have m:cellOf env n=pure c:=by unfold cellOf;rw [b]
    simp only [beq_self_eq_true,if_true,m,pure_bind];exact q
   ·rcases Ql.mp a with a | a
    ·cases a;exact d n c (by rw [QT,beq_self_eq_true])
    ·exact j x a
   ·cases e:x == n with
    | true=>rw [Yz e];exact d n c (by rw [QT,beq_self_eq_true])
    | false=>exact d x c' (by rw [QT,e];exact h)
   ·rcases i x c' h with h | h
    ·exact .inl (Qf _ h)
    ·rw [QT]at h
     cases e:x == n with
     | true=>rw [Yz e];exact .inl Qk
     | false=>rw [e]at h;exact .inr h
  ·obtain⟨cl,q,a1,j,d,i⟩:=Bh r acc (fun x a=>h1 x (Qf _ a)) h2
   refine⟨cl,?_,a1,fun x a=>?_,d,fun x c h=>(i x c h).imp (Qf _) id⟩
   ·have e:(k == Zj)=false:=by simpa using f
    simp only [e,Qg,if_false,pure_bind];exact q
   ·rcases Ql.mp a with a | a
    ·cases a;exact absurd rfl f
    ·exact j x a
theorem KL(h:∀ x∈scope.names,x.2=.free->∃ c,env.cells.lookup x.1=some c):
  ∃ cl,closureFor scope env=pure cl/\(∀ x c,cl.lookup x=some c->env.cells.lookup x=some c)/\(∀ x,(x,Zj)∈scope.names->∃ c,cl.lookup x=some c)/\(∀ x c,cl.lookup x=some c->(x,Zj)∈scope.names):=by
 obtain⟨cl,q,a1,b,_,a⟩:=Bh (env:=env) scope.names [] h (fun x c h=>by simp at h)
 refine⟨cl,?_,a1,b,fun x c h=>(a x c h).elim id fun z=>by simp at z⟩
 simp only [closureFor]
 first
  | exact q
  | (rw [<- q];congr 1;funext x cs;obtain⟨n,k⟩:=x;rfl)
  | simpa using q
def fH(X:Cx)(N':List Str)(scope:Ul)(b:List (Str × J8))(C:J8)(a:List J8)(s:J9)(H:Hp):Cx:=
 { X with N:=N',s₀:=s,H₀:=H,env:=compEnvC scope b C X.env,outer:=X.stack,ex:=a,fn:=fun x=>scope.names.lookup x == some .local,pn:=[],xe:=fun _ _=>False }
structure pD(X:Cx)(N':List Str)(scope:Ul)(inner:List (Option Nat)):Prop where
 kind:scope.kind=.function
 nocell:∀ x∈scope.names,x.2≠.cell
 loc:∀ x∈scope.names,x.2=.local->scope.names.lookup x.1=some .local
 free:∀ x∈scope.names,x.2=.free->scope.names.lookup x.1=some .free/\(X.env.scope.names.lookup x.1=some .cell ∨ X.env.scope.names.lookup x.1=some .free)
 len:inner.length=N'.length
 out:∀(i j:Nat),inner[i]?=some (some j)->∃ x,N'[i]?=some x/\X.N[j]?=some x/\scope.names.lookup x=some .free
def iP(inner:List (Option Nat))(a:L2.St):L2.St:=inner.map fun o=>o.bind fun j=>(a[j]?).bind id
theorem IB{env:Env}:∀{names:List (Str × UX)}{x:Str},names.lookup x=some .free->
  (names.map fun(n,k)=>if(k == Zj && env.scope.kind == .function && env.kindOf n == some .cell)then(n,Ur)else(n,k)).lookup x=some .free ∨
  (names.map fun(n,k)=>if(k == Zj && env.scope.kind == .function && env.kindOf n == some .cell)then(n,Ur)else(n,k)).lookup x=some .cell
 | [],_,h=>by simp at h
 | (n,k)::r,x,h=>by
  have c:=@IB env r x;rw [Qp]
  show List.lookup x ((if(k == Zj && env.scope.kind == .function && env.kindOf n == some .cell)=true then(n,Ur)else(n,k))::_)=_ ∨ List.lookup x ((if(k == Zj && env.scope.kind == .function && env.kindOf n == some .cell)=true then(n,Ur)else(n,k))::_)=_
  cases a:x == n with
  | true=>
   simp only [QT,a]at h;cases h;by_cases b:(Zj == Zj && env.scope.kind == .function && env.kindOf n == some .cell)=true
   ·rw [if_pos b];right;simp [QT,a]
   ·rw [if_neg b];left;simp [QT,a]
  | false=>
   simp only [QT,a]at h;by_cases b:(k == Zj && env.scope.kind == .function && env.kindOf n == some .cell)=true
   ·rw [if_pos b];simp only [QT,a];exact c h
   ·rw [if_neg b];simp only [QT,a];exact c h
theorem Bj{env:Env}:∀{names:List (Str × UX)}{x:Str}{q:UX},(∀ y∈names,y.2≠.cell)->(q=.cell ∨ q=.free)->
  (names.map fun(n,k)=>if(k == Zj && env.scope.kind == .function && env.kindOf n == some .cell)then(n,Ur)else(n,k)).lookup x=some q->(x,Zj)∈names
 | [],_,_,_,_,h=>by simp at h
 | (n,k)::r,x,q,hn,hq,h=>by
  have f:=@Bj env r x q (fun y g=>hn y (Qf _ g)) hq;rw [Qp]at h;have a:List.lookup x ((if(k == Zj && env.scope.kind == .function && env.kindOf n == some .cell)=true then(n,Ur)else(n,k))::_)=some q:=h
  cases c:x == n with
  | true=>
   have e:x=n:=Yz c;by_cases b:(k == Zj && env.scope.kind == .function && env.kindOf n == some .cell)=true
   ·have:k=.free:=by
     have:=b
     simp only [QL,beq_iff_eq]at this;exact this.1.1
    rw [e,this];exact Qk
   ·rw [if_neg b]at a;simp only [QT,c]at a;have d:k=q:=QB a;rcases hq with z | z
    ·exact absurd (d.trans z) (hn (n,k) Qk)
    ·rw [e,<- z,<- d];exact Qk
  | false=>
   by_cases b:(k == Zj && env.scope.kind == .function && env.kindOf n == some .cell)=true
   ·rw [if_pos b]at a;simp only [QT,c]at a;exact Qf _ (f a)
   ·rw [if_neg b]at a;simp only [QT,c]at a;exact Qf _ (f a)
section
variable {X:Cx}{N':List Str}{scope:Ul}{inner:List (Option Nat)}{cl:List (Str × J8)}{C:J8}{fp:List J8}{s s4:J9}{H:Hp}{σ:L2.St}{pins:List (J8 × Obj)}
theorem Rc(CS:pD X N' scope inner)(I:Inv X pins σ H s)(w:∀ b∈fp,gO X pins H b)(n:∀ x c,cl.lookup x=some c->X.env.cells.lookup x=some c)(Q:∀ x,(x,Zj)∈scope.names->∃ c,cl.lookup x=some c)(c3:∀ x c,cl.lookup x=some c->(x,Zj)∈scope.names)
  (K:∀ b∈fp,b<s.heap.objs.size) (A:C=s.heap.objs.size) {h':Heap}{tk:Nat} (t:∀ b o,s.heap.get? b=some o->h'.get? b=some o) (J:h'.Ns C fun _=>none) (G:s4={ s with heap:=h',toks:=tk }):
  Inv (fH X N' scope cl C fp s H) [] (iP inner σ) H s4:=by
 subst G
 have B:∀ b o,s.heap.get? b=some o->b≠C:=fun b o e=>by rw [A];exact Qz (Qs e)
 have cC:∀ x c,cl.lookup x=some c->c≠C:=fun x c e=>by
  obtain⟨v,o,q,_⟩:=I.cell x c (n x c e);exact B c o q
 refine⟨⟨I.ok.mod,CS.kind,I.ok.glob,I.ok.blt,?_,fun x y c h1 h2=>I.ok.inj x y c (n x c h1) (n y c h2),fun x F=>?_,fun x c F h=>?_,I.ok.hd,I.ok.frames,.inl rfl,fun b l=>⟨?_,fun x c e z=>(w b l).2.2.2.2.1 x c (n x c e) z⟩,I.bs,QJ I.ok.bsz I.sz,fun b o e l=>?_,fun b l=>?_,I.stack,I.stkFree⟩,
  rfl,I.bare,Un.kept t,⟨_,J,fun i x v O g e3=>?_⟩,fun x c e=>?_,?_,fun x c e=>I.freeC x c (n x c e),fun p hp=>absurd (show p∈([]:List (J8 × Obj))from hp) (by simp),I.hok.kept t,?_⟩
 ·show s.heap.objs.size<=C
  rw [A];exact Qm _
 ·have d:(relabel scope X.env).names.lookup x=some .cell ∨ (relabel scope X.env).names.lookup x=some .free:=F;rcases d with d | d
  ·exact Q x (Bj CS.nocell (.inl rfl) d)
  ·exact Q x (Bj CS.nocell (.inr rfl) d)
 ·have d:(scope.names.lookup x == some NameKind.local)=true:=F;have O:scope.names.lookup x=some .local:=Yz d;have g:=(CS.free _ (c3 x c h) rfl).1;rw [O]at g;cases g
 ·show b≠C
  rw [A];exact Qz (K b l)
 ·rcases(w b l).2.2.2.1 with z | z
  ·exact I.ok.noex b o e z
  ·exact absurd (QX (Qs e) (QJ I.ok.bsz z)) (JO _)
 ·intro z;rcases Ql.mp (I.stkSub b z)with q | q
  ·exact(w b l).2.1 q
  ·exact(w b l).2.2.1 q
 ·
  unfold iP at g;rw [QE]at g
  cases M:inner[i]? with
  | none=>rw [M]at g;cases g
  | some o=>
   rw [M]at g
   cases o with
   | none=>cases g
   | some j=>
    have k:(σ[j]?).bind id=some v:=by simpa using g
    have e4:σ[j]?=some (some v):=by
     cases S:σ[j]? with
     | none=>rw [S]at k;cases k
     | some w'=>rw [S]at k;exact congrArg some k
    obtain⟨x',g1,g2,g3⟩:=CS.out i j M;have N:N'[i]?=some x:=O;rw [N]at g1;cases g1;have r:(x,Zj)∈scope.names:=PySem.mem_of_lookup g3;have f:=(CS.free _ r rfl).2;obtain⟨m,hm,hl⟩:=I.loc;have vis:fY X.env.scope x:=f.elim (fun z=>.inr (.inl z)) fun z=>.inr (.inr z);obtain⟨u,U,W⟩:=hl j x v g2 e4 vis
    refine⟨u,U,?_⟩
    obtain⟨c,R⟩:=Q x r;rcases W with⟨k1,_⟩ | ⟨_,c',Z,Y⟩
    ·have E:X.env.scope.names.lookup x=some .local:=k1
     rcases f with z | z <;> (rw [E]at z;cases z)
    ·have T:=n x c R;rw [Z]at T;cases T;refine .inr ⟨?_,c,R,(let⟨o,q1,q2⟩:=Y;⟨o,t _ o q1,q2⟩)⟩
     have:=IB (env:=X.env) g3
     exact this.elim .inr .inl
 ·obtain⟨v,q⟩:=I.cell x c (n x c e)
  exact⟨v,(let⟨o,q1,q2⟩:=q;⟨o,t _ o q1,q2⟩)⟩
 ·show H C=none
  exact I.hok.fresh (by rw [A];exact Qm _)
 ·show(iP inner σ).length=N'.length
  unfold iP;rw [Qi];exact CS.len
theorem Rb(I:Inv X pins σ H s)(h:∀ b∈fp,gO X pins H b)(p:C=s.heap.objs.size)(J:Inv (fH X N' scope cl C fp s H) [] σ' H' s5)(g:Zk C s5.heap h'):
  Inv X pins σ H' { s5 with heap:=h' }:=by
 have d:∀ b o,s.heap.get? b=some o->b≠C:=fun b o e=>by rw [p];exact Qz (Qs e)
 have U:Un (iO X.stack) fp H H' s.heap s5.heap:=J.base;have l:H' C=none:=J.free;refine I.call' (ch:=fp) J.os ⟨fun b o e n a f=>?_,fun b o e n a f=>?_,U.free,fun b o e f=>?_,U.tups,U.frzs,U.tbls⟩ (fun b u e=>?_) J.bare fun b a=>?_
 ·rw [g.2 b (d b o e)];exact U.keep b o e n a f
 ·obtain⟨j,q⟩:=U.slot b o e n a f
  exact⟨j,by rw [g.2 b (d b o e)];exact q⟩
 ·obtain⟨k,q⟩:=U.there b o e f
  exact⟨k,by rw [g.2 b (d b o e)];exact q⟩
 ·have i:∀ c v,H' c=some v->c≠C:=fun c v q z=>by rw [z,l]at q;cases q
  refine(J.hok b u e).stay (fun c v m q=>?_) (fun _ q=>q) fun _ _ q=>q
  rw [g.2 c ?_]
  ·exact q
  ·rcases m with z | z
   ·rw [z];exact i b u e
   ·exact i c _ z
 ·exact⟨(h b a).2.2.2.1,(h b a).2.1,(h b a).2.2.2.2.1,(h b a).2.2.2.2.2⟩
end
def qP(X:Cx)(a:List Expr)(t:TT):Prop:=
 ∀(pins:List (J8 × Obj)) (s:J9) (σ:L2.St) (H:Hp) (Q:Bool->Hp->Prop),Inv X pins σ H s->t σ H Q->
  Zb (Zc X.prog X.w) X.A (forIn a true fun c r=>if r=true then do let ok <- isTrue c X.env (Zr c X.env);pure (Ux ok)else pure (Ux r)) (TP X pins σ Q) X.xe s
theorem Io(h:PT X c t):qP X [c] t:=fun a s b H Q I q=>wpAny_tests_one (h a s b H Q I q)
def Cs(h:TI)(g:TG)(ti:TT)(te:TE)(inner:List (Option Nat)):TE:=fun c H Q=>h c H fun J f=>∀ D,f D=none->∃ W:Nat->Nat->L2.St->Hp->Prop,(∃ m,W 0 m (iP inner c) (aJ f D (.lst [])))/\∀ i m σ' H',W i m σ' H'->
 (J.stop i H'/\Q (.ref D) H') ∨ (J.go i H'/\∀ x H2,J.yld i H' x H2->g x σ' H2 fun a j=>ti a j fun b e=>if b=true then te a e fun y d=>∃ ys,d D=some (.lst ys)/\ys.length<sizeLine/\∃ m',m'<m/\W (i+1) m' a (aJ d D (.lst (ys++[y])))else ∃ m',m'<m/\W (i+1) m' a e)
section
variable {X:Cx}{elt tg iter:Expr}{ifs:List Expr}{scope:Ul}{pos:Pos}{N':List Str}{inner:List (Option Nat)}{wi:TI}{g:TG}{ti:TT}{te:TE}
theorem O2{Y:Cx}{D H:J8}{h:List J8}{q:Nat->Heap->Prop}{J:It}{W:Nat->Nat->L2.St->Hp->Prop}{Qn:Hp->Prop}{RR:Result->J9->Prop}{n:L2.St}{U:Hp}{s4:J9}{m0:Nat}
  (hc:Y.calm=true) (c:∀ v s,¬ Y.xe v s) (hg:PG Y tg g) (ht:qP Y ifs ti) (he:PE Y elt te) (T:lK Y.prog Y.w Y.K tg J h H q) (M:∀{H'':Hp},(∀ b∈h,H'' b=none)->∀ b∈h,gO Y [] H'' b)
  (I4:Inv Y [] n U s4) (t4:q 0 s4.heap) (O:∀ b∈h,U b=none) (w0:W 0 m0 n U)
  (step:∀ i m σ' H',W i m σ' H'->(J.stop i H'/\Qn H') ∨ (J.go i H'/\∀ x H3,J.yld i H' x H3->g x σ' H3 fun σ3 H3=>ti σ3 H3 fun b H4=>if b=true then te σ3 H4 fun y H5=>∃ ys,H5 D=some (.lst ys)/\ys.length<sizeLine/\∃ m',m'<m/\W (i+1) m' σ3 (aJ H5 D (.lst (ys++[y])))else ∃ m',m'<m/\W (i+1) m' σ3 H4))
  (fin:∀ σ' H' s5,Inv Y [] σ' H' s5->Qn H'->RR (.ok .next) s5):
  Ui (Zc Y.prog Y.w) Y.A (.compLoop (.ListComp elt [⟨tg,iter,ifs,0⟩] scope pos) 0 (.ref H) (.ref D) Y.env) RR s4:=by
 refine codeAny_loop rfl (fun m k=>∃ i σ' H',Inv Y [] σ' H' k/\q i k.heap/\(∀ b∈h,H' b=none)/\W i m σ' H') (fun m k hI=>?_) m0 ⟨0,_,_,I4,t4,O,w0⟩;obtain⟨i,σ',H',I',Z,p,w'⟩:=hI
 show Zb _ Y.A ((compTurn (.ListComp elt [⟨tg,iter,ifs,0⟩] scope pos) 0 (.ref H) (.ref D) Y.env).onRaise (fun x=>do noteFrame x Y.env;theTreesLotGoes x)) _ _ k
 refine wpAny_noted ?_;rw [compTurn_list];refine Qa (wpAny_standAt (Qa ?_));rcases step i m σ' H' w' with⟨stop,qn⟩ | ⟨go,G⟩
 ·refine Jp (T.done Y rfl rfl rfl hc i [] k σ' H' (fun _ _=>False) I' (M p) Z stop) (fun r s5 f=>?_) fun _ _ z=>z.elim;obtain⟨f,I5⟩:=f;subst f;exact Qb (fin σ' H' s5 I5 qn)
 ·refine Jp (T.item Y rfl rfl rfl hc i [] k σ' H' (fun _ _=>False) I' (M p) Z go) (fun r s5 f=>?_) fun _ _ z=>z.elim;obtain⟨u,f,h5⟩:=f;subst f;refine Qa (Jp h5 (fun _ s6 h6=>?_) fun _ _ z=>z.elim);obtain⟨x,H6,I6,r6,y6,F,N⟩:=h6;have R:=I6.pinned (M N) (T.obj _ _ F)
  have d:∀{m':Nat}{a:L2.St}{l:Hp}{j:J9},Inv Y ([]++tH h s6.heap) a l j->m'<m->W (i+1) m' a l->
    ∃ m',m'<m/\∃ i σ' H',Inv Y [] σ' H' j/\q i j.heap/\(∀ b∈h,H' b=none)/\W i m' σ' H':=fun{m' a l j} I7 lt w7=>by
   refine⟨m',lt,i+1,a,l,I7.unpinned,T.keep _ _ _ F fun b B o e=>(I7.pin (b,o) (Qu _ (Qu _ (xS B e)))).1,fun b B=>?_,w7⟩
   obtain⟨o,e,_⟩:=T.obj _ _ F b B
   exact(I7.pin (b,o) (Qu _ (Qu _ (xS B e)))).2.1
  refine Qa (Jp (hg _ s6 σ' H6 x u _ R r6 (G x H6 y6)) (fun _ j h7=>?_) fun _ _ z=>absurd z (c _ _));obtain⟨a,l,I7,q7⟩:=h7;refine Qa (Jp (ht _ j a l _ I7 q7) (fun ok s8 h8=>?_) fun _ _ z=>absurd z (c _ _));obtain⟨H8,I8,t⟩:=h8
  cases ok with
  | false=>
   simp only [Qg,if_false]at t ⊢;obtain⟨m',lt,w8⟩:=t;exact Qb ⟨rfl,d I8 lt w8⟩
  | true=>
   simp only [if_true]at t ⊢;refine Qa (Qa (Jp (he _ s8 a H8 _ I8 t) (fun y s9 h9=>?_) fun _ _ z=>absurd z (c _ _)));obtain⟨E,H9,I9,r9,ys,d9,l9,m',lt,w9⟩:=h9;refine Qa (Jp (Ck (X:=Y) _ s9 a H9 (.ref D) [E] _ [y] (fun v H'=>H'=aJ H9 D (.lst (ys++[E]))) I9 rfl (.cons r9 .nil) ⟨_,ys,E,rfl,rfl,d9,l9,rfl⟩) (fun _ a0 I=>?_) fun _ _ z=>absurd z (c _ _));obtain⟨_,a2,S,_,Q⟩:=I;subst Q;exact Qb (Qb ⟨rfl,d S lt w9⟩)
theorem vP(hc:X.calm=true)(CS:pD X N' scope inner)(hg:∀ h C f s H,PG (fH X N' scope h C f s H) tg g)(ht:∀ h C f s H,qP (fH X N' scope h C f s H) ifs ti)(he:∀ h C f s H,PE (fH X N' scope h C f s H) elt te)
  {a:List (J8 × Obj)}{t:L2.St}{s2:J9}{n:Hp}{F:J8}{f:List J8}{E:Nat->Heap->Prop}{J:It}{h:List (Str × J8)}{Q:VK}{RR:YP->J8->Result->J9->Prop}
  (c1:∀ x c,h.lookup x=some c->X.env.cells.lookup x=some c) (c2:∀ x,(x,Zj)∈scope.names->∃ c,h.lookup x=some c) (c3:∀ x c,h.lookup x=some c->(x,Zj)∈scope.names)
  (I2:Inv X a t n s2) (T:lK X.prog X.w X.K tg J f F E) (U:E 0 s2.heap) (f2:∀ b∈f,gO X a n b)
  (q:∀ D,n D=none->∃ W:Nat->Nat->L2.St->Hp->Prop,(∃ m,W 0 m (iP inner t) (aJ n D (.lst [])))/\∀ i m σ' H',W i m σ' H'->
   (J.stop i H'/\Q (.ref D) H') ∨ (J.go i H'/\∀ x H3,J.yld i H' x H3->g x σ' H3 fun σ3 H3=>ti σ3 H3 fun b H4=>if b=true then te σ3 H4 fun y H5=>∃ ys,H5 D=some (.lst ys)/\ys.length<sizeLine/\∃ m',m'<m/\W (i+1) m' σ3 (aJ H5 D (.lst (ys++[y])))else ∃ m',m'<m/\W (i+1) m' σ3 H4))
  (fin:∀(D C:J8) (H':Hp) (s5:J9) (m:Str->Option YP),s5.heap.Ns C m->Q (.ref D) H'->(∀ h',Zk C s5.heap h'->Inv X a t H' { s5 with heap:=h' })->(H' C=none/\C≠X.env.locals/\X.s₀.heap.objs.size<=C/\(∀ x c,X.env.cells.lookup x=some c->c≠C)/\∀ p∈X.pn++a,p.1≠C)->RR (.ref D) C (.ok .next) s5):
  Zb (Zc X.prog X.w) X.A (newList []) (fun acc s₃=>Zb (Zc X.prog X.w) X.A (newFunctionEnv scope X.env.globals h [] X.env.qual none .none (some X.env)) (fun cenv s₄=>
   Ui (Zc X.prog X.w) X.A (.compStart (.ListComp elt [⟨tg,iter,ifs,0⟩] scope pos) 0 (.ref F) acc { cenv with scope:=relabel scope X.env }) (RR acc cenv.locals) s₄) X.xe s₃) X.xe s2:=by
 refine wpAny_newList ?_;have hD:n s2.heap.objs.size=none:=I2.hok.fresh (Qm _);generalize hs3:({ s2 with heap:=s2.heap.push { cls:=.type "list",data:=.seq ([]:List YP).toArray } }:J9)=s3
 have I:∀ b o,s2.heap.get? b=some o->s3.heap.get? b=some o:=fun b o e=>by rw [<- hs3];exact Qh _ e
 have G:s3.heap.objs.size=s2.heap.objs.size+1:=by rw [<- hs3];exact Ys _ _
 have I3:Inv X a t (aJ n s2.heap.objs.size (.lst [])) s3:=by
  rw [<- hs3];exact I2.laid (t':=s2.toks) (o:=.lst []) (fun b o e=>Qh _ e) (Qm _) ⟨Q8 _,[],0,.nil,Qy _ rfl⟩
 have B:∀ b∈f,b<s2.heap.objs.size:=fun b k=>by
  obtain⟨o,e,_⟩:=T.obj 0 _ U b k;exact Qs e
 have R:∀ b∈f,gO X a (aJ n s2.heap.objs.size (.lst [])) b:=fun b k=>by
  obtain⟨g0,g1⟩:=f2 b k
  exact⟨by rw [aX (Qz (B b k))];exact g0,g1⟩
 have t3:E 0 s3.heap:=T.keep _ _ _ U fun b _ o e=>I b o e;obtain⟨W,⟨m0,Z⟩,step⟩:=q _ hD;refine wpAny_newFunctionEnv (fun x hx=>CS.nocell x hx) (by intro y hy;simp at hy) (fun l d j=>?_) CS.kind
 try dsimp only at d j ⊢
 have u:∀ b o,s3.heap.get? b=some o->l.get? b=some o:=fun b o e=>j.extBut b o (Qz (Qs e)) (Qh _ e)
 have N:l.Ns s3.heap.objs.size fun _=>none:=by
  have:(fun x=>([]:List (Str × YP)).reverse.lookup x)=(fun _=>none:Str->Option YP):=by funext x;rfl
  rw [this]at d;exact d
 generalize hs4:({ s3 with heap:=l,toks:=s3.toks+([]:List (Str × YP)).length }:J9)=s4
 have I4:Inv (fH X N' scope h s3.heap.objs.size f s3 (aJ n s2.heap.objs.size (.lst []))) [] (iP inner t) (aJ n s2.heap.objs.size (.lst [])) s4:=
  Rc CS I3 R c1 c2 c3 (fun b k=>by rw [G];exact Jk (B b k)) rfl u N hs4.symm
 have S:E 0 s4.heap:=by rw [<- hs4];exact T.keep _ _ _ t3 fun b _ o e=>u b o e
 have CL:s3.heap.objs.size≠X.env.locals:=Jf I3.lt
 have CC:∀ x c,X.env.cells.lookup x=some c->c≠s3.heap.objs.size:=fun x c e=>by
  obtain⟨v,o,z,_⟩:=I3.cell x c e;exact Qz (Qs z)
 show Ui (Zc X.prog X.w) X.A (.compStart (.ListComp elt [⟨tg,iter,ifs,0⟩] scope pos) 0 (.ref F) (.ref s2.heap.objs.size) (compEnvC scope h s3.heap.objs.size X.env)) (RR (.ref s2.heap.objs.size) s3.heap.objs.size) s4
 have r:Ui (Zc X.prog X.w) X.A (.compLoop (.ListComp elt [⟨tg,iter,ifs,0⟩] scope pos) 0 (.ref F) (.ref s2.heap.objs.size) (compEnvC scope h s3.heap.objs.size X.env)) (RR (.ref s2.heap.objs.size) s3.heap.objs.size) s4:=by
  have fx:∀{H'':Hp},(∀ b∈f,H'' b=none)->∀ b∈f,gO (fH X N' scope h s3.heap.objs.size f s3 (aJ n s2.heap.objs.size (.lst []))) [] H'' b:=fun{H''} z b k=>
   ⟨z b k,(I4.ok.exf b k).1,I4.ok.exfs b k,.inl k,fun x c e=>(I4.ok.exf b k).2 x c e,fun p M=>absurd (show p∈([]:List (J8 × Obj))from M) (by simp)⟩
  refine O2 (Y:=fH X N' scope h s3.heap.objs.size f s3 (aJ n s2.heap.objs.size (.lst []))) hc (fun _ _ z=>z) (hg _ _ _ _ _) (ht _ _ _ _ _) (he _ _ _ _ _) T fx I4 S (fun b k=>(R b k).1) Z step fun σ' H' s5 I5 qn=>?_;obtain⟨m5,O,_⟩:=id I5.loc;exact fin _ _ H' s5 m5 O qn (fun h' sb=>Rb I3 R rfl I5 sb) ⟨I5.free,CL,I3.sz,CC,fun p M=>Qz (Qs (I3.pin p M).1)⟩
 exact codeAny_compStart_list r (T.self X.A 0 s4 _ _ S r)
theorem GY(t:X.calm=true)(CS:pD X N' scope inner)(p:PI X tg iter wi)(r:∀ cl C fp s H,PG (fH X N' scope cl C fp s H) tg g)(k:∀ cl C fp s H,qP (fH X N' scope cl C fp s H) ifs ti)(he:∀ cl C fp s H,PE (fH X N' scope cl C fp s H) elt te)
  (hs:∀ x,ZX iter X.env x=pure x:=by intro _;rfl):PE X (.ListComp elt [⟨tg,iter,ifs,0⟩] scope pos) (Cs wi g ti te inner):=by
 intro a s d H Q I h;obtain⟨cl,b,G,F,E⟩:=KL (env:=X.env) (scope:=scope) fun x j o=>I.ok.has x.1 (CS.free x j o).2;rw [eval_ListComp];refine wpAny_comprehension_free (use:=none) rfl hs b CS.kind CS.loc (aW (p a s d H _ I h) fun N U y=>aW y fun i S v=>?_);obtain⟨W,fp,O,J,Y,rfl,K,T,e,B,q⟩:=v;refine vP (RR:=fun c C=>compPost (Zc X.prog X.w) X.A X.xe none (EP X a d Q) c C) t CS r k he G F E K T e B q ?_;intro D C M R m n l u _
 exact⟨m,n,fun z f=>⟨.ref D,M,u z f,rfl,l⟩⟩
end
end CL
namespace DL
open PySem.Spec PySem.SeqAt L2 CL
def fV(inner:List (Option Nat))(ρ:aA):aA:=inner.map fun o=>match o with
 | some j=>match ρ[j]? with
  | some (.dat d)=>.dat d
  | _=>.no
 | none=>.no
def mD(s:D->aA->Option aA)(t:aA->Option Bool)(ge:aA->Option D):List D->aA->Option (List D)
 | [],_=>some []
 | d::ds,ρ=>(s d ρ).bind fun a=>(t a).bind fun b=>if b=true then(ge a).bind fun y=>(mD s t ge ds a).bind fun r=>some (y::r)else mD s t ge ds a
def fJ(gi:aA->Option (List D))(s:D->aA->Option aA)(t:aA->Option Bool)(ge:aA->Option D)(inner:List (Option Nat)):aA->Option (List D):=
 fun b=>(gi b).bind fun c=>(mD s t ge c (fV inner b)).bind fun a=>if a.length<=1000 then some a else none
def fF(g:aA->Option (List D)):aA->Option D:=fun b=>(g b).bind fun a=>some (.list a)
def eT:aA->Option Bool:=fun _=>some true
def Lv:Sl->Bool
 | .own _ | .ownD _ | .ownM _=>true
 | _=>false
def kA(ρ:aA):Prop:=∀(i:Nat) (s:Sl),Lv s=true->ρ[i]?≠some s
def A3(s:D->aA->Option aA):Prop:=∀ d ρ ρ',kA ρ->s d ρ=some ρ'->kA ρ'
theorem Ib(h:kA ρ):kA (ρ.set i (.dat d)):=fun j b a e=>by
 by_cases c:i=j
 ·subst c;by_cases l:i<ρ.length
  ·rw [Qw l]at e;cases e;cases a
  ·rw [Jb (by simpa using YY l)]at e;cases e
 ·rw [Qq c]at e;exact h j b a e
theorem k6(i:Nat):A3 (cT i):=fun d b a h e=>by cases e;exact Ib h
theorem oA(inner:List (Option Nat))(ρ:aA):kA (fV inner ρ):=fun i ds a e=>by
 unfold fV at e;rw [QE]at e
 cases q:inner[i]? with
 | none=>rw [q]at e;cases e
 | some o=>
  rw [q]at e
  cases o with
  | none=>cases e;cases a
  | some j=>
   have b:(match ρ[j]? with | some (.dat d)=>Sl.dat d | _=>Sl.no)=ds:=QB e
   split at b <;> (subst b;cases a)
theorem Hv{K:PySem.W.Frag}{F:J8->Prop}{H:Hp}{p:J8}{vs us:List V}(c:H p=some (.lst vs))(d:¬ F p):bJ K F F H (aJ H p (.lst us)):=
 ⟨fun _ h=>h,fun a e h=>by
  rcases h with(h | ⟨o,h⟩) | h
  ·exact .inl (.inl (by rw [aX (by intro z;subst z;rw [c]at h;cases h)];exact h))
  ·exact .inl (.inr ⟨o,by rw [aX (by intro z;subst z;rw [c]at h;cases h)];exact h⟩)
  ·exact .inr h,fun a e f h=>by
  have b:a≠p:=fun z=>d (by rw [<- z];exact f);rcases h with h | ⟨o,h⟩
  ·exact .inl (by rw [aX b];exact h)
  ·exact .inr ⟨o,by rw [aX b];exact h⟩,fun a g f h=>by rw [aX (fun z=>d (by rw [<- z];exact f))];exact h⟩
theorem bF.plain{K:PySem.W.Frag}{F g:J8->Prop}{H f H₀ b:Hp}{k:L2.St}{ρ:aA}(S:bF K F H H₀ k ρ)(pl:kA ρ)(T:bJ K F g H f)(z:∀ a,g a->f a≠none):bF K g f b k ρ:=
 ⟨S.len,fun i s h=>by
  obtain⟨o,q,w⟩:=S.sl i s h
  refine⟨o,q,?_⟩
  cases s with
  | no=>trivial
  | ownD c=>exact absurd h (pl i _ rfl)
  | ownM c=>exact absurd h (pl i _ rfl)
  | dat d=>obtain⟨v,e,r⟩:=w;exact⟨v,e,r.stay T⟩
  | own m=>exact absurd h (pl i _ rfl),fun i j a m n _ l=>absurd l (pl i _ rfl),z⟩
theorem bF.inner{K:PySem.W.Frag}{F:J8->Prop}{H H₀:Hp}{c:L2.St}{ρ:aA}(S:bF K F H H₀ c ρ)(inner:List (Option Nat)):bF K F H H₀ (iP inner c) (fV inner ρ):=
 ⟨by simp [iP,fV],fun i s h=>by
  unfold fV at h;unfold iP;rw [QE]at h ⊢
  cases q:inner[i]? with
  | none=>rw [q]at h;cases h
  | some o=>
   rw [q]at h
   cases o with
   | none=>cases h;exact⟨none,rfl,trivial⟩
   | some j=>
    have b:(match ρ[j]? with | some (.dat d)=>Sl.dat d | _=>Sl.no)=s:=QB h
    split at b
    ·rename_i d e;cases b;obtain⟨v,g,r⟩:=S.dat e
     exact⟨some v,by simp [g],v,rfl,r⟩
    ·cases b
     exact⟨_,rfl,trivial⟩,fun i j a l k _ f=>absurd f (oA inner ρ i _ rfl),S.fz⟩
def yM(X:Cx)(a:List Expr)(t:aA->Option Bool):Prop:=qP X a (o7 X.K t)
theorem rS:yM X [] eT:=fun a s e H Q I d=>by
 obtain⟨F,c,f,b,S,q,k⟩:=d;cases q;exact wpAny_tests_nil ⟨H,I,k F H (aI.refl F H)⟩
theorem vY(h:DT X c t):yM X [c] t:=Io h
section
variable {X:Cx}{elt tg iter:Expr}{ifs:List Expr}{scope:Ul}{pos:Pos}{N':List Str}{inner:List (Option Nat)}{gi:aA->Option (List D)}{s:D->aA->Option aA}{t:aA->Option Bool}{ge:aA->Option D}
structure Ko(X:Cx)(s:D->aA->Option aA)(t:aA->Option Bool)(ge:aA->Option D)(xs out:List D)(F1:J8->Prop)(H1:Hp)(D':J8)(i m:Nat)(σ':L2.St)(H':Hp)(F2:J8->Prop)(ρ2:aA)(vs:List V)(don rst:List D):Prop where
 em:m=xs.length-i
 hi:i<=xs.length
 E:aI F1 F2 H1 H'
 T:bJ X.K F1 F2 H1 H'
 S:bF X.K F2 H' H1 σ' ρ2
 pl:kA ρ2
 dD:H' D'=some (.lst vs)
 nf:¬ F2 D'
 rd:Reps X.K F2 H' don vs
 ec:mD s t ge (xs.drop i) ρ2=some rst
 eo:don++rst=out
 kp:∀ b o,b≠D'->H1 b=some o->H' b=some o
theorem O1(kp:A3 s)(S:bF X.K F H H₀ σ ρ)(q:fJ gi s t ge inner ρ=some out)
  (fin:∀ F' H' D' vs,aI F F' H H'->bJ X.K F F' H H'->H D'=none->H' D'=some (.lst vs)->¬ F' D'->Reps X.K F' H' out vs->bF X.K F' H' H₀ σ ρ->Q (.ref D') H'):
  Cs (Ah X.K gi) (Ag X.K s) (o7 X.K t) (tD X.K ge) inner σ H Q:=by
 obtain⟨g,e1,q⟩:=aE q;obtain⟨u,e2,q⟩:=aE q;by_cases hl:u.length<=1000
 ·rw [if_pos hl]at q;cases q
  refine⟨F,H₀,ρ,g,S,e1,fun M n J E1 I1 D' N=>?_⟩
  have S1:=S.ext E1
  refine⟨fun i m r H'=>∃ I j vs h k,Ko X s t ge g out M n D' i m r H' I j vs h k,?_,?_⟩
  ·have E2:aI M M n (aJ n D' (.lst [])):=aI.fresh N
   refine⟨g.length,M,fV inner ρ,[],[],out,rfl,Q8 _,E2,E2.stay,?_,oA inner ρ,cO,fun f=>S1.fz _ f N,.nil,e2,rfl,fun b o p e=>by rw [aX p];exact e⟩
   exact(S1.inner inner).plain (oA inner ρ) E2.stay (E2.fz S1.fz)
  ·rintro i m r H' ⟨I,j,vs,h,k,rfl,hi,E2,T2,S2,pl,E,W,rd,a,B,w⟩;obtain⟨Z,Y⟩:=I1 I H' T2 S2.fz i;by_cases d:i<g.length
   ·right
    have z:g[i]?=some g[i]:=by simp [d]
    obtain⟨go,T⟩:=Z _ z;rw [Yl d]at a;obtain⟨c,e3,a⟩:=aE a;obtain⟨b,e4,a⟩:=aE a
    refine⟨go,fun x H3 y=>?_⟩
    obtain⟨F3,E3,R3⟩:=T x H3 y;have l:=kp _ _ _ pl e3
    refine⟨F3,n,j,g[i],c,S2.ext E3,R3,e3,fun a0 S5=>⟨F3,n,c,b,S5,e4,fun F6 H6 E6=>?_⟩⟩
    have S6:=S5.ext E6;have E36:=E3.trans E6;have d6:H6 D'=some (.lst vs):=E36.same _ _ E
    have U:¬ F6 D':=fun f=>by
     rcases E36.new _ f with f | ⟨f,_⟩
     ·exact W f
     ·rw [E]at f;cases f
    cases b with
    | false=>
     simp only [Qg,if_false]at a ⊢
     exact⟨g.length-(i+1),by lia,F6,c,vs,h,k,rfl,d,E2.trans E36,T2.trans E36.stay,S6,l,d6,U,rd.stay E36.stay,a,B,fun b o p e=>E36.same _ _ (w b o p e)⟩
    | true=>
     simp only [if_true]at a ⊢;obtain⟨yd,e5,a⟩:=aE a;obtain⟨r',e6,a⟩:=aE a;cases a
     refine⟨F6,n,c,yd,S6,e5,fun G O R E7 R7=>?_⟩
     have E37:=E36.trans E7;have d7:O D'=some (.lst vs):=E37.same _ _ E
     have v:¬ G D':=fun f=>by
      rcases E37.new _ f with f | ⟨f,_⟩
      ·exact W f
      ·rw [E]at f;cases f
     have T8:bJ X.K G G O (aJ O D' (.lst (vs++[R]))):=Hv d7 v;have S7:=S6.ext E7;have E8:aI M G n (aJ O D' (.lst (vs++[R]))):=(E2.trans E37).turn N
     have ll:vs.length<1000:=by
      have h1:=rd.length;have h2:=congrArg List.length B;rw [Qo,Qv]at h2;lia
     refine⟨vs,d7,tT (YQ ll),g.length-(i+1),by lia,G,c,vs++[R],h++[yd],r',rfl,d,E8,(T2.trans E37.stay).trans T8,S7.plain l T8 (E8.fz S1.fz),l,cO,v,?_,e6,by rw [QG];exact B,fun b o p e=>?_⟩
     ·exact((rd.stay E37.stay).append (.cons R7 .nil)).stay T8
     ·rw [aX p];exact E37.same _ _ (w b o p e)
   ·left
    have A:g.length<=i:=YY d
    refine⟨Y A,?_⟩
    rw [Y4 A]at a;cases a;rw [QP]at B;subst B;have hH:H D'=none:=E1.same.free N;have EE:aI F I H H':=E1.trans E2;exact fin I H' D' vs EE (E1.stay.trans T2) hH E W rd (S.ext EE)
 ·rw [if_neg hl]at q;cases q
theorem kX(n:X.calm=true)(y:pD X N' scope inner)(i:A3 s)(l:DI X tg iter gi)(m:∀ cl C fp s' H,DG (fH X N' scope cl C fp s' H) tg s)(j:∀ cl C fp s' H,yM (fH X N' scope cl C fp s' H) ifs t)(he:∀ cl C fp s' H,DE (fH X N' scope cl C fp s' H) elt ge)
  (hs:∀ x,ZX iter X.env x=pure x:=by intro _;rfl):DE X (.ListComp elt [⟨tg,iter,ifs,0⟩] scope pos) (fF (fJ gi s t ge inner)):=
 cR (GY (g:=Ag X.K s) (ti:=o7 X.K t) (te:=tD X.K ge) n y l (fun cl C fp s' H=>m cl C fp s' H) (fun cl C fp s' H=>j cl C fp s' H) (fun cl C fp s' H=>he cl C fp s' H) hs) fun z H Q e=>by
  obtain⟨F,c,A,d,S,q,k⟩:=e;obtain⟨h,r,q⟩:=aE q;cases q;refine O1 i S r fun v u w B E' G p b E o h5=>?_;refine k (fun a=>v a ∨ a=w) u _ ⟨E'.same,fun a f=>.inl (E'.up a f),fun a f=>?_⟩ (.lst (.inl ⟨.inr rfl,.inl b⟩) (o.stay ⟨fun _ f=>.inl f,fun _ _ f=>f,fun _ _ _ f=>f,fun _ _ _ f=>f⟩));rcases f with f | rfl
  ·exact E'.new a f
  ·exact .inr ⟨p,by rw [b];simp⟩
end
end DL
namespace SD
open PySem.Spec PySem.SeqAt L2 DL SG
theorem qC:∀ a:List Int,HT.lexLt a a=false
 | []=>rfl
 | x::xs=>by rw [HT.lexLt_cons,if_pos rfl];exact qC xs
theorem xK:∀ a b c:List Int,HT.lexLt a b=true->HT.lexLt b c=true->HT.lexLt a c=true
 | [],b,[],h1,h2=>by cases b with | nil=>cases h1 | cons _ _=>cases h2
 | [],_,_::_,_,_=>rfl
 | _::_,[],_,h1,_=>by cases h1
 | _::_,_::_,[],_,h2=>by cases h2
 | x::xs,y::ys,z::zs,h1,h2=>by
  rw [HT.lexLt_cons]at h1 h2 ⊢;by_cases e:x=y
  ·subst e;rw [if_pos rfl]at h1;by_cases d:x=z
   ·subst d;rw [if_pos rfl]at h2 ⊢;exact xK xs ys zs h1 h2
   ·rw [if_neg d]at h2 ⊢;exact h2
  ·rw [if_neg e]at h1;have g1:x<y:=of_decide_eq_true h1;by_cases d:y=z
   ·subst d;rw [if_neg e];exact decide_eq_true g1
   ·rw [if_neg d]at h2;have g2:y<z:=of_decide_eq_true h2;rw [if_neg (by lia)];exact decide_eq_true (by lia)
theorem sW:∀ a b:List Int,HT.lexLt a b=false->HT.lexLt b a=false->a=b
 | [],[],_,_=>rfl
 | [],_::_,h1,_=>by cases h1
 | _::_,[],_,h2=>by cases h2
 | x::xs,y::ys,h1,h2=>by
  rw [HT.lexLt_cons]at h1 h2;by_cases c:x=y
  ·subst c;rw [if_pos rfl]at h1 h2;rw [sW xs ys h1 h2]
  ·rw [if_neg c]at h1;rw [if_neg (Ua c)]at h2;have g1:¬ x<y:=of_decide_eq_false h1;have g2:¬ y<x:=of_decide_eq_false h2;lia
theorem Hb(a b c:List Int)(h:HT.lexLt a c=true):HT.lexLt a b=true ∨ HT.lexLt b c=true:=by
 cases e:HT.lexLt a b with
 | true=>exact .inl rfl
 | false=>
  right
  cases d:HT.lexLt b a with
  | false=>rw [<- sW a b e d];exact h
  | true=>exact xK b a c d h
theorem Ce:∀(a b c d:List Int),a.length=b.length->HT.lexLt (a++c) (b++d)=if a=b then HT.lexLt c d else HT.lexLt a b
 | [],[],c,d,_=>by simp
 | [],_::_,_,_,h=>by simp at h
 | _::_,[],_,_,h=>by simp at h
 | x::xs,y::ys,c,d,h=>by
  rw [Jc,Jc,HT.lexLt_cons];have f:=Ce xs ys c d (by simpa using h);by_cases e:x=y
  ·subst e;rw [if_pos rfl,f,HT.lexLt_cons,if_pos rfl];simp
  ·rw [if_neg e,if_neg (by simp [e]),HT.lexLt_cons,if_neg e]
def q9(a:List (YP × List Int)):PyProof.Rows.KeyKind where
 α:=List Int
 blt:=HT.lexLt
 irrefl:=qC
 trans:=xK
 negTrans:=Hb
 total:=sW
 keyOf:=fun v=>a.lookup v
 dflt:=[]
def iU:D->D->Bool
 | .int _,.int _=>true
 | .tuple xs,.tuple ys=>decide (xs.length=ys.length)
 | _,_=>false
def gU:List D->List D->Bool
 | [],[]=>true
 | x::xs,y::ys=>iU x y && gU xs ys
 | _,_=>false
def nX:D->Option (List Int)
 | .int i=>some [i]
 | .tuple a=>cX a
 | _=>none
def i9:List D->Option (List Int)
 | []=>some []
 | d::ds=>(nX d).bind fun a=>(i9 ds).bind fun b=>some (a++b)
theorem PV(c:iU d x=true)(e:iU d y=true):iU x y=true:=by
 cases d with
 | int i=>
  cases x with
  | int _=>cases y with
   | int _=>rfl
   | _=>cases e
  | _=>cases c
 | tuple f=>
  cases x with
  | tuple h=>cases y with
   | tuple g=>
    have a:f.length=h.length:=of_decide_eq_true c;have b:f.length=g.length:=of_decide_eq_true e;exact decide_eq_true (a.symm.trans b)
   | _=>cases e
  | _=>cases c
 | _=>cases x <;> cases c
theorem xM:∀{d x y:List D},gU d x=true->gU d y=true->gU x y=true
 | [],[],[],_,_=>rfl
 | [],[],_::_,_,h=>by cases h
 | [],_::_,_,h,_=>by cases h
 | _::_,[],_,h,_=>by cases h
 | _::_,_::_,[],_,h=>by cases h
 | d::ds,x::xs,y::ys,h1,h2=>by
  have a:=QO.mp h1;have b:=QO.mp h2;exact QO.mpr ⟨PV a.1 b.1,xM a.2 b.2⟩
theorem E5:∀{xs ys:List D}{a b:List Int},cX xs=some a->cX ys=some b->PyData.eqvAll xs ys=decide (a=b)
 | [],[],_,_,e,d=>by cases e;cases d;rfl
 | [],.int _::_,_,_,e,d=>by
  cases e;obtain⟨_,_,d⟩:=aE d;cases d
  simp [PyData.eqvAll]
 | .int _::_,[],_,_,e,d=>by
  cases d;obtain⟨_,_,e⟩:=aE e;cases e
  simp [PyData.eqvAll]
 | .int i::xs,.int j::ys,_,_,e,d=>by
  obtain⟨a,g,e⟩:=aE e;obtain⟨b,f,d⟩:=aE d
  cases e;cases d
  rw [PyData.eqvAll,E5 g f]
  simp [ZQ]
  by_cases c:i=j <;> simp [c]
 | .none::_,_,_,_,e,_=>by cases e
 | .bool _::_,_,_,_,e,_=>by cases e
 | .str _::_,_,_,_,e,_=>by cases e
 | .list _::_,_,_,_,e,_=>by cases e
 | .tuple _::_,_,_,_,e,_=>by cases e
 | .dict _::_,_,_,_,e,_=>by cases e
 | _,.none::_,_,_,_,d=>by cases d
 | _,.bool _::_,_,_,_,d=>by cases d
 | _,.str _::_,_,_,_,d=>by cases d
 | _,.list _::_,_,_,_,d=>by cases d
 | _,.tuple _::_,_,_,_,d=>by cases d
 | _,.dict _::_,_,_,_,d=>by cases d
theorem mF:∀{xs:List D}{a:List Int},cX xs=some a->Zy xs=true/\ZB xs=0/\xs.length=a.length/\xs=a.map Zh
 | [],_,h=>by cases h;exact⟨rfl,rfl,rfl,rfl⟩
 | .int i::xs,_,h=>by
  obtain⟨a,e,h⟩:=aE h;cases h;obtain⟨f,d,c,b⟩:=mF e
  exact⟨by simp [Zy,Uf,f],by simp [ZB,U5,d],by simp [c],by rw [b];rfl⟩
 | .none::_,_,h=>by cases h
 | .bool _::_,_,h=>by cases h
 | .str _::_,_,h=>by cases h
 | .list _::_,_,h=>by cases h
 | .tuple _::_,_,h=>by cases h
 | .dict _::_,_,h=>by cases h
theorem B7:∀{xs:List D}{a:List Int}{us:List YP}{as:List J8},cX xs=some a->ReadsAll h us xs as->Z1 us a
 | [],_,_,_,e,r=>by cases e;cases r;exact .nil
 | .int i::xs,_,_,_,e,r=>by
  obtain⟨a,d,e⟩:=aE e;cases e
  cases r with
  | cons c b=>
   cases c;exact .cons i _ (B7 d b)
 | .none::_,_,_,_,h,_=>by cases h
 | .bool _::_,_,_,_,h,_=>by cases h
 | .str _::_,_,_,_,h,_=>by cases h
 | .list _::_,_,_,_,h,_=>by cases h
 | .tuple _::_,_,_,_,h,_=>by cases h
 | .dict _::_,_,_,_,h,_=>by cases h
section
variable {prog:Zd}{w:Zf}{A:Around}{E:YP->J9->Prop}{s:J9}
theorem Gh(l:iU x y=true)(g:nX x=some a)(f:nX y=some b):a.length=b.length:=by
 cases x with
 | int i=>cases y with
  | int j=>cases g;cases f;rfl
  | _=>cases l
 | tuple d=>cases y with
  | tuple c=>
   have e:d.length=c.length:=of_decide_eq_true l;rw [<- (mF (show cX d=some a from g)).2.2.1,<- (mF (show cX c=some b from f)).2.2.1,e]
  | _=>cases l
 | _=>cases y <;> cases l
theorem Lc(B:A.units+64<Zi)(h:Reads s.heap p x as)(g:Reads s.heap q y bs)(l:iU x y=true)(m:nX x=some a)(k:nX y=some b):EqAt A s p q (decide (a=b)):=by
 cases x with
 | int i=>cases y with
  | int j=>
   cases m;cases k
   cases h with
   | int _ t=>cases g with
    | int _ u=>
     have:=EqAt.int_int (A:=A) (s:=s) i t j u
     have e:(i == j)=decide ([i]=[j]):=by
      by_cases c:i=j
      ·subst c;simp
      ·simp [c]
     rw [<- e];exact this
  | _=>cases l
 | tuple f=>cases y with
  | tuple d=>
   have o:cX f=some a:=m;have n:cX d=some b:=k;obtain⟨z,v,_,_⟩:=mF o;obtain⟨w,r,_,_⟩:=mF n
   have:=eqAt_reads (.tuple f) (.tuple d) A s p q as bs h g z w (by show A.units+min (ZB f+1) (ZB d+1)<Zi;rw [v,r];lia)
   have e:ZQ (.tuple f) (.tuple d)=decide (a=b):=by rw [ZQ];exact E5 o n
   rw [e]at this;exact this
  | _=>cases l
 | _=>cases y <;> cases l
theorem IQ(h:Q b s):Zb (Zc prog w) A (truthOfDropped (.bool b)) Q E s:=by
 unfold truthOfDropped;exact YB h
theorem Ld(J:A.units+64<Zi)(d:Reads s.heap p x as)(c:Reads s.heap q y bs)(l:iU x y=true)(h:nX x=some a)(g:nX y=some b)
  (t:f=true->∃ i,x=.int i) (k:Q (HT.lexLt a b) s) (o:a≠b):Zb (Zc prog w) A (oneLt' f p q) Q E s:=by
 cases x with
 | int i=>cases y with
  | int j=>
   cases h;cases g;cases d;cases c
   have e:HT.lexLt [i] [j]=decide (i<j):=by
    rw [HT.lexLt_cons,if_neg (by intro z;exact o (by rw [z]))]
   rw [e]at k
   cases f with
   | true=>exact oneLt_int k
   | false=>
    rw [oneLt'_eq];simp only [Qg,if_false];refine Qa (HT.rcLt_int A s i _ j _ prog w E _ (IQ k))
  | _=>cases l
 | tuple n=>
  cases f with
  | true=>obtain⟨i,r⟩:=t rfl;cases r
  | false=>cases y with
   | tuple m=>
    have I:cX n=some a:=h;have H:cX m=some b:=g
    cases d with
    | tuple F B v u=>cases c with
     | tuple g1 g2 g3 G=>
      rw [oneLt'_eq];simp only [Qg,if_false];exact Qa (HT.lt_tupInts ⟨_,F,B,_,v⟩ ⟨_,g1,g2,_,g3⟩ (B7 I u) (B7 H G) (by lia) (IQ k))
   | _=>cases l
 | _=>cases y <;> cases l
theorem HC(k:A.units+64<Zi):∀{xs ys:List D}{a c:List Int}{us vs:List YP}{as bs:List J8} (i:Nat),gU xs ys=true->i9 xs=some a->i9 ys=some c->ReadsAll s.heap us xs as->ReadsAll s.heap vs ys bs->
  (b=true->i=0->∀ x r,xs=x::r->∃ n,x=.int n)->(a=c->Q fin s)->(a≠c->Q (HT.lexLt a c) s)->PySem.W.KatLex prog w A b fin Q (us.zip vs) i s
 | [],[],_,_,_,_,_,_,i,_,g,f,r1,r2,_,k1,k2=>by
  cases g;cases f;cases r1;cases r2
  exact PySem.W.kat_nil (k1 rfl)
 | [],_::_,_,_,_,_,_,_,_,l,_,_,_,_,_,_,_=>by cases l
 | _::_,[],_,_,_,_,_,_,_,l,_,_,_,_,_,_,_=>by cases l
 | x::xs,y::ys,_,_,_,_,_,_,i,l,g,f,r1,r2,hb,k1,k2=>by
  obtain⟨a1,o,g⟩:=aE g;obtain⟨I,H,g⟩:=aE g;cases g;obtain⟨t,m,f⟩:=aE f;obtain⟨c2,G,f⟩:=aE f;cases f;obtain⟨j,E⟩:=QO.mp l;have d:=Gh j o m
  cases r1 with
  | cons q v=>cases r2 with
   | cons p u=>
    rw [JI];refine PySem.W.kat_cons (Lc k q p j o m prog w _ _ ?_);by_cases c:a1=t
    ·rw [decide_eq_true c];subst c;refine PySem.W.kat_yes (HC k (i+1) E H G v u (fun _ h=>by lia) (fun e=>k1 (by rw [e])) fun e=>?_)
     have:=k2 (fun z=>e (List.append_cancel_left z))
     rw [Ce _ _ _ _ rfl,if_pos rfl]at this;exact this
    ·rw [decide_eq_false c];refine PySem.W.kat_no (Ld k q p j o m (fun F=>?_) ?_ c)
     ·obtain⟨g1,g2⟩:=QO.mp F;exact hb g1 (by simpa using g2) x xs rfl
     ·have B:a1++I≠t++c2:=fun z=>c (List.append_inj_left z d)
      have:=k2 B
      rw [Ce _ _ _ _ d,if_neg c]at this;exact this
theorem Ci{a:Type}{f:YP->Sem a}{g:YP->a}:∀{vs:List YP}{Q:List a->J9->Prop},(∀ v∈vs,∀(R:a->J9->Prop),R (g v) s->Zb (Zc prog w) A (f v) R E s)->Q (vs.map g) s->Zb (Zc prog w) A (vs.mapM f) Q E s
 | [],_,_,k=>by rw [List.mapM_nil];exact Qb k
 | v::vs,Q,h,k=>by
  rw [List.mapM_cons];refine Qa (h v Qk _ (Qa (Ci (fun u b=>h u (Qf _ b)) (Qb k))))
def isInt:D->Bool
 | .int _=>true
 | _=>false
def jJ(h:Heap):YP->Option YP
 | .ref a=>match h.get? a with
  | some o=>match o.data with
   | .seq b _=>b[0]?
   | _=>none
  | none=>none
 | _=>none
def o8:YP->YP
 | .ref _=>.type "tuple"
 | _=>.type "int"
theorem Oi(v:YP):firstOfTuple' v=(typeOf v >>= fun t=>if(t != .type "tuple")=true then pure none else Builtin.List.listItems v >>= fun xs=>pure xs[0]?):=by
 unfold firstOfTuple';rfl
theorem Pz{vs:List YP}{m:Bool}{d:D}(N:isInt d=m)(O:∀ v∈vs,∃ x xs as,Reads s.heap v (.tuple (x::xs)) as/\iU d x=true)(K:vs≠[]):
  Zb (Zc prog w) A (keyKind' vs.toArray) (fun q s'=>q=tuples' m/\s'=s) E s:=by
 rw [keyKind'_eq,List.mapM_toArray,map_eq_pure_bind];refine Qa (Qa (Ci (g:=fun v=>jJ s.heap v) (fun v c R B=>?_) (Qb ?_)))
 ·obtain⟨x,xs,as,r,_⟩:=O v c
  cases r with
  | @tuple a o us n _ _ f I F H=>
   rw [Oi];refine Qa (Jg (T:="tuple") ⟨o,f,I⟩ ?_)
   have e:(ZK "tuple" != ZK "tuple")=false:=by simp
   rw [if_neg (by rw [e];simp)];refine Qa (listItems_at f F (Qb ?_))
   have G:jJ s.heap (.ref a)=us[0]?:=by
    show(match s.heap.get? a with | some o=>(match o.data with | .seq xs _=>xs[0]? | _=>none) | none=>none)=us[0]?
    rw [f]
    show(match o.data with | .seq xs _=>xs[0]? | _=>none)=us[0]?
    rw [F]
   rw [G]at B;exact B
 ·have h:∀ v∈vs,∃ u x as,jJ s.heap v=some u/\Reads s.heap u x as/\iU d x=true:=fun v c=>by
   obtain⟨x,xs,as,r,l⟩:=O v c
   cases r with
   | @tuple a o us n _ _ f I F H=>
    have G:jJ s.heap (.ref a)=us[0]?:=by
     show(match s.heap.get? a with | some o=>(match o.data with | .seq xs _=>xs[0]? | _=>none) | none=>none)=us[0]?
     rw [f]
     show(match o.data with | .seq xs _=>xs[0]? | _=>none)=us[0]?
     rw [F]
    generalize hl:us.toList=ul at H
    cases H with
    | @cons u vs' _ _ as' bs' r1 r2=>
     refine⟨u,x,as',?_,r1,l⟩
     rw [G,<- QA,hl];rfl
  have ty:∀ u x as,Reads s.heap u x as->iU d x=true->o8 u=(if m=true then .type "int" else .type "tuple")/\∀(R:YP->J9->Prop),R (o8 u) s->Zb (Zc prog w) A (typeOf u) R E s:=fun u x as r l=>by
   cases d with
   | int i=>
    cases x with
    | int j=>cases r;cases N;exact⟨rfl,fun R k=>Jg (T:="int") (typeIs_int s _ _) k⟩
    | _=>cases l
   | tuple ds=>
    cases x with
    | tuple xs=>
     cases r with
     | tuple f I F H=>cases N;exact⟨rfl,fun R k=>Jg (T:="tuple") ⟨_,f,I⟩ k⟩
    | _=>cases l
   | _=>cases x <;> cases l
  have all:((vs.map fun v=>jJ s.heap v).toArray.all fun x=>x.isSome)=true:=by
   rw [List.all_toArray,List.all_map,Yb];intro v c;obtain⟨u,x,as,e,_⟩:=h v c
   simp [e]
  rw [if_pos all];refine Qa (Jm (Qa ?_));rw [oneTypeOnly'_eq]
  have Z:((vs.map fun v=>jJ s.heap v).toArray.filterMap id)=(vs.filterMap fun v=>jJ s.heap v).toArray:=by
   rw [List.filterMap_toArray,List.filterMap_map];rfl
  rw [Z,List.mapM_toArray,map_eq_pure_bind]
  have y:∀ u∈vs.filterMap (fun v=>jJ s.heap v),∃ x as,Reads s.heap u x as/\iU d x=true:=fun u z=>by
   obtain⟨v,c,e⟩:=List.mem_filterMap.mp z;obtain⟨u',x,as,Q,r,l⟩:=h v c;rw [e]at Q;cases Q
   exact⟨x,as,r,l⟩
  refine Qa (Qa (Ci (g:=o8) (fun u z R k=>?_) (Qb ?_)))
  ·obtain⟨x,as,r,l⟩:=y u z
   exact(ty u x as r l).2 R k
  ·obtain⟨p,vs',rfl⟩:∃ p vs',vs=p::vs':=by
    cases vs with
    | nil=>exact absurd rfl K
    | cons a b=>exact⟨a,b,rfl⟩
   obtain⟨U,S,M,e0,W,X⟩:=h p Qk
   have Y:∀ t∈((p::vs').filterMap (fun v=>jJ s.heap v)).map o8,t=(if m=true then .type "int" else .type "tuple"):=fun t J=>by
    obtain⟨u,z,rfl⟩:=QM.mp J;obtain⟨x,as,r,l⟩:=y u z
    exact(ty u x as r l).1
   have e1:(((p::vs').filterMap (fun v=>jJ s.heap v)).map o8).toArray[0]?=some (if m=true then .type "int" else .type "tuple"):=by
    rw [J0,e0];simp only [Qp];rw [(ty U S M W X).1];rfl
   rw [e1]
   have G:((((p::vs').filterMap (fun v=>jJ s.heap v)).map o8).toArray.all fun x=>x == (if m=true then .type "int" else .type "tuple"))=true:=by
    rw [List.all_toArray,Yb];intro t J;rw [Y t J];simp
   dsimp only;rw [if_pos G];refine Qb (Qb ⟨?_,rfl⟩)
   cases m <;> rfl
end
end SD
namespace SD
open PySem.Spec PySem.SeqAt L2 DL SG
abbrev KD:=List Int × D
def kQ(d0:List D):D->Option (List Int)
 | .tuple (x::xs)=>if gU d0 (x::xs)=true then i9 (x::xs)else none
 | _=>none
def eJ(d0:List D):List D->Option (List KD)
 | []=>some []
 | d::ds=>(kQ d0 d).bind fun k=>(eJ d0 ds).bind fun r=>some ((k,d)::r)
def jZ(p:KD):List KD->List KD
 | []=>[p]
 | q::r=>if HT.lexLt q.1 p.1=true then q::jZ p r else p::q::r
def eK:List KD->List KD
 | []=>[]
 | p::r=>jZ p (eK r)
def jG:List D->Option D
 | [.list []]=>some (.list [])
 | [.list (.tuple d0::ds)]=>if ds.length<1000 then(eJ d0 (.tuple d0::ds)).bind fun l=>some (.list ((eK l).map (·.2)))else none
 | _=>none
def Le(p q:KD):Prop:=HT.lexLt q.1 p.1=false
theorem Le.trans(a:Le p q)(b:Le q r):Le p r:=by
 unfold Le at *
 cases e:HT.lexLt r.1 p.1 with
 | false=>rfl
 | true=>
  rcases Hb _ q.1 _ e with h | h
  ·rw [b]at h;cases h
  ·rw [a]at h;cases h
theorem B6(p:KD):∀ l:List KD,(jZ p l).Perm (p::l)
 | []=>.refl _
 | q::r=>by
  unfold jZ;split
  ·exact((B6 p r).cons q).trans (.swap p q r)
  ·exact .refl _
theorem lE:∀ l:List KD,(eK l).Perm l
 | []=>.refl _
 | p::r=>(B6 p (eK r)).trans ((lE r).cons p)
theorem EY(p:KD):∀ l:List KD,l.Pairwise Le->(jZ p l).Pairwise Le
 | [],_=>by simp [jZ]
 | q::r,h=>by
  obtain⟨d,f⟩:=Q1.mp h;unfold jZ;split
  ·rename_i c;refine Q1.mpr ⟨fun z a=>?_,EY p r f⟩;rcases Ql.mp ((B6 p r).mem_iff.mp a)with e | e
   ·subst e;unfold Le
    cases g:HT.lexLt z.1 q.1 with
    | false=>rfl
    | true=>have:=xK _ _ _ c g;rw [qC]at this;cases this
   ·exact d z e
  ·rename_i c
   have b:Le p q:=by simpa [Le]using c
   refine Q1.mpr ⟨fun z a=>?_,h⟩;rcases Ql.mp a with e | e
   ·rw [e];exact b
   ·exact b.trans (d z e)
theorem pO:∀ l:List KD,(eK l).Pairwise Le
 | []=>.nil
 | p::r=>EY p _ (pO r)
theorem xC:∀{a b:List KD},a.Perm b->a.Pairwise Le->b.Pairwise Le->(∀ p∈a,∀ q∈a,p.1=q.1->p=q)->a=b
 | [],b,h,_,_,_=>h.nil_eq
 | x::r,[],h,_,_,_=>absurd h.length_eq (by simp)
 | x::r,y::t,h,ha,hb,inj=>by
  have d:y∈x::r:=h.mem_iff.mpr Qk;have f:x∈y::t:=h.mem_iff.mp Qk
  have e:x=y:=by
   refine inj x Qk y d (sW _ _ ?_ ?_)
   ·rcases Ql.mp f with c | c
    ·rw [c];exact qC _
    ·exact(Q1.mp hb).1 x c
   ·rcases Ql.mp d with c | c
    ·rw [c];exact qC _
    ·exact(Q1.mp ha).1 y c
  subst e;rw [xC h.cons_inv (Q1.mp ha).2 (Q1.mp hb).2 fun p i q g=>inj p (Qf _ i) q (Qf _ g)]
theorem TQ{c i:Type}{f:c->i}{a b:List i}(h:a.Perm b):∀ l:List c,l.map f=a->∃ l':List c,l'.Perm l/\l'.map f=b:=by
 induction h with
 | nil=>intro l e;exact⟨l,.refl _,e⟩
 | cons x _ t=>
  intro l e
  cases l with
  | nil=>cases e
  | cons y l=>
   rw [Qp]at e
   injection e with e1 e2
   obtain⟨l',p,q⟩:=t l e2
   exact⟨y::l',p.cons y,by rw [Qp,e1,q]⟩
 | swap x y r=>
  intro l e
  match l,e with
  | a::b::l,e=>
   rw [Qp,Qp]at e
   injection e with e1 e2
   injection e2 with e2 e3
   exact⟨b::a::l,.swap a b l,by rw [Qp,Qp,e1,e2,e3]⟩
 | trans _ _ g d=>
  intro l e;obtain⟨s,n,k⟩:=g l e;obtain⟨o,m,j⟩:=d s k
  exact⟨o,m.trans n,j⟩
theorem Gf:∀{xs ys:List D}{a:List Int},gU xs ys=true->i9 xs=some a->i9 ys=some a->xs=ys
 | [],[],_,_,_,_=>rfl
 | [],_::_,_,l,_,_=>by cases l
 | _::_,[],_,l,_,_=>by cases l
 | x::xs,y::ys,a,l,c,b=>by
  obtain⟨a1,f,c⟩:=aE c;obtain⟨r,p,c⟩:=aE c;obtain⟨q,e,b⟩:=aE b;obtain⟨c2,o,b⟩:=aE b;obtain⟨d,k⟩:=QO.mp l;have m:=Gh d f e;have n:a1++r=q++c2:=(QB c).trans (QB b).symm;obtain⟨g1,g2⟩:=List.append_inj n m;subst g1 g2;rw [Gf k p o];congr 1
  cases x with
  | int i=>cases y with
   | int j=>cases f;cases e;rfl
   | _=>cases d
  | tuple h=>cases y with
   | tuple g=>rw [(mF (show cX h=some a1 from f)).2.2.2,(mF (show cX g=some a1 from e)).2.2.2]
   | _=>cases d
  | _=>cases y <;> cases d
theorem AV:∀{xs:List D}{a:List Int},i9 xs=some a->Zy xs=true
 | [],_,_=>rfl
 | x::xs,a,f=>by
  obtain⟨a1,b,f⟩:=aE f;obtain⟨h,g,f⟩:=aE f;have d:=AV g
  have e:Uf x=true:=by
   cases x with
   | int i=>rfl
   | tuple c=>exact(mF (show cX c=some a1 from b)).1
   | _=>cases b
  simp [Zy,e,d]
theorem nJ(h:kQ d0 d=some k):∃ x xs,d=.tuple (x::xs)/\gU d0 (x::xs)=true/\i9 (x::xs)=some k:=by
 cases d with
 | tuple b=>
  cases b with
  | nil=>cases h
  | cons x xs=>
   have a:(if gU d0 (x::xs)=true then i9 (x::xs)else none)=some k:=h;by_cases c:gU d0 (x::xs)=true
   ·rw [if_pos c]at a;exact⟨x,xs,rfl,c,a⟩
   ·rw [if_neg c]at a;cases a
 | _=>cases h
theorem mI(f:kQ d0 d=some k)(c:kQ d0 e=some k):d=e:=by
 obtain⟨x,j,rfl,b,h⟩:=nJ f;obtain⟨y,i,rfl,a,g⟩:=nJ c;rw [Gf (xM b a) h g]
theorem Bk:∀{ds:List D}{l:List KD},eJ d0 ds=some l->l.map (·.2)=ds/\∀ p∈l,kQ d0 p.2=some p.1
 | [],_,h=>by cases h;exact⟨rfl,fun p a=>nomatch a⟩
 | d::ds,_,h=>by
  obtain⟨k,g,h⟩:=aE h;obtain⟨r,f,h⟩:=aE h;cases h;obtain⟨c,b⟩:=Bk f
  refine⟨by rw [Qp,c],fun p a=>?_⟩
  rcases Ql.mp a with e | e
  ·rw [e];exact g
  ·exact b p e
abbrev Tr:=KD × V × YP
section
variable {X:Cx}{pins:List (J8 × Obj)}{σ:L2.St}{H:Hp}{s:J9}{F:J8->Prop}
theorem IO{K:PySem.W.Frag}:∀{l:List KD}{vs:List V}{us:List YP},Reps K F H (l.map (·.2)) vs->L2.Vals vs us->∃ T:List Tr,T.map (·.1)=l/\T.map (·.2.1)=vs/\T.map (·.2.2)=us/\∀ t∈T,aS K F H t.1.2 t.2.1/\L2.RelV t.2.1 t.2.2
 | [],_,_,r,v=>by cases r;cases v;exact⟨[],rfl,rfl,rfl,fun t a=>nomatch a⟩
 | p::l,_,_,r,v=>by
  cases r with
  | cons f d=>cases v with
   | cons c b=>
    obtain⟨T,j,i,h,g⟩:=IO (l:=l) d b
    refine⟨(p,_,_)::T,by rw [Qp,j],by rw [Qp,i],by rw [Qp,h],fun t a=>?_⟩
    rcases Ql.mp a with e | e
    ·rw [e];exact⟨f,c⟩
    ·exact g t e
theorem IP{K:PySem.W.Frag}:∀{T:List Tr},(∀ t∈T,aS K F H t.1.2 t.2.1/\L2.RelV t.2.1 t.2.2)->Reps K F H (T.map (·.1.2)) (T.map (·.2.1))/\L2.Vals (T.map (·.2.1)) (T.map (·.2.2))
 | [],_=>⟨.nil,.nil⟩
 | t::T,h=>by
  obtain⟨c,b⟩:=h t Qk;obtain⟨g1,g2⟩:=IP fun u a=>h u (Qf _ a)
  exact⟨.cons c g1,.cons b g2⟩
theorem v8:∀{T:List Tr}{v:YP}{k:List Int},(T.map fun t=>(t.2.2,t.1.1)).lookup v=some k->∃ t∈T,t.2.2=v/\t.1.1=k
 | [],_,_,h=>by cases h
 | t::T,v,k,h=>by
  rw [Qp,QT]at h
  cases e:v == t.2.2 with
  | true=>rw [e]at h;cases h;exact⟨t,Qk,(Yz e).symm,rfl⟩
  | false=>
   rw [e]at h;obtain⟨u,a,c,b⟩:=v8 h
   exact⟨u,Qf _ a,c,b⟩
theorem Hz:∀{T:List Tr}{t:Tr},t∈T->∃ k,(T.map fun t=>(t.2.2,t.1.1)).lookup t.2.2=some k:=by
 intro T
 induction T with
 | nil=>intro t h;cases h
 | cons u T a=>
  intro t h;rw [Qp,QT]
  cases e:t.2.2 == u.2.2 with
  | true=>exact⟨_,rfl⟩
  | false=>
   rcases Ql.mp h with z | z
   ·rw [z,beq_self_eq_true]at e;cases e
   ·exact a z
theorem Cq{d0:List D}{its:List YP}{ds:List D}{vs:List V}{l:List KD}{Q:VK}(hu:X.A.units+66<Zi)(I:L2.Inv X pins σ H s)(rv:L2.Vals vs its)(r:Reps X.K F H ds vs)(hk:eJ d0 ds=some l)(b6:ds.length<=1000)
  (k:∀ p vs',H p=none->Reps X.K F H ((eK l).map (·.2)) vs'->vs'.length<=1000->Q (.ref p) (aJ H p (.lst vs'))):Zb (Zc X.prog X.w) X.A.in1 (newList its >>= fun l=>UE [l] (call (.builtin "list.sort") [l] []) >>= fun _=>ret l) (fun fin s'=>∃ v,fin=.done (.ret v)/\EP X pins σ Q v s') X.xe s:=by
 obtain⟨em,a5⟩:=Bk hk;obtain⟨T,t1,t2,t3,t4⟩:=IO (K:=X.K) (F:=F) (H:=H) (l:=l) (by rw [em];exact r) rv;have c:∀ t∈T,kQ d0 t.1.2=some t.1.1:=fun t f=>a5 t.1 (by rw [<- t1];exact List.mem_map_of_mem f)
 have b2:its.length<=1000:=by rw [<- rv.length,<- r.length];exact b6
 have all:KeysOf (q9 (T.map fun t=>(t.2.2,t.1.1))) (Vk its):=fun p hp=>by
  rw [pairsOf_toList]at hp
  have:p.1∈its:=(List.of_mem_zip hp).1
  rw [<- t3]at this;obtain⟨t,f,e⟩:=QM.mp this;rw [<- e];exact Hz f
 have rd:∀ t∈T,∀ g:Heap,(∀ b o,s.heap.get? b=some o->g.get? b=some o)->∃ as,Reads g t.2.2 t.1.2 as:=fun t f g B=>by
  obtain⟨y,ys,y1,_,y2⟩:=nJ (c t f);obtain⟨as,z⟩:=(t4 t f).1.reads I (by rw [y1];exact AV y2) (t4 t f).2
  exact⟨as,Reads.keeps B z⟩
 have Z:∀ t∈T,∀ u∈T,t.2.2=u.2.2->t.1.1=u.1.1:=fun t f u E e=>by
  obtain⟨as,Y⟩:=rd t f s.heap fun _ _ q=>q;obtain⟨bs,z2⟩:=rd u E s.heap fun _ _ q=>q;obtain⟨x,xs,O,_,f1⟩:=nJ (c t f);rw [e]at Y;have U:t.1.2=u.1.2:=Reads.unique t.1.2 u.1.2 u.2.2 as bs (by rw [O];exact AV f1) Y z2;have N:=c t f;have M:=c u E;rw [U,M]at N
  exact(QB N).symm
 refine Qa (wpAny_newList ?_ (hsz:=?_))
 rotate_left
 ·exact gJ (by lia)
 show Zb _ _ _ _ _ { s with heap:=s.heap.push (UF "list" its.toArray 0) }
 have hL:(s.heap.push (UF "list" its.toArray 0)).get? s.heap.objs.size=some (UF "list" its.toArray 0):=Qy _ rfl
 have kp:∀ g:Heap,(∀ b o,b≠s.heap.objs.size->(s.heap.push (UF "list" its.toArray 0)).get? b=some o->g.get? b=some o)->∀ b o,s.heap.get? b=some o->g.get? b=some o:=fun g B b o e=>
  B b o (Qz (Qs e)) (Qh _ e)
 refine Qa (Q7 (Yh slot_list_sort ⟨_,hL,rfl⟩ entry_list_sort (Tc (κ:=q9 (T.map fun t=>(t.2.2,t.1.1))) (kd:=tuples' (isInt (d0.headD .none))) hL all b2 (fun g B M=>?_) (fun g B=>?_) fun G p1 p2=>⟨_,rfl,Qb ⟨_,rfl,?_⟩⟩) (args_list_sort _)))
 ·
  refine Pz (s:={ s with heap:=g }) (d:=d0.headD .none) rfl (fun v hv=>?_) (fun e=>by rw [e]at M;simp at M);rw [<- t3]at hv;obtain⟨t,f,e⟩:=QM.mp hv;obtain⟨x,xs,O,R,f1⟩:=nJ (c t f);obtain⟨as,z⟩:=rd t f g (kp g B);rw [O]at z
  refine⟨x,xs,as,by rw [<- e];exact z,?_⟩
  cases d0 with
  | nil=>cases R
  | cons y ys=>exact(QO.mp R).1
 ·
  intro x y ka kb E' Q' N M S;obtain⟨t,f,O,g1⟩:=v8 N;obtain⟨u,E,U,g2⟩:=v8 M;obtain⟨x1,b9,e3,R,f1⟩:=nJ (c t f);obtain⟨y1,b7,e4,l2,f2⟩:=nJ (c u E);obtain⟨as,Y⟩:=rd t f g (kp g B);obtain⟨bs,z2⟩:=rd u E g (kp g B);rw [e3,O]at Y;rw [e4,U]at z2;rw [g1]at f1;rw [g2]at f2
  cases Y with
  | @tuple ax ox us n _ _ q1 q2 q3 q4=>cases z2 with
   | @tuple ay oy ws m _ _ w1 w2 w3 w4=>
    have ll:us.size=ws.size:=by
     have a1:=ReadsAll.length _ _ _ q4;have a2:=ReadsAll.length _ _ _ w4
     have a3:∀(p q:List D),gU p q=true->p.length=q.length:=by
      intro p
      induction p with
      | nil=>intro q J;cases q with
       | nil=>rfl
       | cons _ _=>cases J
      | cons p0 p ih=>intro q J;cases q with
       | nil=>cases J
       | cons q0 q=>simp [ih q (QO.mp J).2]
     have a4:=a3 _ _ (xM R l2);rw [Qd]at a1 a2;lia
    have ef:decide (us.size<ws.size)=false:=by rw [ll];simp
    refine PySem.W.kat_lt (s:={ s with heap:=g }) q1 q3 w1 w3 ?_;rw [ef];refine HC (s:={ s with heap:=g }) (show X.A.in1.in1.units+64<Zi by show X.A.units+1+1+64<Zi;lia) 0 (xM R l2) f1 f2 q4 w4 (fun hb _ z r' ez=>?_) (fun e=>?_) fun _=>S
    ·cases ez
     cases d0 with
     | nil=>cases R
     | cons y0 b8=>
      have l3:=(QO.mp R).1
      cases y0 with
      | int n=>cases x1 with
       | int m=>exact⟨m,rfl⟩
       | _=>cases l3
      | _=>cases hb
    ·have e5:HT.lexLt ka kb=false:=by rw [e];exact qC _
     have:(q9 (T.map fun t=>(t.2.2,t.1.1))).blt ka kb=false:=e5
     rw [this]at S;exact S
 ·
  have pm:(((Zg G).map (·.2)).toList).Perm its:=by
   have N:=Y2.mp p1;have M:=N.map (·.2);rw [pairsOf_toList]at M;rw [Array.toList_map]
   have h3:(its.zip its).map (·.2)=its:=by
    rw [List.map_snd_zip];exact Qm _
   rw [h3]at M;exact M
  obtain⟨T',q1,q2⟩:=TQ pm.symm T t3;have h:∀ t∈T',t∈T:=fun t f=>q1.mem_iff.mp f;obtain⟨g1,g2⟩:=IP (K:=X.K) (F:=F) (H:=H) (T:=T') fun t f=>t4 t (h t f)
  have lT:T'.length=its.length:=by rw [q1.length_eq,<- t3,Qi]
  have a9:(T'.map (·.1)).Pairwise Le:=by
   rw [Yf,YK];intro i j hi hj b4
   have a8:(Zg G).size=T'.length:=by
    rw [p1.size_eq,UG,lT]
   have a0:∀ m (hm:m<T'.length),KK (q9 (T.map fun t=>(t.2.2,t.1.1))) (Zg G) m=T'[m].1.1:=fun m hm=>by
    have b3:m<(Zg G).size:=by rw [a8];exact hm
    have O:(Zg G)[m]?=some (Zg G)[m]:=getElem?_pos _ m b3;have U:(Zg G)[m]∈(Vk its).toList:=(Y2.mp p1).mem_iff.mp (by simp);rw [pairsOf_toList]at U
    have e3:(Zg G)[m].1=(Zg G)[m].2:=by
     obtain⟨n,hn,en⟩:=List.getElem_of_mem U;rw [List.getElem_zip]at en;rw [<- en]
    have e4:(Zg G)[m].2=T'[m].2.2:=by
     have:=congrArg (fun(l:List YP)=>l[m]?) q2
     simp only [QE,Array.toList_map,QA,O]at this;rw [Qe hm]at this
     exact(QB this).symm
    unfold KK;rw [O]
    show((q9 (T.map fun t=>(t.2.2,t.1.1))).keyOf (Zg G)[m].1).getD []=_
    rw [e3,e4];obtain⟨kx,a6⟩:=Hz (h T'[m] (YJ hm));obtain⟨t,f,e5,e6⟩:=v8 a6
    show((T.map fun t=>(t.2.2,t.1.1)).lookup T'[m].2.2).getD []=_
    rw [a6]
    show kx=_
    rw [<- e6];exact Z t f _ (h _ (YJ hm)) e5
   have:=p2 i j (YQ b4) (by rw [UG,<- lT];exact hj)
   rw [a0 i hi,a0 j hj]at this;exact this
  have a7:T'.map (·.1)=eK l:=by
   refine xC (((q1.map (·.1)).trans (.of_eq t1)).trans (lE l).symm) a9 (pO l) fun p hp q J e=>?_;obtain⟨t,f,rfl⟩:=QM.mp hp;obtain⟨u,E,rfl⟩:=QM.mp J;have N:=c t (h t f);have M:=c u (h u E);rw [e]at N;exact JL e (mI N M)
  have eD:(eK l).map (·.2)=T'.map (·.1.2):=by rw [<- a7,YE];rfl
  have fresh:H s.heap.objs.size=none:=I.hok.fresh (Qm _);obtain⟨ep,b5⟩:=sortedHeap_at (out:=(Zg G).map (·.2)) hL
  have b0:∀ b o,s.heap.get? b=some o->(sortedHeap (s.heap.push (UF "list" its.toArray 0)) s.heap.objs.size its ((Zg G).map (·.2))).get? b=some o:=fun b o e=>by
   have lt:=Qs e;rw [sortedHeap_old (Qz lt) (by rw [size_push'];exact Jk lt)];exact Qh _ e
  have lv:(T'.map (·.2.1)).length<=1000:=by rw [Qi,lT];lia
  refine⟨.ref s.heap.objs.size,_,I.laid (t':=s.toks) (o:=.lst (T'.map (·.2.1))) b0 (Qm _) ?_,rfl,k _ _ fresh (by rw [eD];exact g1) lv⟩
  refine⟨gJ lv,T'.map (·.2.2),ep,g2,?_⟩
  rw [b5,q2]
theorem tV(i:X.A.units+66<Zi)(I:L2.Inv X pins σ H s)(j:bV X.K H a vs)(r:Reps X.K F H ds vs)(n:eJ d0 ds=some l)(d:ds.length<=1000)
  (k:∀ p vs',H p=none->Reps X.K F H ((eK l).map (·.2)) vs'->vs'.length<=1000->Q (.ref p) (aJ H p (.lst vs'))):Zb (Zc X.prog X.w) X.A (call (.builtin "sorted") [.ref a]) (EP X pins σ Q) X.xe s:=by
 obtain⟨c,f,g,h⟩:=I.list j;refine Uk kind_sorted plain_sorted entry_sorted (args_sorted1 _) ?_;unfold Builtin.«sorted»;refine Qa (m:=checkCount "sorted" 1 1 _) (Qb (Qa (collect_list g.isList ?_ (hsz:=?_))))
 ·refine Cq i (I.kept (h':=(s.heap.push (UF "list" #[] 0)).update s.heap.objs.size (Uz (·++c.toArray))) (t':=s.toks) fun b o e=>?_) f r n d k;rw [Heap.get?_update_ne _ _ _ _ (Qz (Qs e))];exact Qh _ e
 ·rw [<- f.length];exact h
end
end SD
namespace DL
open PySem.Spec L2 SD
theorem Ex(n:X.A.units+66<Zi):cU X (.builtin "sorted") (iR X.K jG):=fun m s t H v w Q I j o=>by
 obtain⟨F,x,q,z,R,b,k⟩:=o;unfold jG at b
 split at b
 ·cases b
  cases R with
  | cons i R2=>
   cases R2
   cases i with
   | @lst a vs _ h1 r1=>
    obtain⟨u,rfl,f⟩:=g7 j;cases f;exact tV (d0:=[]) (l:=[]) n I h1.sq r1 rfl (by simp) fun p e d g _=>k _ _ _ (aI.frozen d) (aS.newLst d g)
 ·rename_i d0 h;by_cases c:h.length<1000
  ·rw [if_pos c]at b;obtain⟨l,r,b⟩:=aE b;cases b
   cases R with
   | cons i R2=>
    cases R2
    cases i with
    | @lst a vs _ h1 r1=>
     obtain⟨u,rfl,f⟩:=g7 j;cases f;exact tV (d0:=d0) n I h1.sq r1 r (by simp;lia) fun p e d g _=>k _ _ _ (aI.frozen d) (aS.newLst d g)
  ·rw [if_neg c]at b;cases b
 ·cases b
end DL
namespace ZL
open PySem.Spec L2 DL
def yO(K:PySem.W.Frag)(a b:J8):It:=
 ⟨fun i H=>∃ xs ys x y,bV K H a xs/\bV K H b ys/\xs[i]?=some x/\ys[i]?=some y,
  fun i H v c=>∃ p,H p=none/\v=.ref p/\∃ x y,c=aJ H p (.tup [x,y])/\(∀ xs,bV K H a xs->xs[i]?=some x)/\∀ ys,bV K H b ys->ys[i]?=some y,
  fun i H=>∃ xs ys,bV K H a xs/\bV K H b ys/\(xs.length<=i ∨ ys.length<=i)⟩
theorem yJ{X:Cx}{a:List (J8 × Obj)}{h:L2.St}{H d:Hp}{s:J9}{ch:List J8}{h':Heap}{tk:Nat}(I:L2.Inv X a h H s)(i:∀ b∈ch,gO X a H b)(k:∀ b o,b∉ch->s.heap.get? b=some o->h'.get? b=some o)
  (q:∀ b o,s.heap.get? b=some o->d b=H b) (g:∀ b o,H b=some o->d b=some o) (f:c4 X.prog X.w d h'):L2.Inv X a h d { s with heap:=h',toks:=tk }:=by
 refine I.step (g':=s.gens) (d':=s.drawn) (ch:=ch) (fun b p=>?_) (fun b o _ _ c e _=>k b o c e) (fun b o _ _ c e _=>⟨o.slots,k b o c e⟩) (fun b o _ e n=>by rw [q b o e];exact n)
  (fun b o c e=>⟨o,k b o c e⟩) (fun b E e=>g _ _ e) (fun b o u e=>g _ _ e) (fun b F e=>⟨#[],by rw [g _ _ e];simp⟩) (fun m l=>?_) f I.bare
 ·obtain⟨_,y,_,x,v,t⟩:=i b p
  exact⟨x,y,v,t⟩
 ·obtain⟨o,A,B,j,r⟩:=l
  exact⟨o,A,B,k _ o (fun z=>(i _ z).2.1 rfl) j,r⟩
theorem VJ{P:Zd}{w:Zf}{K:PySem.W.Frag}{Z:List Expr}{x1}{S:Pos}(a b z TI TO p n:J8)(D:ZipApart z TI TO p n a b):
  lK P w K (.Tuple Z x1 S) (yO K a b) [z,TI,TO,p,n] z (fun i h=>IsZip h z TI TO .none/\IsPair h TI (.ref p) (.ref n)/\(∃ u v,IsPair h TO u v)/\h.IsListIter p a i/\h.IsListIter n b i) where
 mem:=by simp
 obj:=fun i h t c j=>by
  obtain⟨B,A,⟨u,v,F⟩,⟨o4,e4,_,d4⟩,⟨o5,e5,_,d5⟩⟩:=t;rcases Ql.mp j with rfl | j
  ·exact⟨_,B,fun v z=>by have R:Data.fields _=Data.cell v:=z;cases R⟩
  rcases Ql.mp j with rfl | j
  ·exact⟨_,A,fun v z=>by have R:Data.seq _ _=Data.cell v:=z;cases R⟩
  rcases Ql.mp j with rfl | j
  ·exact⟨_,F,fun v z=>by have R:Data.seq _ _=Data.cell v:=z;cases R⟩
  rcases Ql.mp j with rfl | j
  ·exact⟨o4,e4,fun v z=>by rw [d4]at z;cases z⟩
  rcases Ql.mp j with rfl | j
  ·exact⟨o5,e5,fun v z=>by rw [d5]at z;cases z⟩
  cases j
 keep:=fun i h h' t k=>by
  obtain⟨B,A,⟨u,v,F⟩,Q,h5⟩:=t
  exact⟨k z (by simp) _ B,k TI (by simp) _ A,⟨u,v,k TO (by simp) _ F⟩,Q.at fun o e=>k p (by simp) o e,h5.at fun o e=>k n (by simp) o e⟩
 item:=by
  intro X hP hw hK j i T s σ H E I O t hg;subst hP hw hK;obtain⟨xs,ys,x,y,ha,hb,hx,hy⟩:=hg;obtain⟨B,A,⟨u,v,F⟩,Q,h5⟩:=t;obtain⟨a7,rv,pl,_⟩:=I.list ha;obtain⟨a0,G,J,_⟩:=I.list hb;obtain⟨xu,ex,rx⟩:=rv.get hx;obtain⟨yu,ey,ry⟩:=G.get hy;refine wpAny_pyNext_zip_item D B A F Q h5 pl.isList J.isList (x:=xu) (y:=yu) (by simpa using ex) (by simpa using ey) fun h' a1 a2 a3 a4 a5 a6 hk=>⟨_,rfl,?_⟩;refine wpAny_letOwnedTupleGo_zip (s:={ s with heap:=h' }) a1 fun h'' z1 sb=>?_;have N:∀ c o,c≠z->h'.get? c=some o->h''.get? c=some o:=fun c o l e=>sb.extBut c o l e;have hn:H s.heap.objs.size=none:=I.hok.fresh (Qm _);have g:∀ c o,s.heap.get? c=some o->c≠s.heap.objs.size:=fun c o e=>Qz (Qs e);have zT:s.heap.objs.size≠z:=(g z _ B).symm
  have U:∀ c o,c∉[z,TI,TO,p,n]->s.heap.get? c=some o->h''.get? c=some o:=fun c o l e=>
   N c o (fun q=>l (by simp [q])) (hk c o (fun q=>l (by simp [q])) (fun q=>l (by simp [q])) (fun q=>l (by simp [q])) (fun q=>l (by simp [q])) e)
  have m:∀ c o,H c=some o->c∉[z,TI,TO,p,n]:=fun c o e f=>by
   have:=(O c f).1
   rw [this]at e;cases e
  have t2:IsPair h'' TI (.ref p) (.ref n):=N _ _ D.TIz (hk _ _ D.TIz D.TITO D.TIi1 D.TIi2 A);have t3:IsPair h'' TO xu yu:=N _ _ D.TOz a2;have t4:h''.IsListIter p a (i+1):=a3.at fun o e=>N _ o D.i1z e;have t5:h''.IsListIter n b (i+1):=a4.at fun o e=>N _ o D.i2z e
  have a8:c4 X.prog X.w (aJ H s.heap.objs.size (.tup [x,y])) h'':=fun c o e=>by
   by_cases Y:c=s.heap.objs.size
   ·subst Y;rw [cO]at e;cases e
    exact⟨gJ (by simp),[xu,yu],.cons rx (.cons ry .nil),⟨_,N _ _ zT a5,rfl,0,rfl⟩⟩
   ·rw [aX Y]at e
    refine(I.hok c o e).stay (fun d v M q=>U d v ?_ q) (fun d q=>by rw [aX (iF q hn)];exact q) fun d xs q=>by rw [aX (iF q hn)];exact q
    rcases M with rfl | M
    ·exact m _ _ e
    ·exact m _ _ M
  refine⟨.ref s.heap.objs.size,_,yJ (s:=s) (h':=h'') (tk:=s.toks) I O U (fun c o e=>aX (g c o e)) (fun c o e=>by rw [aX (iF e hn)];exact e) a8,rfl,⟨_,hn,rfl,x,y,rfl,fun b0 h'=>by rw [I.list_inj h' ha];exact hx,fun a9 h'=>by rw [I.list_inj h' hb];exact hy⟩,⟨z1,t2,⟨_,_,t3⟩,t4,t5⟩,fun c f=>?_⟩
  ·have e:=(O c f).1
   have nT:c≠s.heap.objs.size:=by
    rcases Ql.mp f with rfl | f
    ·exact g _ _ B
    rcases Ql.mp f with rfl | f
    ·exact g _ _ A
    rcases Ql.mp f with rfl | f
    ·exact g _ _ F
    rcases Ql.mp f with rfl | f
    ·obtain⟨_,e',_⟩:=Q;exact g _ _ e'
    rcases Ql.mp f with rfl | f
    ·obtain⟨_,e',_⟩:=h5;exact g _ _ e'
    cases f
   rw [aX nT];exact e
 done:=by
  intro X hP hw hK j i T s σ H E I O t hg;subst hP hw hK;obtain⟨xs,ys,ha,hb,r⟩:=hg;obtain⟨B,A,⟨u,v,F⟩,Q,h5⟩:=t;obtain⟨a7,rv,pl,_⟩:=I.list ha;obtain⟨a0,G,J,_⟩:=I.list hb;have l1:=rv.length;have l2:=G.length
  refine wpAny_pyNext_zip_end (I.ok.hd j) D B A F Q h5 pl.isList J.isList (by
   rcases r with r | r
   ·left;simp;lia
   ·right;simp;lia) fun h' hk=>⟨rfl,?_⟩
  have U:∀ c o,c∉[z,TI,TO,p,n]->s.heap.get? c=some o->h'.get? c=some o:=fun c o l e=>
   hk c o (fun q=>l (by simp [q])) (fun q=>l (by simp [q])) (fun q=>l (by simp [q])) (fun q=>l (by simp [q])) e
  have m:∀ c o,H c=some o->c∉[z,TI,TO,p,n]:=fun c o e f=>by
   have:=(O c f).1
   rw [this]at e;cases e
  refine yJ (s:=s) (h':=h') (tk:=s.toks) I O U (fun _ _ _=>rfl) (fun _ _ e=>e) fun c o e=>?_
  refine(I.hok c o e).stay (fun d v M q=>U d v ?_ q) (fun d q=>q) fun d xs q=>q
  rcases M with rfl | M
  ·exact m _ _ e
  ·exact m _ _ M
 self:=fun _ _ _ _ _ t h=>wpAny_pyIter_zip t.1 h
theorem eZ{x y:Nat}(h:x≠y):@Ne J8 x y:=h
theorem Wc{n a b:Nat}(d:a<n)(c:b<n):ZipApart (n+4) (n+2) (n+3) n (n+1) a b:=
 ⟨eZ (by lia),eZ (by lia),eZ (by lia),eZ (by lia),eZ (by lia),eZ (by lia),eZ (by lia),eZ (by lia),eZ (by lia),eZ (by lia),eZ (by lia),eZ (by lia),eZ (by lia),eZ (by lia),eZ (by lia),eZ (by lia),eZ (by lia),eZ (by lia)⟩
def qZ(K:PySem.W.Frag)(f:TA):TI:=fun d H R=>f d H fun e c=>∃ a b,e=[.ref a,.ref b]/\(∃ xs,bV K c a xs)/\(∃ ys,bV K c b ys)/\R (yO K a b) c
theorem T3{X:Cx}{l:List Expr}{x1}{i:Pos}{a b:Expr}{o:TA}{p pos:Pos}(T:Gl X "zip")(Q:X.mg "zip"=none)(U:PA X [a,b] o)(hs:Za [a,b] X.env=[(false,Zr a X.env),(false,Zr b X.env)]:=by rfl)(k:Za [b] X.env=[(false,Zr b X.env)]:=by rfl):
  PI X (.Tuple l x1 i) (.Call (.Name "zip" p) [a,b] [] pos) (qZ X.K o):=by
 intro g s n H R I h;refine Call_ (kE I T Q boot_zip (YC (aW (U pos g s n H _ I h) fun us d ⟨vs,y,I1,A,E⟩=>?_) (by rw [hs,k]) (by rw [k];rfl)));obtain⟨x,w,e,⟨xs,O⟩,⟨ys,N⟩,q⟩:=E;subst e
 cases A with
 | cons r m=>
  cases m with
  | cons B m=>
   cases m;cases r;cases B;obtain⟨M,rv,t,_⟩:=I1.list O;obtain⟨J,z,j,_⟩:=I1.list N;refine call_zip_2 t.isList j.isList fun v a1 a2 Z Y W a6 S=>?_;have I2:L2.Inv X g n y { d with heap:=v }:=I1.kept (t':=d.toks) S;refine wpAny_pyIter_zip (s:={ d with heap:=v }) a1 ?_
   have G:x<d.heap.objs.size:=by obtain⟨_,e,_⟩:=t.isList;exact Qs e
   have F:w<d.heap.objs.size:=by obtain⟨_,e,_⟩:=j.isList;exact Qs e
   refine⟨_,[d.heap.objs.size+4,d.heap.objs.size+2,d.heap.objs.size+3,d.heap.objs.size,d.heap.objs.size+1],_,_,y,rfl,I2,VJ x w (d.heap.objs.size+4) (d.heap.objs.size+2) (d.heap.objs.size+3) d.heap.objs.size (d.heap.objs.size+1) (Wc G F),⟨a1,a2,⟨_,_,Z⟩,Y,W⟩,fun c f=>?_,q⟩
   have u:d.heap.objs.size<=c:=by
    rcases Ql.mp f with rfl | f
    ·exact QV _ _
    rcases Ql.mp f with rfl | f
    ·exact QV _ _
    rcases Ql.mp f with rfl | f
    ·exact QV _ _
    rcases Ql.mp f with rfl | f
    ·exact Qm _
    rcases Ql.mp f with rfl | f
    ·exact QV _ _
    cases f
   exact I1.fpOk u (I1.hok.fresh u)
end ZL
namespace DL
open PySem.Spec L2 ZL
def CJ:List D->Option (List D)
 | [.list xs,.list ys]=>some (List.zipWith (fun x y=>.tuple [x,y]) xs ys)
 | _=>none
theorem Rl{K:PySem.W.Frag}{F:J8->Prop}{H:Hp}{a b:J8}{vs us:List V}{ds es:List D}(E:kI K F H a vs)(r:Reps K F H ds vs)(B:kI K F H b us)(q:Reps K F H es us):oD K F H (List.zipWith (fun x y=>.tuple [x,y]) ds es) (yO K a b):=fun I O T z i=>by
 have g1:=E.stay T;have g2:=B.stay T;have h:=r.stay T;have g:=q.stay T
 refine⟨fun d c=>?_,fun A=>⟨vs,us,g1.sq,g2.sq,?_⟩⟩
 ·rw [List.getElem?_zipWith]at c
  cases e:ds[i]? with
  | none=>rw [e]at c;cases c
  | some x=>
   cases f:es[i]? with
   | none=>rw [e,f]at c;cases c
   | some y=>
    rw [e,f]at c;cases c;obtain⟨v,n,G⟩:=h.get e;obtain⟨u,m,R2⟩:=g.get f
    refine⟨⟨vs,us,v,u,g1.sq,g2.sq,n,m⟩,fun w N o=>?_⟩
    obtain⟨p,l,rfl,M,J,rfl,t,s⟩:=o;have k:=t vs g1.sq;have j:=s us g2.sq;rw [n]at k;cases k;rw [m]at j;cases j
    exact⟨I,aI.fresh l,aS.newTup l (.cons G (.cons R2 .nil))⟩
 ·rw [List.length_zipWith]at A;rw [<- h.length,<- g.length];lia
theorem OF{x1}(h:Gl X "zip")(g:X.mg "zip"=none)(i:DA X [a,b] gr)(hs:Za [a,b] X.env=[(false,Zr a X.env),(false,Zr b X.env)]:=by rfl)(e:Za [b] X.env=[(false,Zr b X.env)]:=by rfl):
  DI X (.Tuple elts x1 tpos) (.Call (.Name "zip" p) [a,b] [] pos) (fun ρ=>(gr ρ).bind CJ):=
 BL (T3 h g i hs e) fun s H R f=>by
  obtain⟨F,c,ρ,v,S,q,k⟩:=f;obtain⟨t,j,q⟩:=aE q;unfold CJ at q
  split at q
  ·cases q
   refine⟨F,c,ρ,_,S,j,fun n m u o l=>?_⟩
   cases l with
   | cons r d=>
    cases r with
    | @lst a' vs' _ h1 r1=>
     cases d with
     | cons r d=>
      cases r with
      | @lst b' us' _ h2 r2=>
       cases d
       exact⟨a',b',rfl,⟨_,h1.sq⟩,⟨_,h2.sq⟩,k n m _ o (Rl h1 r1 h2 r2)⟩
  ·cases q
end DL
namespace DL
open PySem.Spec PySem.SeqAt L2 CL SD ZL
def cutD(xs:List D)(a b:Option Int):List D:=(xs.drop (HT.sIx xs.length 0 a)).take (HT.sIx xs.length xs.length b-HT.sIx xs.length 0 a)
def Nj(K:PySem.W.Frag)(g:aA->Option (Option Int)):TO:=fun a H Q=>mV K a H g fun F o=>∀ F' H',aI F F' H H'->Q o H'
def DO(X:Cx)(e:Option Expr)(g:aA->Option (Option Int)):Prop:=PO X e (Nj X.K g)
def oW:aA->Option (Option Int):=fun _=>some none
def oE(g:aA->Option D):aA->Option (Option Int):=fun a=>(g a).bind fun d=>(Dq d).bind fun i=>some (some i)
section
variable {X:Cx}{a b e:Expr}{ga:aA->Option D}{pos p p2:Pos}{lo hi:Option Expr}{gl gh:aA->Option (Option Int)}
theorem Ic(h:PO X o t)(m:∀ σ H Q,t' σ H Q->t σ H Q):PO X o t':=fun a s σ H Q I q=>h a s σ H Q I (m σ H Q q)
theorem AK:DO X none oW:=Ic T6 fun c H Q b=>by
 obtain⟨F,a,d,o,S,q,k⟩:=b;cases q;exact k F H (aI.refl F H)
theorem AL(h:DE X e ga):DO X (some e) (oE ga):=Ic (T7 h) fun p H Q c=>by
 obtain⟨F,a,b,o,S,q,k⟩:=c;obtain⟨d,g,q⟩:=aE q;obtain⟨i,f,q⟩:=aE q;cases q
 exact⟨F,a,b,d,S,g,fun m l v n j=>⟨i,To j f,k m l n⟩⟩
theorem Reps.cut{K:PySem.W.Frag}{F:J8->Prop}{H:Hp}{ds:List D}{vs:List V}(r:Reps K F H ds vs)(a b:Option Int):Reps K F H (cutD ds a b) (lM vs a b):=by
 unfold cutD lM;rw [r.length]
 exact(r.drop _).take _
def Aj:D->String
 | .none=>"NoneType"
 | .bool _=>"bool"
 | .int _=>"int"
 | .str _=>"str"
 | .list _=>"list"
 | .tuple _=>"tuple"
 | .dict _=>"dict"
def uI(T:String)(d:D):Bool:=Aj d == T || (T == "int" && Aj d == "bool")
def B8:D->Bool
 | .dict _=>true
 | _=>false
def uG(T:String)(ga:aA->Option D):aA->Option D:=fun a=>(ga a).bind fun d=>if B8 d=true then none else some (.bool (uI T d))
theorem PB(K:PySem.W.Frag)(T:String)(a:T="list" ∨ T="tuple" ∨ T="int" ∨ T="bool" ∨ T="str" ∨ T="dict")(d:D):PySem.W.kitOne K (.type (Aj d)) (.type T)=some (uI T d):=by
 rcases a with rfl | rfl | rfl | rfl | rfl | rfl <;> cases d <;> (first | rfl | (unfold PySem.W.kitOne;with_unfolding_all rfl) | decide +kernel)
theorem N9(v:T="list" ∨ T="tuple" ∨ T="int" ∨ T="bool" ∨ T="str" ∨ T="dict"):cU X (.builtin "isinstance") (fun xs H Q=>∃(F:J8->Prop) (d:D) (x:V),aS X.K F H d x/\B8 d=false/\xs=[x,.ty T]/\Q (.bl (uI T d)) H):=by
 intro f s l H xs w Q I p h;obtain⟨F,d,x,R,k,rfl,q⟩:=h;obtain⟨u,m,rfl,c,r⟩:=Cz p
 cases(show m=ZK T from r)
 have ok:=PB X.K T v d;have fin:∀ g,EP X f l Q (.bool (uI T d)) { s with toks:=g }:=fun g=>⟨.bl _,H,I.tok g,rfl,q⟩
 cases R with
 | non=>cases(show u=Zz from c);exact PySem.W.kia_one PySem.W.kitx_none I.kIn Ud ok (fun z=>nomatch z) fin
 | dct _ _ _ _ _=>cases k
 | exn _ _ _=>cases k
 | bl b=>cases(show u=Z3 b from c);exact PySem.W.kia_one PySem.W.kitx_bool I.kIn Ud ok (fun z=>nomatch z) fin
 | int i=>obtain⟨t,e⟩:=(show ∃ t,u=U7 i t from c);cases e;exact PySem.W.kia_one PySem.W.kitx_int I.kIn Ud ok (fun z=>nomatch z) fin
 | str y=>obtain⟨t,e⟩:=(show ∃ t,u=Value.str y t from c);cases e;exact PySem.W.kia_one PySem.W.kitx_str I.kIn Ud ok (fun z=>nomatch z) fin
 | @tup a vs ds h1 r1=>
  cases(show u=Ze a from c)
  obtain⟨j,_,⟨o,g1,g2,_⟩,_⟩:=I.tuple h1;exact PySem.W.kia_one PySem.W.kitx_tuple I.kIn ⟨o,g1,g2⟩ ok (fun z=>nomatch z) fin
 | @lst a vs ds h1 r1=>
  cases(show u=Ze a from c)
  obtain⟨j,_,⟨o,n,g1,g2,_⟩,_⟩:=I.list h1.sq;exact PySem.W.kia_one PySem.W.kitx_list I.kIn ⟨o,g1,g2⟩ ok (fun z=>nomatch z) fin
theorem N5:ZD "isinstance"=some (.builtin "isinstance"):=by decide +kernel
theorem AD(t:T="list" ∨ T="tuple" ∨ T="int" ∨ T="bool" ∨ T="str" ∨ T="dict")(r:Gl X "isinstance")(o:X.mg "isinstance"=none)(h:Gl X Tn)(g:X.mg Tn=none)(b:ZD Tn=some (.type T))(n:Tn≠"__name__")(s:DE X e ga)
  (hs:Za [e,.Name Tn p'] X.env=(false,Zr e X.env)::Za [.Name Tn p'] X.env:=by rfl) (f:Za [.Name Tn p'] X.env=(false,Zr (.Name Tn p') X.env)::Za [] X.env:=by rfl) (i:(Tn == ("__debug__":Str))=false:=by decide)
  (hpl:(Zw pos (Za [.Name Tn p'] X.env)).any (·.1)=false:=by rfl):DE X (.Call (.Name "isinstance" p) [e,.Name Tn p'] [] pos) (uG T ga):=
 cR (BH (N9 t) r o N5 (gY s (gY (R6 (v:=.ty T) h g b rfl n i) iV f) hs) (he:=hs) (hpl:=hpl)) fun A H Q m=>by
  obtain⟨F,a,l,d,S,q,k⟩:=m;obtain⟨x,u,q⟩:=aE q;by_cases c:B8 x=true
  ·rw [if_pos c]at q;cases q
  ·rw [if_neg c]at q;cases q
   exact⟨F,a,l,x,S,u,fun j y v z w=>⟨j,x,v,w,by simpa using c,rfl,k j y _ z (.bl _)⟩⟩
end
def EF(a:Ul)(oN N':List Str)(scope:Ul)(inner:List (Option Nat)):Bool:=
 scope.kind == .function && scope.names.all (fun x=>x.2 != .cell) && scope.names.all (fun x=>x.2 != .local || scope.names.lookup x.1 == some .local) &&
 scope.names.all (fun x=>x.2 != .free || (scope.names.lookup x.1 == some .free && (a.names.lookup x.1 == some .cell || a.names.lookup x.1 == some .free))) && inner.length == N'.length &&
 (List.range inner.length).all fun i=>match inner[i]? with
  | some (some j)=>match N'[i]? with
   | some x=>oN[j]? == some x && scope.names.lookup x == some .free
   | none=>false
  | _=>true
theorem kC(a:Ul)(oN:List Str)(k:X.env.scope=a)(g:X.N=oN)(h:EF a oN N' scope inner=true):pD X N' scope inner:=by
 unfold EF at h;simp only [QL]at h;obtain⟨⟨⟨⟨⟨a1,q⟩,p⟩,o⟩,n⟩,m⟩:=h
 refine⟨Yz a1,fun x b e=>?_,fun x b e=>?_,fun x b e=>?_,Yz n,fun i j e=>?_⟩
 ·have:=Yb.mp q x b
  rw [e]at this;cases this
 ·have:=Yb.mp p x b
  rw [e]at this;rcases Bool.or_eq_true_iff.mp this with z | z
  ·cases z
  ·exact Yz z
 ·have:=Yb.mp o x b
  rw [e]at this;rcases Bool.or_eq_true_iff.mp this with z | z
  ·cases z
  ·obtain⟨d,c⟩:=QO.mp z
   refine⟨Yz d,?_⟩
   rw [k];rcases Bool.or_eq_true_iff.mp c with z | z
   ·exact .inl (Yz z)
   ·exact .inr (Yz z)
 ·have f:i<inner.length:=(Qc.mp e).1
  have:=Yb.mp m i (QY.mpr f)
  rw [e]at this;dsimp only at this
  split at this
  ·rename_i x l;obtain⟨d,c⟩:=QO.mp this
   exact⟨x,l,by rw [g];exact Yz d,Yz c⟩
  ·cases this
theorem dQ(r:cA k A):A.units+64<Zi:=by have:=r.un;lia
theorem gQ(r:cA k A):A.units+65<Zi:=by have:=r.un;lia
theorem lV(r:cA k A):A.units+66<Zi:=by have:=r.un;lia
def xD(K:PySem.W.Frag)(G:List D->Option D):Sp:=fun b H Q E=>∃(a:J8) (ns:List Int),b=[.ref a]/\bV K H a (ns.map V.int)/\ns.length<=63/\∀ H',Q (.bl true) H'
theorem p9{K:PySem.W.Frag}{F:J8->Prop}{H:Hp}:∀ ns:List Int,Reps K F H (ns.map Zh) (ns.map V.int)
 | []=>.nil
 | n::ns=>.cons (.int n) (p9 ns)
theorem LC{P:Zd}{w:Zf}{K:PySem.W.Frag}{d:Str->Option YP}{base:Heap}{CX:g9}{k:Nat}{f:J8}{g:Zp}{ps:List Str}{G:List D->Option D}(F:aM P w K d base CX k f g ps (aY K 1 G))
  (h:∀ ns:List Int,ns.length<=63->G [.list (ns.map Zh)]=some (.bool true)):aM P w K d base CX k f g ps (xD K G):=
 F.imp fun n H Q E i=>by
  obtain⟨a,ns,e,c,j,q⟩:=i;subst e
  refine⟨fun b=>H b≠none,[.list (ns.map Zh)],.bool true,rfl,fun _ z=>z,.cons ?_ .nil,h ns j,fun p m v r l=>?_⟩
  ·rcases c with c | c
   ·refine .lst (.inl ⟨?_,c⟩) (p9 ns)
    rcases c with c | ⟨o,c⟩ <;> (rw [c];simp)
   ·exact .lst (.inr (.inr c)) (p9 ns)
  ·cases l;exact q m
theorem dE{P:Zd}{w:Zf}{K:PySem.W.Frag}{c:Str->Option YP}{base:Heap}{x a:Str}{b:ZE}{f:J8}{d:Zp}{N ps:List Str}{k n m:Nat}{g:aA->Option bD}{G:List D->Option D}(j:G=cQ m g)(e:ps.length=n)(h:N.length=m)(F:eP K x a b f d)(S:bQ N ps (aV b))
  (i:∀(cdv:YP) (A:Around) (outer:List Env) (s:J9) (H:Hp) (E:XK),cA k (A.deeper (U2 a (aV b) s.heap.objs.size f cdv))->
   jR (jV aO P w K c base N a (aV b) f cdv A outer s H E).nox (c8 b) g):aM P w K c base aO (k+1) f d ps (aY K n G):=by
 subst e h j;exact Lj F S i
end DL
namespace ST
open PySem.SetTable
def fI(M i:Nat):Nat:=(i * 5+1) % (M+1)
def jD(M:Nat):Nat->Nat->Nat
 | 0,i=>i
 | n+1,i=>jD M n (fI M i)
theorem sU(M:Nat):∀ a b i,jD M (a+b) i=jD M b (jD M a i)
 | 0,b,i=>by rw [Q3];rfl
 | a+1,b,i=>by rw [Nat.succ_add];exact sU M a b (fI M i)
def zH(M:Nat):Nat->Nat->List Nat
 | 0,_=>[]
 | n+1,i=>i::zH M n (fI M i)
theorem GK(M:Nat):∀(n i j:Nat),j∈zH M n i->∃ k,k<n/\jD M k i=j
 | 0,i,j,h=>nomatch h
 | n+1,i,j,h=>by
  rcases Ql.mp h with h | h
  ·exact⟨0,Nat.succ_pos n,h.symm⟩
  ·obtain⟨k,b,a⟩:=GK M n _ j h
   exact⟨k+1,Nat.succ_lt_succ b,a⟩
def kW(M:Nat):Bool:=(jD M (M+1) 0 == 0) && (List.range (M+1)).all fun j=>(zH M (M+1) 0).contains j
theorem KU:kW 7=true:=by decide +kernel
theorem KS:kW 31=true:=by decide +kernel
theorem Pg:kW 127=true:=by decide +kernel
theorem KR:kW 15=true:=by decide +kernel
theorem KT:kW 63=true:=by decide +kernel
theorem Ph:kW 255=true:=by decide +kernel
theorem Pi:kW 511=true:=by decide +kernel
def Good(M:Nat):Prop:=M=7 ∨ M=31 ∨ M=127 ∨ M=15 ∨ M=63 ∨ M=255 ∨ M=511
theorem Good.cyc(g:Good M):kW M=true:=by
 rcases g with rfl | rfl | rfl | rfl | rfl | rfl | rfl
 ·exact KU
 ·exact KS
 ·exact Pg
 ·exact KR
 ·exact KT
 ·exact Ph
 ·exact Pi
theorem KQ(g:Good M):jD M (M+1) 0=0/\∀ j,j<=M->∃ k,k<=M/\jD M k 0=j:=by
 have h:=g.cyc;unfold kW at h;rw [QL,beq_iff_eq,Yb]at h
 refine⟨h.1,fun j b=>?_⟩
 have:=h.2 j (QY.mpr (by lia))
 obtain⟨k,c,a⟩:=GK M (M+1) 0 j (YA.mp this)
 exact⟨k,by lia,a⟩
theorem cyc(g:Good M)(b:i<=M)(a:j<=M):∃ k,k<=M/\jD M k i=j:=by
 obtain⟨z,c⟩:=KQ g;obtain⟨m,e,rfl⟩:=c i b;obtain⟨n,d,rfl⟩:=c j a;by_cases q:m<=n
 ·refine⟨n-m,by lia,?_⟩
  rw [<- sU];congr 1;lia
 ·refine⟨n+(M+1)-m,by lia,?_⟩
  rw [<- sU,show m+(n+(M+1)-m)=(M+1)+n by lia,sU,z]
def hJ(M:Nat)(p:Probe):Probe:=
 if p.more > 0 then{ p with j:=p.j+1,more:=p.more-1 } else
 { p with j:=(leap M p.i p.perturb).1,more:=ZZ M (leap M p.i p.perturb).1-(leap M p.i p.perturb).1,i:=(leap M p.i p.perturb).1,perturb:=(leap M p.i p.perturb).2 }
def run(M:Nat)(l:Nat × Nat):Probe:={ j:=l.1,more:=ZZ M l.1-l.1,i:=l.1,perturb:=l.2,dummy:=none }
def L(M:Nat)(h:Int):Nat->Nat × Nat
 | 0=>(bits h % (M+1),bits h)
 | k+1=>leap M (L M h k).1 (L M h k).2
def P(M:Nat)(h:Int):Nat->Probe
 | 0=>run M (L M h 0)
 | n+1=>hJ M (P M h n)
theorem t8(M:Nat)(h:Int):∀ k,(L M h k).1<=M
 | 0=>JU (Nat.mod_lt _ (Nat.succ_pos _))
 | k+1=>JU (Nat.mod_lt _ (Nat.succ_pos _))
theorem wU(h:i<=M):i<=ZZ M i/\ZZ M i<=M/\ZZ M i-i<=9:=by
 unfold ZZ
 split <;> lia
theorem yY(M:Nat)(h:Int):∀ n,(P M h n).j+(P M h n).more<=M/\(P M h n).dummy=none
 | 0=>by
  have:=wU (t8 M h 0)
  show(L M h 0).1+(ZZ M (L M h 0).1-(L M h 0).1)<=M/\none=none
  exact⟨by lia,rfl⟩
 | n+1=>by
  obtain⟨b,a⟩:=yY M h n
  show(hJ M (P M h n)).j+(hJ M (P M h n)).more<=M/\(hJ M (P M h n)).dummy=none
  unfold hJ;split
  ·exact⟨by show(P M h n).j+1+((P M h n).more-1)<=M;lia,a⟩
  ·refine⟨?_,a⟩
   have:(leap M (P M h n).i (P M h n).perturb).1<=M:=JU (Nat.mod_lt _ (Nat.succ_pos _))
   have:=wU this
   show(leap M (P M h n).i (P M h n).perturb).1+(ZZ M (leap M (P M h n).i (P M h n).perturb).1-(leap M (P M h n).i (P M h n).perturb).1)<=M
   lia
theorem yX(M:Nat)(h:Int)(n:Nat):(P M h n).j<=M:=by have:=(yY M h n).1;lia
theorem A5(e:P M h n=run M (L M h k)):∀ d,d<=ZZ M (L M h k).1-(L M h k).1->
  P M h (n+d)={ j:=(L M h k).1+d,more:=ZZ M (L M h k).1-(L M h k).1-d,i:=(L M h k).1,perturb:=(L M h k).2,dummy:=none }
 | 0,_=>e
 | d+1,hd=>by
  show hJ M (P M h (n+d))=_
  rw [A5 e d (by lia)];unfold hJ;rw [if_pos (show ZZ M (L M h k).1-(L M h k).1-d > 0 by lia)];rfl
theorem Ef(e:P M h n=run M (L M h k)):P M h (n+(ZZ M (L M h k).1-(L M h k).1)+1)=run M (L M h (k+1)):=by
 show hJ M (P M h (n+(ZZ M (L M h k).1-(L M h k).1)))=_
 rw [A5 e _ (Qm _)];unfold hJ;rw [if_neg (show ¬ ZZ M (L M h k).1-(L M h k).1-(ZZ M (L M h k).1-(L M h k).1) > 0 by lia)];rfl
theorem De(M:Nat)(h:Int):∀ k,∃ n,n<=10 * k/\P M h n=run M (L M h k)
 | 0=>⟨0,Qm _,rfl⟩
 | k+1=>by
  obtain⟨n,a,e⟩:=De M h k
  have:=wU (t8 M h k)
  exact⟨_,by lia,Ef e⟩
theorem EH(M:Nat)(h:Int):∀ k,(L M h k).2=bits h / 32 ^ k
 | 0=>by show bits h=_;rw [Nat.pow_zero,Nat.div_one]
 | k+1=>by
  show(L M h k).2 / 32=_
  rw [EH M h k,Nat.div_div_eq_div_mul,<- Nat.pow_succ]
theorem N3(h:Int):bits h<36893488147419103232:=by
 unfold bits
 have:h % (2 ^ 64:Int)<2 ^ 64:=JJ _ (by decide)
 have a:(2 ^ 64:Int)=18446744073709551616:=by decide
 rw [a]at this ⊢;lia
theorem CP(M:Nat)(h:Int):∀ k,(L M h (13+k)).2=0/\(L M h (13+k)).1=jD M k (L M h 13).1
 | 0=>by
  refine⟨?_,rfl⟩
  rw [EH];exact Nat.div_eq_of_lt (N3 h)
 | k+1=>by
  obtain⟨b,a⟩:=CP M h k
  show(L M h (13+k)).2 / 32=0/\((L M h (13+k)).1 * 5+1+(L M h (13+k)).2 / 32) % (M+1)=jD M (k+1) (L M h 13).1
  rw [b,a,sU]
  exact⟨rfl,rfl⟩
theorem D3(g:Good M)(h:Int)(a:j<=M):∃ k,k<Ve M/\(L M h k).1=j:=by
 obtain⟨k,b,e⟩:=cyc g (t8 M h 13) a
 exact⟨13+k,by unfold Ve;lia,by rw [(CP M h k).2,e]⟩
theorem KM(g:Good M)(h:Int)(a:j<=M):∃ n,n<10 * Ve M/\(P M h n).j=j:=by
 obtain⟨k,c,e⟩:=D3 g h a;obtain⟨n,b,q⟩:=De M h k
 exact⟨n,by lia,by rw [q,<- e];rfl⟩
abbrev Up(l:List Nat):Prop:=l.Pairwise (· < ·)
theorem Up.at{l:List Nat}(s:Up l){i k x y:Nat}(b:l[i]?=some x)(a:l[k]?=some y)(h:i<k):x<y:=by
 obtain⟨d,rfl⟩:=Qc.mp b;obtain⟨c,rfl⟩:=Qc.mp a;exact YK.mp s i k d c h
theorem Up.le{l:List Nat}(s:Up l){i k x y:Nat}(b:l[i]?=some x)(a:l[k]?=some y)(h:i<=k):x<=y:=by
 by_cases e:i=k
 ·subst e;rw [b]at a;cases a;exact Qm _
 ·exact YQ (s.at b a (by lia))
theorem Up.nodup(s:Up l):l.Nodup:=s.imp fun h=>Qz h
theorem Ax(xs:Array Nat)(s:Up xs.toList)(j:Nat):∀ fuel lo hi,lo<=hi->hi<=xs.size->hi-lo<=fuel->
  (∀ i x,xs.toList[i]?=some x->i<lo->x<j)->(∀ i x,xs.toList[i]?=some x->hi<=i->j<=x)->
  below.go xs j fuel lo hi<=xs.size/\(∀ i x,xs.toList[i]?=some x->i<below.go xs j fuel lo hi->x<j)/\(∀ i x,xs.toList[i]?=some x->below.go xs j fuel lo hi<=i->j<=x)
 | 0,lo,hi,h1,h2,h3,a,b=>by
  have e:lo=hi:=by lia
  subst e
  exact⟨h2,a,b⟩
 | fuel+1,lo,hi,h1,h2,h3,a,b=>by
  unfold below.go;by_cases c:lo<hi
  ·rw [if_pos c];dsimp only
   have k:(lo+hi) / 2<xs.size:=by lia
   have h:xs.toList[(lo+hi) / 2]?=some (xs.getD ((lo+hi) / 2) j):=by
    rw [QA,Qx k]
    simp [Array.getD,k]
   by_cases d:xs.getD ((lo+hi) / 2) j<j
   ·rw [if_pos d];exact Ax xs s j fuel _ _ (by lia) h2 (by lia) (fun i x g f=>YU (s.le g h (by lia)) d) b
   ·rw [if_neg d];exact Ax xs s j fuel _ _ (by lia) (by lia) (by lia) a (fun i x g f=>QJ (by lia) (s.le h g f))
  ·rw [if_neg c]
   have e:lo=hi:=by lia
   subst e
   exact⟨h2,a,b⟩
theorem pW(xs:Array Nat)(s:Up xs.toList)(j:Nat):ZC xs j<=xs.size/\(∀ i x,xs.toList[i]?=some x->i<ZC xs j->x<j)/\(∀ i x,xs.toList[i]?=some x->ZC xs j<=i->j<=x):=
 Ax xs s j _ _ _ (Q8 _) (Qm _) (by lia) (fun i x _ h=>absurd h (Yy _)) fun i x a h=>by
  obtain⟨q,_⟩:=Qc.mp a;rw [Qd]at q;lia
structure TOk(t:SetTable)(hs:List Int):Prop where
 good:Good t.mask
 dum:t.dummies=#[]
 len:t.place.toList.length=hs.length
 up:Up t.place.toList
 le:∀ x∈t.place.toList,x<=t.mask
 room:t.place.toList.length * 5<t.mask * 3
 reach:∀ q∈t.place.toList.zip hs,∃ n,(P t.mask q.2 n).j=q.1/\∀ m,m<n->(P t.mask q.2 m).j∈t.place.toList
theorem slot_spec{t:SetTable}(h:t.dummies=#[])(s:Up t.place.toList)(j:Nat):(∃ i,t.slot j=.live i/\t.place.toList[i]?=some j) ∨ (t.slot j=.empty/\j∉t.place.toList):=by
 obtain⟨n,m,l⟩:=pW t.place s j;unfold slot;dsimp only;by_cases c:(t.place[ZC t.place j]? == some j)=true
 ·rw [if_pos c];exact .inl ⟨_,rfl,by rw [QA];exact Yz c⟩
 ·rw [if_neg c,h];refine .inr ⟨rfl,fun g=>c ?_⟩;obtain⟨i,d⟩:=QQ g
  have e:i=ZC t.place j:=by
   by_cases a:i<ZC t.place j
   ·have:=m i j d a;lia
   ·by_cases b:i=ZC t.place j
    ·exact b
    ·have k:ZC t.place j<t.place.toList.length:=by
      obtain⟨q,_⟩:=Qc.mp d;lia
     have f:=Qe k
     have:=s.at f d (by lia)
     have:=l _ _ f (Qm _)
     lia
  rw [<- e,<- QA,d];simp
theorem slot_live{t:SetTable}(b:t.dummies=#[])(s:Up t.place.toList){j i:Nat}(h:t.slot j=.live i):t.place.toList[i]?=some j:=by
 rcases slot_spec b s j with⟨d,a,c⟩ | ⟨a,_⟩
 ·rw [h]at a;cases a;exact c
 ·rw [h]at a;cases a
theorem LD{p:Nat->Prop}[DecidablePred p]:∀ n,p n->∃ m,m<=n/\p m/\∀ k,k<m->¬ p k:=by
 intro n
 induction n using Nat.strongRecOn with
 | ind n d=>
  intro h;by_cases c:∃ k,k<n/\p k
  ·obtain⟨k,b,a⟩:=c;obtain⟨m,g,f,e⟩:=d k b a
   exact⟨m,by lia,f,e⟩
  ·exact⟨n,Qm _,h,fun k b a=>c ⟨k,b,a⟩⟩
theorem M8{M:Nat}{l:List Nat}(h:l.length<=M):∃ j,j<=M/\j∉l:=by
 refine YL fun c=>?_
 have:List.range (M+1) ⊆ l:=fun j b=>YL fun a=>c ⟨j,by have:=QY.mp b;lia,a⟩
 have:=Yu List.nodup_range this
 rw [Yj]at this;lia
theorem free_at{M:Nat}{l:List Nat}(g:Good M)(h:l.length<=M)(x:Int):∃ n,n<10 * Ve M/\(P M x n).j∉l/\∀ m,m<n->(P M x m).j∈l:=by
 obtain⟨j,e,c⟩:=M8 h;obtain⟨n,o,f⟩:=KM g x e;obtain⟨m,i,b,a⟩:=LD (p:=fun n=>(P M x n).j∉l) n (by rw [f];exact c)
 exact⟨m,by lia,b,fun k d=>YL (a k d)⟩
section
variable {t:SetTable}{hs:List Int}{hashAt:Nat->Int}{h:Int}{n:Nat}
theorem go_probe(T:TOk t hs)(u:(P t.mask h n).j∉t.place.toList)(s:∀ m,m<n->(P t.mask h m).j∈t.place.toList):∀ fuel c,c<=n->n-c<fuel->
  (UY t hashAt h fuel (P t.mask h c)=some (.empty (P t.mask h n).j none)/\∀ m,c<=m->m<n->∀ i,t.slot (P t.mask h m).j=.live i->hashAt i≠h)
  ∨ ∃ m i,c<=m/\m<n/\t.slot (P t.mask h m).j=.live i/\hashAt i=h/\(∀ m',c<=m'->m'<m->∀ i,t.slot (P t.mask h m').j=.live i->hashAt i≠h)/\UY t hashAt h fuel (P t.mask h c)=some (.candidate (P t.mask h m).j i (P t.mask h (m+1)))
 | 0,c,_,hf=>absurd hf (Yy _)
 | fuel+1,c,hc,hf=>by
  unfold UY;by_cases e:c=n
  ·subst e;rcases slot_spec T.dum T.up (P t.mask h c).j with⟨i,f,l⟩ | ⟨f,_⟩
   ·exact absurd (QN l) u
   ·rw [f];refine .inl ⟨?_,fun m a b=>by lia⟩
    show some (Met.empty (P t.mask h c).j (P t.mask h c).dummy)=_
    rw [(yY t.mask h c).2]
  ·rcases slot_spec T.dum T.up (P t.mask h c).j with⟨i,f,l⟩ | ⟨_,l⟩
   ·rw [f];dsimp only;by_cases k:(hashAt i == h)=true
    ·rw [if_pos k];exact .inr ⟨c,i,Qm _,by lia,f,Yz k,fun m' a b=>by lia,rfl⟩
    ·rw [if_neg k];have r:hashAt i≠h:=fun e=>k (by rw [e];simp);rcases go_probe T u s fuel (c+1) (by lia) (by lia)with⟨a,b⟩ | ⟨m,i',a1,a2,a3,a4,a5,a6⟩
     ·refine .inl ⟨a,fun m p g o d=>?_⟩;by_cases q:m=c
      ·subst q;rw [f]at d;cases d;exact r
      ·exact b m (by lia) g o d
     ·refine .inr ⟨m,i',by lia,a2,a3,a4,fun m' p g o d=>?_,a6⟩;by_cases q:m'=c
      ·subst q;rw [f]at d;cases d;exact r
      ·exact a5 m' (by lia) g o d
   ·exact absurd (s c (by lia)) l
theorem met(T:TOk t hs)(k:(P t.mask h n).j∉t.place.toList){i j:Nat}(b:t.place.toList[i]?=some j)(g:hs[i]?=some h):∃ m,m<n/\(P t.mask h m).j=j:=by
 have f:(j,h)∈t.place.toList.zip hs:=QN (i:=i) (by rw [YM];exact⟨b,g⟩);obtain⟨m,e,a⟩:=T.reach _ f
 refine⟨m,YL fun c=>k ?_,e⟩
 by_cases d:n=m
 ·subst d;rw [e];exact QN b
 ·exact a n (by lia)
end
theorem insertAt_list{a:Type}(xs:Array a)(p:Nat)(x:a):(Zn xs p x).toList=xs.toList.take p++x::xs.toList.drop p:=by
 rw [SetTable.toList_insertAt]
theorem put_ok(T:TOk t hs)(B:(P t.mask h n).j∉t.place.toList)(A:∀ m,m<n->(P t.mask h m).j∈t.place.toList)
  (G:(t.place.toList.length+1) * 5<t.mask * 3) (pl:Bool):
  TOk { (t.put (P t.mask h n).j).1 with plain:=pl } (hs.take (t.put (P t.mask h n).j).2++h::hs.drop (t.put (P t.mask h n).j).2):=by
 obtain⟨b1,F,E⟩:=pW t.place T.up (P t.mask h n).j
 have c:∀ x,x∈(Zn t.place (ZC t.place (P t.mask h n).j) (P t.mask h n).j).toList ↔ x=(P t.mask h n).j ∨ x∈t.place.toList:=by
  intro x;rw [insertAt_list,QC,Ql]
  conv=>rhs;rw [<- QU (ZC t.place (P t.mask h n).j) t.place.toList,QC]
  constructor
  ·rintro(a | a | a)
   ·exact .inr (.inl a)
   ·exact .inl a
   ·exact .inr (.inr a)
  ·rintro(a | a | a)
   ·exact .inr (.inl a)
   ·exact .inl a
   ·exact .inr (.inr a)
 refine⟨T.good,?_,?_,?_,?_,?_,?_⟩
 ·show(if has t.dummies _=true then _ else t.dummies)=#[]
  rw [T.dum];rfl
 ·show(Zn t.place (ZC t.place (P t.mask h n).j) (P t.mask h n).j).toList.length=(hs.take (ZC t.place (P t.mask h n).j)++h::hs.drop (ZC t.place (P t.mask h n).j)).length
  rw [insertAt_list];simp only [Qo,QS,Qv,Yg];rw [T.len]
 ·show Up (Zn t.place (ZC t.place (P t.mask h n).j) (P t.mask h n).j).toList
  rw [insertAt_list];unfold Up;rw [Q9]
  have o:∀ x∈t.place.toList.take (ZC t.place (P t.mask h n).j),x<(P t.mask h n).j:=fun x f=>by
   obtain⟨i,d⟩:=QQ f;rw [JK]at d
   split at d
   ·rename_i q;exact F i x d q
   ·cases d
  have p:∀ x∈t.place.toList.drop (ZC t.place (P t.mask h n).j),(P t.mask h n).j<x:=fun x f=>by
   obtain⟨i,d⟩:=QQ f;rw [List.getElem?_drop]at d
   have:=E _ x d (by lia)
   have w:x≠(P t.mask h n).j:=fun e=>B (e ▸ QN d);lia
  refine⟨T.up.sublist (List.take_sublist _ _),Q1.mpr ⟨p,T.up.sublist (List.drop_sublist _ _)⟩,fun a s b r=>?_⟩
  rcases Ql.mp r with rfl | r
  ·exact o a s
  ·exact U6 (o a s) (p b r)
 ·intro x f
  rcases(c x).mp f with rfl | f
  ·exact yX _ _ _
  ·exact T.le x f
 ·show(Zn t.place (ZC t.place (P t.mask h n).j) (P t.mask h n).j).toList.length * 5<t.mask * 3
  rw [insertAt_list];simp only [Qo,QS,Qv,Yg];lia
 ·intro q v
  have u:(Zn t.place (ZC t.place (P t.mask h n).j) (P t.mask h n).j).toList.zip (hs.take (ZC t.place (P t.mask h n).j)++h::hs.drop (ZC t.place (P t.mask h n).j))=(t.place.toList.take (ZC t.place (P t.mask h n).j)).zip (hs.take (ZC t.place (P t.mask h n).j))++((P t.mask h n).j,h)::(t.place.toList.drop (ZC t.place (P t.mask h n).j)).zip (hs.drop (ZC t.place (P t.mask h n).j)):=by
   rw [insertAt_list,List.zip_append (by rw [QS,QS,T.len]),JI]
  have g:q=((P t.mask h n).j,h) ∨ q∈t.place.toList.zip hs:=by
   have l:q∈(Zn t.place (ZC t.place (P t.mask h n).j) (P t.mask h n).j).toList.zip (hs.take (ZC t.place (P t.mask h n).j)++h::hs.drop (ZC t.place (P t.mask h n).j)):=v;rw [u,QC,Ql]at l
   conv=>rhs;rw [<- QU (ZC t.place (P t.mask h n).j) t.place.toList,<- QU (ZC t.place (P t.mask h n).j) hs,List.zip_append (by rw [QS,QS,T.len]),QC]
   rcases l with a | a | a
   ·exact .inr (.inl a)
   ·exact .inl a
   ·exact .inr (.inr a)
  rcases g with rfl | g
  ·exact⟨n,rfl,fun m y=>(c _).mpr (.inr (A m y))⟩
  ·obtain⟨m,e,a⟩:=T.reach q g
   exact⟨m,e,fun k z=>(c _).mpr (.inr (a k z))⟩
structure dM(M:Nat)(hs:List Int)(ow:Array (Option Nat)):Prop where
 size:ow.size=M+1
 lt:∀ j i:Nat,ow[j]?=some (some i)->i<hs.length
 all:∀ i,i<hs.length->∃ j:Nat,ow[j]?=some (some i)
 inj:∀ j j' i:Nat,ow[j]?=some (some i)->ow[j']?=some (some i)->j=j'
 reach:∀(j i:Nat) (h:Int),ow[j]?=some (some i)->hs[i]?=some h->∃ n,(P M h n).j=j/\∀ m,m<n->∃ i',ow[(P M h m).j]?=some (some i')
theorem dM.free(W:dM M hs ow)(h:hs.length<=M):∃ j:Nat,j<=M/\ow[j]?=some none:=by
 refine YL fun c=>?_
 have m:∀ j,j<=M->∃ i,ow[j]?=some (some i):=fun j f=>by
  have d:j<ow.size:=by rw [W.size];lia
  cases e:ow[j]with
  | none=>exact absurd ⟨j,f,by rw [Qx d,e]⟩ c
  | some i=>exact⟨i,by rw [Qx d,e]⟩
 have e:∀ j,j<=M->ow[j]?=some (some ((ow.getD j none).getD 0)):=fun j f=>by
  obtain⟨i,g⟩:=m j f
  have d:j<ow.size:=by rw [W.size];lia
  rw [g];rw [Qx d]at g
  have:ow.getD j none=some i:=by simp [Array.getD,d];exact QB g
  rw [this];rfl
 have k:(List.range (M+1)).map (fun j=>(ow.getD j none).getD 0) ⊆ List.range hs.length:=fun i g=>by
  obtain⟨j,f,rfl⟩:=QM.mp g;exact QY.mpr (W.lt j _ (e j (by have:=QY.mp f;lia)))
 have n:((List.range (M+1)).map (fun j=>(ow.getD j none).getD 0)).Nodup:=by
  unfold List.Nodup;rw [Yf];refine List.Pairwise.imp_of_mem ?_ List.nodup_range;intro a b q p l o;refine l (W.inj a b _ (e a (by have:=QY.mp q;lia)) ?_);rw [o];exact e b (by have:=QY.mp p;lia)
 have:=Yu n k
 rw [Qi,Yj,Yj]at this;lia
theorem Fh(hsz:ow.size=M+1):∀ fuel k n,P M h n=run M (L M h k)->(∀ m,m<n->∃ i,ow[(P M h m).j]?=some (some i))->
  (∃ kk,k<=kk/\kk<k+fuel/\ow[(L M h kk).1]?=some none)->
  ∃ n',layClean.free M ow fuel (L M h k).1 (L M h k).2=some (P M h n').j/\ow[(P M h n').j]?=some none/\∀ m,m<n'->∃ i,ow[(P M h m).j]?=some (some i)
 | 0,k,n,e,a,⟨kk,h1,h2,_⟩=>by lia
 | fuel+1,k,n,e,a,⟨kk,h1,h2,h3⟩=>by
  have y:=wU (t8 M h k)
  have b:∀ d,d<=ZZ M (L M h k).1-(L M h k).1->ow[(L M h k).1+d]?=some (ow.getD ((L M h k).1+d) (some 0)):=fun d l=>by
   have r:(L M h k).1+d<ow.size:=by lia
   rw [Qx r]
   simp [Array.getD,r]
  have o:∀ d,d<=ZZ M (L M h k).1-(L M h k).1->(P M h (n+d)).j=(L M h k).1+d:=fun d l=>by rw [A5 e d l]
  unfold layClean.free
  cases q:(List.range (ZZ M (L M h k).1+1-(L M h k).1)).find? fun d=>(ow.getD ((L M h k).1+d) (some 0)).isNone with
  | some d=>
   rw [List.find?_range_eq_some]at q;obtain⟨v,u,t⟩:=q
   have l:d<=ZZ M (L M h k).1-(L M h k).1:=by have:=QY.mp u;lia
   refine⟨n+d,?_,?_,fun m w=>?_⟩
   ·rw [o d l]
   ·rw [o d l,b d l,Option.isNone_iff_eq_none.mp v]
   ·by_cases c:m<n
    ·exact a m c
    ·have:=t (m-n) (by lia)
     have f:m-n<=ZZ M (L M h k).1-(L M h k).1:=by lia
     have h5:=o (m-n) f;rw [show n+(m-n)=m by lia]at h5;rw [h5,b (m-n) f]
     cases p:ow.getD ((L M h k).1+(m-n)) (some 0)with
     | none=>rw [p]at this;simp at this
     | some i=>exact⟨i,rfl⟩
  | none=>
   rw [List.find?_eq_none]at q
   have g:∀ d,d<=ZZ M (L M h k).1-(L M h k).1->∃ i,ow[(L M h k).1+d]?=some (some i):=fun d l=>by
    have:=q d (QY.mpr (by lia))
    rw [b d l]
    cases p:ow.getD ((L M h k).1+d) (some 0)with
    | none=>rw [p]at this;simp at this
    | some i=>exact⟨i,rfl⟩
   have z:kk≠k:=fun x=>by
    subst x;obtain⟨i,s⟩:=g 0 (Q8 _);rw [JY,h3]at s;cases s
   refine Fh hsz fuel (k+1) _ (Ef e) (fun m w=>?_) ⟨kk,by lia,by lia,h3⟩;by_cases c:m<n
   ·exact a m c
   ·have f:m-n<=ZZ M (L M h k).1-(L M h k).1:=by lia
    have h5:=o (m-n) f;rw [show n+(m-n)=m by lia]at h5;rw [h5];exact g (m-n) f
theorem dM.put(W:dM M hs ow)(q:ow[(P M h n).j]?=some none)(v:∀ m,m<n->∃ i,ow[(P M h m).j]?=some (some i)):
  dM M (hs++[h]) (ow.setIfInBounds (P M h n).j (some hs.length)):=by
 have t:(P M h n).j<ow.size:=by rw [W.size];have:=yX M h n;lia
 have f:∀ j,(ow.setIfInBounds (P M h n).j (some hs.length))[j]?=if(P M h n).j=j then some (some hs.length)else ow[j]?:=fun j=>by
  rw [Array.getElem?_setIfInBounds];split
  ·first | rfl | rw [if_pos t]
  ·rfl
 have g:∀ j:Nat,(∃ i,ow[j]?=some (some i))->∃ i,(ow.setIfInBounds (P M h n).j (some hs.length))[j]?=some (some i):=fun j r=>by
  obtain⟨i,o⟩:=r;rw [f];split
  ·exact⟨_,rfl⟩
  ·exact⟨i,o⟩
 refine⟨by simpa using W.size,fun j i b=>?_,fun i o=>?_,fun j p i b d=>?_,fun j i x b l=>?_⟩
 ·rw [Qo,Yk];rw [f]at b
  split at b
  ·cases b;lia
  ·have:=W.lt j i b;lia
 ·rw [Qo,Yk]at o;by_cases c:i<hs.length
  ·obtain⟨j,b⟩:=W.all i c
   refine⟨j,?_⟩
   rw [f,if_neg (fun e=>by rw [e,b]at q;cases q)];exact b
  ·refine⟨(P M h n).j,?_⟩
   rw [f,if_pos rfl,show i=hs.length by lia]
 ·rw [f]at b d
  split at b
  ·rename_i e;cases b
   split at d
   ·rename_i w;rw [<- e,<- w]
   ·have:=W.lt p _ d;lia
  ·split at d
   ·cases d
    have:=W.lt j _ b;lia
   ·exact W.inj j p i b d
 ·rw [f]at b
  split at b
  ·rename_i e;cases b;rw [QI (Qm _),Nat.sub_self]at l;cases l
   exact⟨n,e,fun m s=>g _ (v m s)⟩
  ·rw [QR (W.lt j i b)]at l;obtain⟨m,e,a⟩:=W.reach j i x b l
   exact⟨m,e,fun k u=>g _ (a k u)⟩
def zB(M:Nat)(acc:Option (Array (Option Nat) × Nat))(h:Int):Option (Array (Option Nat) × Nat):=do
 let(owner,k) <- acc
 let j <- layClean.free M owner (Ve M) (bits h % (M+1)) (bits h)
 pure (owner.setIfInBounds j (some k),k+1)
theorem Fd(g:Good M):∀(rest done:List Int) (ow:Array (Option Nat)),dM M done ow->(done++rest).length<=M->∃ ow',rest.foldl (zB M) (some (ow,done.length))=some (ow',(done++rest).length)/\dM M (done++rest) ow'
 | [],done,ow,W,_=>⟨ow,by rw [QP];rfl,by rw [QP];exact W⟩
 | h::rest,done,ow,W,hl=>by
  rw [Qo,Qv]at hl;obtain⟨j,l,o⟩:=W.free (by lia);obtain⟨i,q,e⟩:=D3 g h l;obtain⟨n,f,d,c⟩:=Fh (h:=h) W.size (Ve M) 0 0 rfl (fun m k=>absurd k (Yy _)) ⟨i,Q8 _,by lia,by rw [e];exact o⟩;have p:=W.put d c;obtain⟨ow',b,a⟩:=Fd g rest (done++[h]) _ p (by simp;lia)
  refine⟨ow',?_,by rw [<- List.append_cons]at a;exact a⟩
  rw [YR]
  have:zB M (some (ow,done.length)) h=some (ow.setIfInBounds (P M h n).j (some done.length),(done++[h]).length):=by
   show(layClean.free M ow (Ve M) (L M h 0).1 (L M h 0).2).bind _=_
   rw [f,Qo];rfl
  rw [this,b,<- List.append_cons]
theorem Mp(M:Nat):dM M [] (Array.replicate (M+1) none):=by
 have:∀(j:Nat) (i:Nat),(Array.replicate (M+1) (none:Option Nat))[j]?=some (some i)->False:=fun j i h=>by
  rw [Array.getElem?_replicate]at h
  split at h <;> simp at h
 exact⟨by simp,fun j i h=>(this j i h).elim,fun i a=>absurd a (Yy _),fun j b i h=>(this j i h).elim,fun j i _ h=>(this j i h).elim⟩
theorem PN(g:Good M)(hs:Array Int)(a:hs.size<=M):∃ ow,layClean M hs=some ow/\dM M hs.toList ow:=by
 obtain⟨ow,c,b⟩:=Fd g hs.toList [] _ (Mp M) (by simpa using a)
 refine⟨ow,?_,b⟩
 unfold layClean;rw [<- Array.foldl_toList]
 show(hs.toList.foldl (zB M) (some (Array.replicate (M+1) none,0))).map (·.1)=_
 rw [show(0:Nat)=([]:List Int).length from rfl,c];rfl
def fR(M:Nat)(a:Array (Option Nat)):List (Nat × Nat):=(List.range (M+1)).filterMap fun j=>(a.getD j none).map (j,·)
theorem n3(W:dM M hs ow)(q:Nat × Nat):q∈fR M ow ↔ q.1<=M/\ow[q.1]?=some (some q.2):=by
 unfold fR;rw [List.mem_filterMap];constructor
 ·rintro⟨j,c,e⟩
  have a:j<ow.size:=by rw [W.size];exact QY.mp c
  cases b:ow.getD j none with
  | none=>rw [b]at e;cases e
  | some i=>
   rw [b]at e;cases e
   refine⟨by have:=QY.mp c;show j<=M;lia,?_⟩
   show ow[j]?=some (some i)
   rw [Qx a]
   simp [Array.getD,a]at b
   rw [b]
 ·rintro⟨f,d⟩
  have a:q.1<ow.size:=by rw [W.size];lia
  refine⟨q.1,QY.mpr (by lia),?_⟩
  rw [Qx a]at d
  have:ow.getD q.1 none=some q.2:=by simp [Array.getD,a];exact QB d
  rw [this];rfl
theorem Hg(M:Nat)(e:Array (Option Nat)):(fR M e).Pairwise fun p q=>p.1<q.1:=by
 unfold fR;rw [List.pairwise_filterMap];refine List.Pairwise.imp ?_ List.pairwise_lt_range;intro a b f x d y c
 cases h:e.getD a none with
 | none=>rw [h]at d;cases d
 | some i=>
  cases g:e.getD b none with
  | none=>rw [g]at c;cases c
  | some k=>
   rw [h]at d;rw [g]at c
   cases d;cases c
   exact f
theorem G3(z w:Nat)(le pl:Bool)(g:Good M)(B:hs.size * 5<M * 3):
  ∃ t' order,laid M z w le pl hs=some (t',order)/\List.Perm order.toList (List.range hs.size)/\TOk t' (order.toList.map fun i=>hs.toList.getD i 0)/\t'.led=le/\t'.plain=pl:=by
 obtain⟨d,F,W⟩:=PN g hs (by lia)
 have f:List.Perm ((fR M d).map (·.2)) (List.range hs.size):=by
  rw [Js ?_ List.nodup_range]
  ·intro i;rw [QM,QY];constructor
   ·rintro⟨q,h,rfl⟩
    have:=W.lt _ _ ((n3 W q).mp h).2
    simpa using this
   ·intro v;obtain⟨j,y⟩:=W.all i (by simpa using v);have u:j<d.size:=(Array.getElem?_eq_some_iff.mp y).1
    exact⟨(j,i),(n3 W (j,i)).mpr ⟨by rw [W.size]at u;show j<=M;lia,y⟩,rfl⟩
  ·unfold List.Nodup;rw [Yf];refine List.Pairwise.imp_of_mem ?_ (Hg M d);intro p q t h l E;have a:=((n3 W p).mp t).2;have b:=((n3 W q).mp h).2;rw [E]at a
   have:=W.inj _ _ _ a b
   lia
 have o:(fR M d).length=hs.size:=by
  have:=f.length_eq
  rwa [Qi,Yj]at this
 refine⟨{ mask:=M,place:=((fR M d).map (·.1)).toArray,dummies:=#[],finger:=z,led:=le,moves:=w,plain:=pl },((fR M d).map (·.2)).toArray,?_,f,?_,rfl,rfl⟩
 ·unfold laid;rw [F];rfl
 ·refine⟨g,rfl,?_,?_,?_,?_,?_⟩
  ·show((fR M d).map (·.1)).length=(((fR M d).map (·.2)).map fun i=>hs.toList.getD i 0).length
   simp
  ·show Up ((fR M d).map (·.1))
   unfold Up;rw [Yf];exact Hg M d
  ·intro x s;have r:x∈(fR M d).map (·.1):=s;obtain⟨q,h,rfl⟩:=QM.mp r
   exact((n3 W q).mp h).1
  ·show((fR M d).map (·.1)).length * 5<M * 3
   rw [Qi,o];exact B
  ·intro q h;have k:q∈((fR M d).map (·.1)).zip (((fR M d).map (·.2)).map fun i=>hs.toList.getD i 0):=h;rw [YE,List.zip_map']at k;obtain⟨p,t,rfl⟩:=QM.mp k;obtain⟨a,b⟩:=(n3 W p).mp t;have l:=W.lt _ _ b
   have s:hs.toList[p.2]?=some (hs.toList.getD p.2 0):=by
    rw [YF,Qe l];rfl
   obtain⟨n,e,c⟩:=W.reach _ _ _ b s
   refine⟨n,e,fun m A=>?_⟩
   obtain⟨i,v⟩:=c m A
   show(P M (hs.toList.getD p.2 0) m).j∈(fR M d).map (·.1)
   exact QM.mpr ⟨((P M (hs.toList.getD p.2 0) m).j,i),(n3 W _).mpr ⟨yX _ _ _,v⟩,rfl⟩
theorem relaid_ok{t:SetTable}{hs:Array Int}{a M:Nat}(c:Zo a-1=M)(g:Good M)(b:hs.size * 5<M * 3):
  ∃ t' order,t.relaid hs a=some (t',order)/\List.Perm order.toList (List.range hs.size)/\TOk t' (order.toList.map fun i=>hs.toList.getD i 0)/\t'.led=t.led/\t'.plain=t.plain:=by
 unfold relaid;rw [c];exact G3 _ _ _ _ g b
section
variable {prog:Zd}{w:Zf}{A:Around}{E:YP->J9->Prop}{s:J9}
abbrev TK(prog:Zd)(w:Zf)(h:Heap)(k:List Int)(a:J8):Prop:=IsTupleKey (Vh prog w) h k a
abbrev TH(prog:Zd)(w:Zf)(k:List Int):Int:=tupleKeyHash (Vh prog w) k
theorem items_int(h:ItemsAre (Vh prog w) ks vs):∀ v∈vs,∃ i t,v=.int i t:=by
 induction h with
 | nil=>intro v a;simp at a
 | @cons k v' ks vs h1 _ ih=>
  intro v a;rcases Ql.mp a with rfl | a
  ·obtain⟨t,e⟩:=UD h1
   exact⟨k,t,e⟩
  ·exact ih v a
theorem no_classN(n:Nat)(l:TK prog w s.heap k a)(h:Q false s):Zb (Zc prog w) A (Ub (n+2) (.ref a)) Q E s:=by
 have y:=l.typeIs;obtain⟨o,f,n,p,_,x,q⟩:=l;have m:=items_int q;unfold Ub;refine Qa (Jg y ?_)
 show Zb _ _ (do let b <- (if("tuple" == "tuple")=true then pure true else isSubtype (.type "tuple") (.type "tuple"));_) Q E s
 refine Qa ?_;rw [if_pos (by decide)];refine Qb ?_;simp only [Q0,Qg,if_false];refine Qa (Ji p x ?_);dsimp only;refine Qa ?_;rw [<- YG];refine Yo _ (fun c r e=>r.1=none/\e=s/\∀ v∈c,∃ i t,v=U7 i t) _ ?_ ?_ _ _ ⟨rfl,rfl,m⟩
 ·rintro v c r e ⟨j,rfl,d⟩;obtain⟨i,t,rfl⟩:=d v Qk;refine Qa ?_;unfold Ub;refine Qb ?_;simp only [Qg,if_false];exact Qb ⟨rfl,rfl,fun u g=>d u (Qf _ g)⟩
 ·rintro⟨B,z⟩ e ⟨j,rfl,_⟩
  simp only at j
  subst j;exact Qb h
theorem by_valueN(n:Nat)(j:TK prog w s.heap k a)(h:Q true s):Zb (Zc prog w) A (Vl (n+2) (.ref a)) Q E s:=by
 have x:=j.typeIs;obtain⟨o,d,n,m,_,q,p⟩:=j;have l:=items_int p;unfold Vl;refine Qa (Jv x F.slot_tuple_hash.lookup ?_);dsimp only;refine Qa (Ji m q ?_);refine Qa ?_
 show Zb _ _ (forIn d _ _) _ _ s
 rw [<- YG];refine Yo _ (fun b r e=>r.1=none/\e=s/\∀ v∈b,∃ i t,v=U7 i t) _ ?_ ?_ _ _ ⟨rfl,rfl,l⟩
 ·rintro v b r e ⟨g,rfl,c⟩;obtain⟨i,t,rfl⟩:=c v Qk;refine Qa ?_;unfold Vl;refine Qb ?_;simp only [Q0,Qg,if_false];exact Qb ⟨rfl,rfl,fun u f=>c u (Qf _ f)⟩
 ·rintro⟨z,y⟩ e ⟨g,rfl,_⟩
  simp only at g
  subst g;exact Qb h
theorem xY{k:List Int}{a:J8}{d:List YP}{Q:Bool->J9->Prop}(m:TK prog w s.heap k a)(hs:∀ y∈d,∃ k' b,y=.ref b/\TK prog w s.heap k' b)(h:Q false s):
  Zb (Zc prog w) A (UI (.ref a) d) Q E s:=by
 unfold UI;refine Qa ?_;refine Yo _ (fun e r i=>r.1=none/\i=s/\∀ y∈e,∃ k' b,y=.ref b/\TK prog w s.heap k' b) _ ?_ ?_ _ _ ⟨rfl,rfl,hs⟩
 ·rintro v e r i ⟨l,rfl,g⟩;have f:∀ y∈e,∃ k' b,y=.ref b/\TK prog w i.heap k' b:=fun u j=>g u (Qf _ j);obtain⟨k',b,rfl,n⟩:=g v Qk;dsimp only;by_cases c:(a == b)=true
  ·rw [c];simp only [Bool.true_or,if_true];exact Qb ⟨rfl,rfl,f⟩
  ·rw [if_neg (by simp [carriedByValue,c])];refine Qa (wpAny_eqIsQuiet_tuple m ?_);simp only [Q0,Qg,if_false];refine Qa (wpAny_eqIsQuiet_tuple n ?_);simp only [Q0,Qg,if_false];refine Qa (no_classN 6 m ?_);simp only [Qg,if_false];refine Qa (no_classN 6 n ?_);simp only [Qg,if_false];exact Qb ⟨rfl,rfl,f⟩
 ·rintro⟨p,o⟩ i ⟨l,rfl,_⟩
  simp only at l
  subst l;exact Qb h
inductive Ents(prog:Zd)(w:Zf)(h:Heap):List (Int × YP)->List (List Int)->Prop
 | nil:Ents prog w h [] []
 | cons {k:List Int}{b:J8}{es:List (Int × YP)}{ks:List (List Int)}:TK prog w h k b->Ents prog w h es ks->Ents prog w h ((TH prog w k,.ref b)::es) (k::ks)
theorem Ents.at(X:Ents prog w h es ks):∀{i:Nat}{e:Int × YP},es[i]?=some e->∃ k b,ks[i]?=some k/\e=(TH prog w k,.ref b)/\TK prog w h k b:=by
 induction X with
 | nil=>intro i e h;simp at h
 | @cons k b es ks h1 _ ih=>
  intro i e h
  cases i with
  | zero=>cases h;exact⟨k,b,rfl,rfl,h1⟩
  | succ i=>exact ih (i:=i) (by simpa using h)
theorem Ents.length(X:Ents prog w h es ks):es.length=ks.length:=by
 induction X with
 | nil=>rfl
 | cons _ _ a=>simp [a]
theorem Ents.append(X:Ents prog w h es ks)(Y:Ents prog w h es' ks'):Ents prog w h (es++es') (ks++ks'):=by
 induction X with
 | nil=>exact Y
 | cons b _ a=>exact .cons b a
theorem Ents.take(X:Ents prog w h es ks):∀ n,Ents prog w h (es.take n) (ks.take n):=by
 induction X with
 | nil=>intro n;simpa using Ents.nil
 | cons b _ a=>
  intro n
  cases n with
  | zero=>exact .nil
  | succ n=>exact .cons b (a n)
theorem Ents.drop(X:Ents prog w h es ks):∀ n,Ents prog w h (es.drop n) (ks.drop n):=by
 induction X with
 | nil=>intro n;simpa using Ents.nil
 | @cons k b es ks h1 hr ih=>
  intro n
  cases n with
  | zero=>exact .cons h1 hr
  | succ n=>exact ih n
theorem Ents.mono(X:Ents prog w h es ks)(m:∀ k b,TK prog w h k b->TK prog w h' k b):Ents prog w h' es ks:=by
 induction X with
 | nil=>exact .nil
 | cons c _ a=>exact .cons (m _ _ c) a
theorem Ents.pick(X:Ents prog w h es ks):∀(l:List Nat),(∀ i∈l,i<es.length)->Ents prog w h (l.filterMap (es[·]?)) (l.filterMap (ks[·]?)):=by
 intro l
 induction l with
 | nil=>intro _;exact .nil
 | cons i l d=>
  intro a;have c:=a i Qk;obtain⟨k,b,m,g,f⟩:=X.at (Qe c);rw [Jh (b:=(TH prog w k,Ze b)) (by rw [Qe c,g]),Jh (b:=k) m];exact .cons f (d fun j e=>a j (Qf _ e))
theorem TOk.fits(T:TOk t hs)(e:hs.length=n):t.fits n=true:=by
 have a:=T.len;have b:=T.room;rw [Qd]at a b;unfold Z9 Us;rw [T.dum,a,e];rw [a]at b;simp only [QL,beq_iff_eq,decide_eq_true_eq]
 refine⟨?_,?_⟩
 ·trivial
 ·show n+0<=t.mask
  lia
theorem TOk.odd(T:TOk t hs):t.gaveWay=false:=by
 unfold SetTable.gaveWay
 rcases T.good with h | h | h | h | h | h | h <;> rw [h] <;> rfl
theorem tQ
  (hu:A.units<Zi) (U:s.heap.get? a=some o) (hd:o.data=.set es ep t) (T:TOk t (es.toList.map (·.1))) (X:Ents prog w s.heap es.toList ks) (Z:TK prog w s.heap k x)
  (h1:(P t.mask (TH prog w k) n).j∉t.place.toList) (h2:∀ m,m<n->(P t.mask (TH prog w k) m).j∈t.place.toList)
  (q1:k∈ks->Q (.there none) s) (q2:k∉ks->Q (.free (P t.mask (TH prog w k) n).j false) s):
  ∀ fuel c,c<=n->n<10 * Ve t.mask->n-c<fuel->(∀ m,m<c->∀ i,t.slot (P t.mask (TH prog w k) m).j=.live i->ks[i]?≠some k)->∀ stand:Option Probe,stand.getD (t.probeStart (TH prog w k))=P t.mask (TH prog w k) c->
  Zb (Zc prog w) A (Ut a (.ref x) (TH prog w k) true fuel stand) Q E s
 | 0,c,_,_,hf,_,_,_=>absurd hf (Yy _)
 | fuel+1,c,hc,hN,hf,inv,stand,hst=>by
  have r:t.fits es.size=true:=T.fits (by simp);unfold Ut;refine Qa (QK U hd r ?_);dsimp only;rw [hst,if_neg (by rw [T.odd];exact Qr)];refine Qa (Qb ?_);generalize N:t.probe _ (TH prog w k) (P t.mask (TH prog w k) c)=met;obtain⟨f,a4,N⟩:∃ f:Nat->Int,(∀ i,f i=(es[i]?.map (·.1)).getD 0)/\t.probe f (TH prog w k) (P t.mask (TH prog w k) c)=met:=⟨_,fun _=>rfl,N⟩
  have H:∀ m i,t.slot (P t.mask (TH prog w k) m).j=.live i->f i≠TH prog w k->ks[i]?≠some k:=fun m i F W Y=>by
   have S:=slot_live T.dum T.up F
   have q:i<es.toList.length:=by
    have:=(Qc.mp S).1
    rw [T.len]at this
    simpa using this
   obtain⟨B,b,u,M,e3⟩:=X.at (Qe q);rw [Y]at u;cases u;apply W;rw [a4,<- QA,Qe q,M];rfl
  have a3:=go_probe (hashAt:=f) T h1 h2 (10 * Ve t.mask) c hc (by lia);rcases a3 with⟨g1,g2⟩ | ⟨m,i,g1,g2,g3,g4,g5,g6⟩
  ·have:met=some (.empty (P t.mask (TH prog w k) n).j none):=N.symm.trans g1
   subst this;dsimp only;refine Qb (q2 fun J=>?_);obtain⟨i,F⟩:=QQ J
   have q:i<es.toList.length:=by rw [X.length];exact(Qc.mp F).1
   obtain⟨B,b,u,M,e3⟩:=X.at (Qe q);rw [F]at u;cases u
   have I:i<t.place.toList.length:=by rw [T.len];simpa using q
   obtain⟨m,hm,hj⟩:=met T h1 (Qe I) (h:=TH prog w k) (by rw [QE,Qe q,M];rfl);obtain⟨p,z,d⟩ | ⟨_,d⟩:=slot_spec T.dum T.up (P t.mask (TH prog w k) m).j
   ·have a0:p=i:=by
     rw [hj]at d;have a1:=Qe I;by_cases R:p<i
     ·have:=T.up.at d a1 R;lia
     ·by_cases O:i<p
      ·have:=T.up.at a1 d O;lia
      ·lia
    subst a0;by_cases cm:m<c
    ·exact inv m cm p z F
    ·exact H m p z (g2 m (by lia) hm p z) F
   ·rw [hj]at d;exact d (YJ _)
  ·have:met=some (.candidate (P t.mask (TH prog w k) m).j i (P t.mask (TH prog w k) (m+1))):=N.symm.trans g6
   subst this;have S:=slot_live T.dum T.up g3
   have q:i<es.toList.length:=by
    have:=(Qc.mp S).1
    rw [T.len]at this
    simpa using this
   obtain⟨B,b,u,M,e3⟩:=X.at (Qe q)
   have K:es[i]?=some (TH prog w B,.ref b):=by rw [<- QA,Qe q,M]
   dsimp only
   have v:∀ y∈(es.filter (fun x=>x.1 == TH prog w k)).toList.map (fun x=>x.2),∃ B b,y=.ref b/\TK prog w s.heap B b:=fun y hy=>by
    obtain⟨e,he,rfl⟩:=QM.mp hy
    have a5:e∈es.toList:=by
     rw [Array.toList_filter]at he
     exact(Ym.mp he).1
    obtain⟨i2,a2⟩:=QQ a5;obtain⟨k2,b2,_,z2,z3⟩:=X.at a2
    exact⟨k2,b2,by rw [z2],z3⟩
   split
   all_goals try (refine Qa (xY Z v ?_);rw [if_neg Qr])
   all_goals
    rw [K];dsimp only;refine Qa (Q7 (wpAny_eqBool_tuple hu e3 Z ?_));refine Qa (QK U hd r ?_);dsimp only;by_cases g:B=k
    ·rw [if_pos (by simp [g])];exact Qb (q1 (g ▸ QN u))
    ·rw [if_neg (by simp [g]),show t.sameMemory t.moves t.mask=some true by unfold sameMemory;simp];dsimp only;rw [if_pos rfl,g3];dsimp only;rw [K];dsimp only;refine Qa (UM ?_);simp only [if_true];refine Qa (Qb ?_);dsimp only;rw [if_neg (by simp [g])];refine tQ hu U hd T X Z h1 h2 q1 q2 fuel (m+1) (by lia) hN (by lia) (fun G a6 p l=>?_) _ rfl;by_cases R:G<c
     ·exact inv G R p l
     ·by_cases O:G=m
      ·subst O;rw [g3]at l;cases l;rw [u];exact fun e=>g (QB e)
      ·exact H G p l (g5 G (by lia) (by lia) p l)
theorem TK.keep(i:h.get? a=some o)(l:o.data=.set es ep t)(hs:Zk a h h')(x:TK prog w h k b):TK prog w h' k b:=by
 obtain⟨g,c,n,e,m,d,j⟩:=x
 have f:b≠a:=by
  rintro rfl
  obtain rfl:g=o:=QB (e.symm.trans i)
  rw [l]at d;exact nomatch d
 exact⟨g,c,n,(hs.2 b f).trans e,m,d,j⟩
def ledW(w:Zf):Bool := !w.params.followText "set-order"
def SetT(prog:Zd)(w:Zf)(V:YP->Prop)(h:Heap)(a:J8)(b:List (List Int)):Prop:=
 ∃ o es ep t,h.get? a=some o/\o.ExactSet/\o.data=.set es ep t/\TOk t (es.toList.map (·.1))/\(t.plain=true/\t.led=ledW w)/\Ents prog w h es.toList b/\b.Nodup/\∀ e∈es.toList,V e.2
theorem hs_pick(es:List (Int × YP)):∀ l:List Nat,(∀ i∈l,i<es.length)->(l.filterMap (es[·]?)).map (·.1)=l.map fun i=>(es.map (·.1)).getD i 0
 | [],_=>rfl
 | i::l,h=>by
  have a:=h i Qk;rw [Jh (b:=es[i]) (Qe a),Qp,Qp,hs_pick es l fun j c=>h j (Qf _ c)];congr 1;rw [YF,QE,Qe a];rfl
theorem BW(T:TOk t hs)(b:(t.place.toList.length+1) * 5 >= t.mask * 3)(c:t.place.toList.length+1<=76):
  ∃ M,Zo (Vq (t.place.toList.length+1))-1=M/\Good M/\(t.place.toList.length+1) * 5<M * 3/\¬ Zo (Vq (t.place.toList.length+1)) > sizeLine:=by
 have a:=T.room;rcases T.good with g | g | g | g | g | g | g
 ·rw [g]at a b
  have e:t.place.toList.length+1=5:=by lia
  rw [e]
  exact⟨31,by decide,.inr (.inl rfl),by decide,by rw [Q5];decide⟩
 ·rw [g]at a b
  have e:t.place.toList.length+1=19:=by lia
  rw [e]
  exact⟨127,by decide,.inr (.inr (.inl rfl)),by decide,by rw [Q5];decide⟩
 ·rw [g]at a b;lia
 ·rw [g]at a b
  have e:t.place.toList.length+1=9:=by lia
  rw [e]
  exact⟨63,by decide,.inr (.inr (.inr (.inr (.inl rfl)))),by decide,by rw [Q5];decide⟩
 ·rw [g]at a b
  have e:t.place.toList.length+1=38:=by lia
  rw [e]
  exact⟨255,by decide,.inr (.inr (.inr (.inr (.inr (.inl rfl))))),by decide,by rw [Q5];decide⟩
 ·rw [g]at a b;lia
 ·rw [g]at a b;lia
theorem wR
  (u:s.heap.get? a=some o) (x:o.ExactSet) (q:o.data=.set es ep t) (n:t.fits es.size=true) (y:t.plain=true/\t.led=ledW w) (X:Ents prog w s.heap es.toList ks) (v:ks.Nodup) (N:∀ e∈es.toList,V e.2)
  (O:Zo wanted-1=M) (g:Good M) (H:es.size * 5<M * 3) (hz:¬ Zo wanted > sizeLine) (hsz:es.size<=sizeLine)
  (h:∀ h' ks',Zk a s.heap h'->SetT prog w V h' a ks'->List.Perm ks' ks->Q () { s with heap:=h' }):
  Zb (Zc prog w) A (setRelay a wanted) Q E s:=by
 obtain⟨j,c,G,r,F,B,z⟩:=relaid_ok (t:=t) (hs:=es.map (·.1)) O g (by simpa using H)
 have m:∀ i∈c.toList,i<es.toList.length:=fun i I=>by
  have:=QY.mp (r.mem_iff.mp I)
  simpa using this
 have p:(c.filterMap (es[·]?)).toList=c.toList.filterMap (es.toList[·]?):=by
  rw [Y6];congr 1
  funext i
  rw [QA]
 have f:List.Perm (c.filterMap (es[·]?)).toList es.toList:=by
  rw [Y6]
  refine(r.filterMap _).trans ?_
  rw [YO,Uu]
 have d:(c.filterMap (es[·]?)).size=es.size:=by rw [<- Qd,f.length_eq,Qd]
 unfold setRelay;refine Qa (QK u q n ?_);dsimp only;rw [if_neg hz];rw [G];refine Qa ?_
 show Zb _ _ (if((c.filterMap (es[·]?)).size != es.size)=true then _ else pure (c.filterMap (es[·]?),j)) _ _ s
 rw [if_neg (by simp [d])];refine Qb ?_;dsimp only;refine Y7 u q ?_ (by rw [d];exact hsz)
 have J:(s.heap.update a (ZA (c.filterMap (es[·]?)) j)).get? a=some { o with data:=.set (c.filterMap (es[·]?)) (ep+1) j }:=by
  have:=Ya (ZA (c.filterMap (es[·]?)) j) u (by rw [Jd _ j q];rfl)
  rw [Jd _ j q]at this;exact this
 have l:=QW s.heap a (ZA (c.filterMap (es[·]?)) j);refine h _ (c.toList.filterMap (ks[·]?)) l ⟨_,_,_,j,J,x,rfl,?_,⟨by rw [z];exact y.1,by rw [B];exact y.2⟩,?_,?_,fun e K=>N e (f.mem_iff.mp K)⟩ ?_
 ·rw [p,hs_pick _ _ m]
  simpa using F
 ·rw [p]
  exact(X.pick _ m).mono fun k b=>TK.keep u q l
 ·have:List.Perm (c.toList.filterMap (ks[·]?)) ks:=by
   refine(r.filterMap _).trans ?_
   rw [YO,<- Qd,X.length,Yq]
  exact this.nodup_iff.mpr v
 ·refine(r.filterMap _).trans ?_
  rw [YO,<- Qd,X.length,Yq]
theorem vF(hu:A.units<Zi)(S:SetT prog w V s.heap a ks)(U:TK prog w s.heap k x)(hx:V (.ref x))(a0:ks.length+1<=76)
  (q1:k∈ks->Q false s) (W:k∉ks->∀ h' ks',Zk a s.heap h'->SetT prog w V h' a ks'->List.Perm ks' (k::ks)->Q true { s with heap:=h' }):
  Zb (Zc prog w) A (setAddHashed a (.ref x) (TH prog w k)) Q E s:=by
 obtain⟨o,q,ep,t,H,J,G,T,O,X,R,hV⟩:=S;have v:t.fits q.size=true:=T.fits (by simp)
 have i:t.place.toList.length=ks.length:=by rw [T.len,Qi,X.length]
 have r:q.size=ks.length:=by rw [<- X.length,Qd]
 have N:=T.room;obtain⟨n,n1,Z,Y⟩:=free_at (l:=t.place.toList) T.good (by lia) (TH prog w k)
 have hM:t.mask<=511:=by rcases T.good with g | g | g | g | g | g | g <;> lia
 unfold setAddHashed setAddHashedIn;refine Q7 (Qa (QK H G v ?_));dsimp only;rw [if_neg (by simp [byScan,Value.scannable])];refine Qa ?_;unfold setSearch;refine tQ hu H G T X U Z Y ?_ ?_ 100000 0 (Q8 _) n1 (by unfold Ve at n1;lia) (fun m hm=>absurd hm (Yy _)) none rfl
 ·intro d;exact Qb (q1 d)
 ·intro d;dsimp only;refine Qa (QK H G v ?_);dsimp only;rw [if_pos (show(t.put (P t.mask (TH prog w k) n).j).1.plain=true from O.1)];refine Qa (by_valueN 6 U ?_);rw [if_pos rfl]
  have p:(Zn q (t.put (P t.mask (TH prog w k) n).j).2 (TH prog w k,Ze x)).size=q.size+1:=by
   rw [<- Qd,(Yp _ _ _).length_eq];simp
  refine Qa (Y7 H G ?_ (by rw [p,Q5];lia))
  have hg:(s.heap.update a (ZA (Zn q (t.put (P t.mask (TH prog w k) n).j).2 (TH prog w k,Ze x)) (t.put (P t.mask (TH prog w k) n).j).1)).get? a=some { o with data:=.set (Zn q (t.put (P t.mask (TH prog w k) n).j).2 (TH prog w k,Ze x)) (ep+1) (t.put (P t.mask (TH prog w k) n).j).1 }:=by
   have:=Ya (ZA (Zn q (t.put (P t.mask (TH prog w k) n).j).2 (TH prog w k,Ze x)) (t.put (P t.mask (TH prog w k) n).j).1) H (by rw [Jd _ _ G];rfl)
   rw [Jd _ _ G]at this;exact this
  have y:=QW s.heap a (ZA (Zn q (t.put (P t.mask (TH prog w k) n).j).2 (TH prog w k,Ze x)) (t.put (P t.mask (TH prog w k) n).j).1)
  have X2:Ents prog w (s.heap.update a (ZA (Zn q (t.put (P t.mask (TH prog w k) n).j).2 (TH prog w k,Ze x)) (t.put (P t.mask (TH prog w k) n).j).1)) (Zn q (t.put (P t.mask (TH prog w k) n).j).2 (TH prog w k,Ze x)).toList (ks.take (t.put (P t.mask (TH prog w k) n).j).2++k::ks.drop (t.put (P t.mask (TH prog w k) n).j).2):=by
   rw [insertAt_list]
   exact((X.take _).append (.cons U (X.drop _))).mono fun k b=>TK.keep H G y
  have z:List.Perm (ks.take (t.put (P t.mask (TH prog w k) n).j).2++k::ks.drop (t.put (P t.mask (TH prog w k) n).j).2) (k::ks):=by
   refine List.perm_middle.trans ?_;rw [QU]
  have u:(ks.take (t.put (P t.mask (TH prog w k) n).j).2++k::ks.drop (t.put (P t.mask (TH prog w k) n).j).2).Nodup:=z.nodup_iff.mpr (Yc.mpr ⟨d,R⟩)
  have K:∀ e∈(Zn q (t.put (P t.mask (TH prog w k) n).j).2 (TH prog w k,Ze x)).toList,V e.2:=fun e he=>by
   have:=(Yp q (t.put (P t.mask (TH prog w k) n).j).2 (TH prog w k,Ze x)).mem_iff.mp he
   rw [Jw,QC,QF]at this;rcases this with h | rfl
   ·exact hV e h
   ·exact hx
  have f:(t.put (P t.mask (TH prog w k) n).j).1.fill=t.place.toList.length+1:=by
   show(Zn t.place (ZC t.place (P t.mask (TH prog w k) n).j) (P t.mask (TH prog w k) n).j).size+(if has t.dummies _=true then _ else t.dummies).size=_
   rw [T.dum,<- Qd,(Yp _ _ _).length_eq]
   simp [has]
  have B:(t.put (P t.mask (TH prog w k) n).j).1.fits (Zn q (t.put (P t.mask (TH prog w k) n).j).2 (TH prog w k,Ze x)).size=true:=by
   unfold Z9;rw [f,p]
   have:(t.put (P t.mask (TH prog w k) n).j).1.place.size=q.size+1:=by
    show(Zn t.place (ZC t.place (P t.mask (TH prog w k) n).j) (P t.mask (TH prog w k) n).j).size=_
    rw [<- Qd,(Yp _ _ _).length_eq];simp;rw [<- Qd,i,r]
   rw [this];simp only [beq_self_eq_true,JQ,decide_eq_true_eq]
   show t.place.toList.length+1<=t.mask
   lia
  by_cases c:(t.put (P t.mask (TH prog w k) n).j).1.tooFull=true
  ·rw [c];simp only [Jr,J2,if_true]
   have F:(t.place.toList.length+1) * 5 >= t.mask * 3:=by
    unfold US at c;rw [f]at c;exact of_decide_eq_true c
   obtain⟨M,m1,m2,m3,m4⟩:=BW T F (by lia);refine Qa (wR (V:=V) hg J rfl B O X2 u K (M:=M) ?_ m2 ?_ ?_ ?_ ?_)
   ·rw [r,<- i];exact m1
   ·rw [p,r,<- i];exact m3
   ·rw [r,<- i];exact m4
   ·rw [p,Q5];lia
   ·intro h' ks' I S' pk;exact Qb (W d h' ks' (y.trans I) S' (pk.trans z))
  ·rw [JZ]at c;rw [c];simp only [JX,Qg,if_false]
   have F:(t.place.toList.length+1) * 5<t.mask * 3:=by
    unfold US at c;rw [f]at c
    have:=of_decide_eq_false c
    have e:(t.put (P t.mask (TH prog w k) n).j).1.mask=t.mask:=rfl;rw [e]at this;lia
   have T2:=put_ok T Z Y F t.plain;refine Qa (Qb (Qb (W d _ _ y ⟨_,_,_,_,hg,J,rfl,?_,O,X2,u,K⟩ z)));rw [insertAt_list,Yd,Qp,List.map_take,List.map_drop];exact T2
end
section
variable {prog:Zd}{w:Zf}{A:Around}{R:Result->J9->Prop}{I:J8}{fp wr:List J8}{G:Array Vc->Array Vc->Prop}{n:Nat}{Pv:Nat->YP->Prop}{St:Nat->J9->Prop}{V:YP->Prop}
abbrev nS(w:Zf):Obj:={ cls:=.type "set",dict:=none,data:=.set #[] 0 (.fresh 0 0 (ledW w)) }
theorem TK.at(x:TK prog w h k b)(e:∀ o,h.get? b=some o->h'.get? b=some o):TK prog w h' k b:=by
 obtain⟨o,a,n,c,r⟩:=x
 exact⟨o,a,n,e o c,r⟩
theorem SetT.moved(S:SetT prog w V h a ks)(e:∀ b o,h.get? b=some o->(b=a ∨ ∃ k,TK prog w h k b)->h'.get? b=some o):SetT prog w V h' a ks:=by
 obtain⟨o,n,p,t,j,f,l,T,i,X,d,m⟩:=S
 exact⟨o,n,p,t,e a o j (.inl rfl),f,l,T,i,X.mono fun k b x=>x.at fun g c=>e b g c (.inr ⟨k,x⟩),d,m⟩
def hC(b:List (List Int))(a:Nat->List Int)(i:Nat):Prop:=∀ k,k∈b ↔ ∃ j,j<i/\a j=k
theorem Px(h:hC ks val i)(a:ks.Nodup):ks.length<=i:=by
 have:ks ⊆ (List.range i).map val:=fun k b=>by
  obtain⟨j,c,e⟩:=(h k).mp b;exact QM.mpr ⟨j,QY.mpr c,e⟩
 have:=Yu a this
 simpa using this
theorem SetT.nodup(S:SetT prog w V h a ks):ks.Nodup:=by
 obtain⟨o,i,j,t,e,c,f,T,d,X,b,g⟩:=S;exact b
theorem wF(W:WalksS prog w A.in1 I fp wr G n Pv St)(S:J8)(a7:S∉fp)(hu:A.in1.units<Zi)(f:Nat->List Int)(g:Heap)
  (a:∀ b o,g.get? b=some o->b≠S/\b∉wr) (a0:∀ i v,i<n->Pv i v->V v/\∃ b,v=.ref b/\TK prog w g (f i) b) (O:n<=75):
  ∀(k i:Nat) (s:J9) (ks:List (List Int)),n-i=k->i<=n->St i s->(∀ b o,g.get? b=some o->s.heap.get? b=some o)->
   SetT prog w (fun v=>V v/\∃ k b,v=.ref b/\TK prog w g k b) s.heap S ks->hC ks f i->
   (∀ s' ks',Moved (S::wr) G s s'->(∀ b o,g.get? b=some o->s'.heap.get? b=some o)->SetT prog w (fun v=>V v/\∃ k b,v=.ref b/\TK prog w g k b) s'.heap S ks'->hC ks' f n->R (.ok (.ret .none)) s')->
   Ui (Zc prog w) A (.builtin "set.update.loop" ⟨[.ref S,.ref I],[]⟩) R s:=by
 have b5:S∉wr:=fun h=>a7 (W.sub _ h);have E:∀ b∈wr,b∈S::wr:=fun b O=>Qf _ O
 have a3:∀(s s':J9) ks,Moved wr G s s'->(∀ b o,g.get? b=some o->s.heap.get? b=some o)->SetT prog w (fun v=>V v/\∃ k b,v=.ref b/\TK prog w g k b) s.heap S ks->SetT prog w (fun v=>V v/\∃ k b,v=.ref b/\TK prog w g k b) s'.heap S ks:=fun s s' ks z J U=>by
  obtain⟨o,es,ep,t,ho,a4,hd,T,hp,X,a2,hV⟩:=U
  refine⟨o,es,ep,t,z.heap S _ b5 ho,a4,hd,T,hp,?_,a2,hV⟩
  clear hd a4 ho T hp
  have:∀ e∈es.toList,∃ k b,e.2=.ref b/\TK prog w g k b:=fun e he=>(hV e he).2
  revert this
  clear hV a2;generalize es.toList=l at X;intro this
  induction X with
  | nil=>exact .nil
  | @cons k b es ks h1 hr ih=>
   refine .cons ?_ (ih fun e he=>this e (Qf _ he));obtain⟨k',b',e1,e2⟩:=this _ Qk
   have b8:b=b':=by injection e1
   subst b8;obtain⟨o',a9,n',N,r⟩:=e2;refine h1.at fun o2 b2=>?_
   have:=J b o' N
   rw [b2]at this;cases this;exact z.heap b _ (a b _ N).2 (J b _ N)
 intro k
 induction k with
 | zero=>
  intro i s ks hk hi M J U Y hR
  have b3:i=n:=by lia
  subst b3;refine YS JD ?_;rw [Y0 Yv _]
  show Zb _ A.in1 (Uy (.ref I) >>= _) _ _ s
  refine Qa (W.done s _ _ M fun s' z=>?_)
  show Zb _ A.in1 (ret Zz) _ _ s'
  exact Qb (hR s' ks (z.mono E) (fun b o e=>z.heap b o (a b o e).2 (J b o e)) (a3 s s' ks z J U) Y)
 | succ k ih=>
  intro i s ks hk hi M J U Y hR
  have B:i<n:=by lia
  refine YS JD ?_;rw [Y0 Yv _]
  show Zb _ A.in1 (Uy (.ref I) >>= _) _ _ s
  refine Qa (W.item i s _ _ B M fun v s' hP F z=>?_);obtain⟨b4,b,rfl,a6⟩:=a0 i v B hP;have Q:∀ b o,g.get? b=some o->s'.heap.get? b=some o:=fun b o e=>z.heap b o (a b o e).2 (J b o e);have a5:TK prog w s'.heap (f i) b:=a6.at fun o e=>Q b o e;have a8:=a3 s s' ks z J U
  show Zb _ A.in1 (UE [Ze b] (setAdd S (.ref b)) >>= _) _ _ s'
  refine Qa (Q7 ?_);unfold setAdd;refine Q7 ?_;refine Qa (wpAny_pyHash_tuple hu a5 ?_);have b9:=Px Y U.nodup
  have d:∀(Z:Heap) (tk:Nat),s'.toks<=tk->Zk S s'.heap Z->Moved (S::wr) G s { s' with heap:=Z,toks:=tk }:=fun Z tk b0 p=>
   (z.mono E).then_heap b0 fun b o O e=>by rw [p.2 b (fun h:b=S=>O (by rw [h];exact Qk))];exact e
  refine vF (V:=fun v=>V v/\∃ k b,v=.ref b/\TK prog w g k b) (s:={ s' with toks:=s'.toks+((f i).length+1) }) hu a8 a5 ⟨b4,f i,b,rfl,a6⟩ (by lia) ?_ ?_
  ·intro H;refine Qb ⟨JR Yv _,ih (i+1) _ ks (by lia) B (W.frame _ s' s'.heap _ F (QV _ _) fun b O o e=>e) Q a8 ?_ fun K m q y u x=>?_⟩
   ·intro k';rw [Y k'];constructor
    ·rintro⟨j,hj,e⟩;exact⟨j,by lia,e⟩
    ·rintro⟨j,hj,e⟩
     by_cases c:j=i
     ·subst c;subst e;exact(Y _).mp H
     ·exact⟨j,by lia,e⟩
   ·exact hR K m (Vm W.gtrans (d s'.heap _ (QV _ _) (UJ S _)) q) y u x
  ·intro H Z ks' p b6 hp
   have b7:∀ b o,g.get? b=some o->Z.get? b=some o:=fun b o e=>by
    rw [p.2 b (a b o e).1];exact Q b o e
   refine Qb ⟨JR Yv _,ih (i+1) _ ks' (by lia) B (W.frame _ s' _ _ F (QV _ _) fun b O o e=>?_) b7 b6 ?_ fun K m q y u x=>?_⟩
   ·rw [p.2 b (fun h:b=S=>a7 (by rw [<- h];exact O))];exact e
   ·intro k';rw [hp.mem_iff,Ql,Y k'];constructor
    ·rintro(rfl | ⟨j,hj,e⟩)
     ·exact⟨i,by lia,rfl⟩
     ·exact⟨j,by lia,e⟩
    ·rintro⟨j,hj,e⟩
     by_cases c:j=i
     ·subst c;exact .inl e.symm
     ·exact .inr ⟨j,by lia,e⟩
   ·exact hR K m (Vm W.gtrans (d Z _ (QV _ _) p) q) y u x
end
section
variable {prog:Zd}{w:Zf}{A:Around}{E:YP->J9->Prop}{s:J9}
theorem new_led(a:YP)
  (h:Q₁ (.ref s.heap.objs.size) { s with heap:=s.heap.push (nS w) }):
  Ui (Zc prog w) A (.call (.builtin "set.__new__") ⟨[.type "set",a],[]⟩) (wants Q₁ E) s:=by
 refine U3 ?_
 show Zb _ A.in1 (checkBuiltinCall "set.__new__" ⟨[.type "set",a],[]⟩ >>= fun _=>again (.builtin "set.__new__" ⟨[.type "set",a],[]⟩)) _ _ s
 refine Qa (UZ (F.newCall_set_1 a) (Qb ⟨JR F.plain_set_new _,YS F.entry_set_new ?_⟩));rw [Y0 F.plain_set_new _];unfold Builtin.«set.__new__» Builtin.Frozenset.newClass;have b:=sub_set_self;obtain⟨f,g,d,c,e⟩:=s;dsimp only
 wp_walk
 refine UT (Qb ?_);dsimp only;simp only [newObj];refine Qa (wpAny_alloc (Qb ?_));exact Qb h
theorem Wn:isSubtype (.type "tuple") (.type "set")=pure false:=by rw [UK];kernel_rfl
theorem Wm:isSubtype (.type "tuple") (.type "frozenset")=pure false:=by rw [UK];kernel_rfl
variable {V:YP->Prop}
theorem NO{l:J8}{items:Array YP}{kl:List (List Int)}{Q:YP->J9->Prop}
  (hh:A.handled=none) (hu:A.units+8<Zi) (hl:s.heap.IsList l items) (hi:∀ i v,items[i]?=some v->V v/\∃ b,v=.ref b/\TK prog w s.heap (kl.getD i []) b) (hb:items.size<=75)
  (h:∀(h':Heap) (tk:Nat) ks,SetT prog w V h' s.heap.objs.size ks->hC ks (fun i=>kl.getD i []) items.size->
   (∀ b o,s.heap.get? b=some o->h'.get? b=some o)->Q (.ref s.heap.objs.size) { s with heap:=h',toks:=tk }):
  Zb (Zc prog w) A (call (.type "set") [.ref l]) Q E s:=by
 obtain⟨c,tl,a9⟩:=F.called_set.mro;have W:=F.called_set.made;have a6:=F.called_set.sub;refine wpAny_call (U3 ?_)
 show Zb _ _ (callAny (.type "set") _) _ _ _
 refine Qb ⟨Code.quiet_builtin _ (by decide +kernel),YS F.entry_type_call ?_⟩;rw [Around.under_plain (UN "set" [.ref l] []) rfl];have h1:=F.called_set.notType;have h2:=F.called_set.canCreate;have b3:=F.typeCall_set_1 (.ref l)
 repeat (any_goals (first | assumption | wp_step))
 refine Jn (new_led (.ref l) (E:=E) (Q₁:=fun z j=>z=.ref s.heap.objs.size/\j={ s with heap:=s.heap.push (nS w) }) ⟨rfl,rfl⟩) fun r j U=>?_
 cases r with
 | error e=>exact U
 | ok fl=>
  cases fl with
  | ret z=>
   obtain⟨rfl,rfl⟩:=U;have hS:(s.heap.push (nS w)).get? s.heap.objs.size=some (nS w):=Qy _ rfl;have hT:Shared.TypeIs { s with heap:=s.heap.push (nS w) } (.ref s.heap.objs.size) "set":=⟨_,hS,rfl⟩;have b2:=F.called_set.init.lookup;have b4:=F.called_set.init.bind (.ref s.heap.objs.size)
   repeat (any_goals (first | assumption | wp_step))
   refine Jn (U0 (R:=wants (fun r g=>r=.none/\∃ h' tk ks,g={ s with heap:=h',toks:=tk } /\
     SetT prog w V h' s.heap.objs.size ks/\hC ks (fun i=>kl.getD i []) items.size /\
     (∀ b o,s.heap.get? b=some o->h'.get? b=some o)) E) F.called_set.init.plain F.entry_set_init (check_set_init_1 hT ?_)) fun y g a=>?_
   ·obtain⟨ol,G,N,nl,M⟩:=hl;obtain⟨a5,m,T,d⟩:=ol
    simp only at N M
    subst N;subst M;have B:(s.heap.push (nS w)).get? l=some { cls:=.type "list",dict:=m,data:=.seq items nl,slots:=d }:=Qh _ G;have a7:=F.sub_list_set;have a8:=F.sub_list_frozenset
    have b0:(ZK "list" == ZK "dict")=false:=by decide
    have J:(s.heap.push (nS w)).IsList l items:=⟨_,B,rfl,nl,rfl⟩;unfold Builtin.«set.__init__» noKeywords Z8;generalize hPI:pyIter=PI
    wp_walk
    subst hPI;refine UH J ?_;refine Qa (wpAny_runValue ?_);have I:l<s.heap.objs.size:=Qs G
    have Y:A.in1.in1.in1.handled=none:=by simp [hh]
    have H:l≠(s.heap.push (nS w)).objs.size:=by
     rw [Ys];exact Qz (Jk I)
    have a0:s.heap.objs.size∉[(s.heap.push (nS w)).objs.size,l]:=by
     rw [Ys];simp only [Ql,QF,Jo,or_false,not_or]
     exact⟨Qz (JA _),Jf I⟩
    have f:A.in1.in1.in1.units<Zi:=by
     show A.units+1+1+1<Zi
     lia
    refine wF (V:=V) ((Walks.list Y _ l H items).toS) s.heap.objs.size
     a0 f (fun i=>kl.getD i []) s.heap (fun b o e=>?_) (fun i v _ hv=>hi i v hv) hb (items.size-0) 0 _ [] (by lia) (Q8 _)
     ⟨⟨_,Qy _ rfl,rfl,rfl⟩,(J.push _)⟩ (fun b o e=>?_) ?hS0 ?hK0 ?hR
    ·have n:b<s.heap.objs.size:=Qs e
     refine⟨Qz n,fun u=>?_⟩
     rw [Ys]at u
     have:b=s.heap.objs.size+1:=QF.mp u
     rw [this]at n;exact absurd n (Nat.not_lt.mpr (Vj _))
    ·exact Qh _ (Qh _ e)
    case hS0=>
     have K:((s.heap.push (nS w)).push { cls:=.type "list_iterator",data:=.fields #[.ref l,.int 0 0] }).get? s.heap.objs.size
       = some (nS w):=Qh _ hS
     exact⟨_,#[],0,_,K,⟨rfl,rfl,rfl⟩,rfl,⟨.inl rfl,rfl,rfl,List.Pairwise.nil,fun x hx=>by simp [Vf]at hx,(by show 0 * 5<7 * 3;decide),fun q hq=>by simp at hq⟩,⟨rfl,rfl⟩,.nil,YH,fun e Z=>by simp at Z⟩
    case hK0=>
     intro k;simp
    case hR=>
     intro s' ks u h0 p hK;obtain⟨h',g',d',O,S⟩:=s';have eg:g'=s.gens:=u.gens;have ed:d'=s.drawn:=u.drawn;have eo:S=s.os:=u.os;subst eg;subst ed;subst eo
     show Zb _ _ _ _ _ _
     refine Qb ?_
     show Zb _ _ (ret Zz) _ _ _
     obtain⟨o',a3,a4,t',z1,z2,z3,z4,z5,z6,z7,z8⟩:=p;exact Qb ⟨rfl,h',O,ks,rfl,⟨o',a3,a4,t',z1,z2,z3,z4,z5,z6,z7,fun e Z=>(z8 e Z).1⟩,hK,fun b o e=>h0 b o e⟩
   ·cases y with
    | error e=>exact a
    | ok t=>
     cases t with
     | ret r=>
      obtain⟨rfl,h',tk,ks,rfl,p,a2,X⟩:=a
      repeat (any_goals (first | assumption | wp_step))
      exact h _ _ _ p a2 X
     | _=>exact a.elim
  | _=>exact U.elim
theorem NN{l:J8}{items:Array YP}{kl:List (List Int)}{Q:YP->J9->Prop}
  (hh:A.handled=none) (hu:A.units+8<Zi) (hl:s.heap.IsTuple l items) (hi:∀ i v,items[i]?=some v->V v/\∃ b,v=.ref b/\TK prog w s.heap (kl.getD i []) b) (hb:items.size<=75)
  (h:∀(h':Heap) (tk:Nat) ks,SetT prog w V h' s.heap.objs.size ks->hC ks (fun i=>kl.getD i []) items.size->
   (∀ b o,s.heap.get? b=some o->h'.get? b=some o)->Q (.ref s.heap.objs.size) { s with heap:=h',toks:=tk }):
  Zb (Zc prog w) A (call (.type "set") [.ref l]) Q E s:=by
 obtain⟨c,tl,a9⟩:=F.called_set.mro;have W:=F.called_set.made;have a6:=F.called_set.sub;refine wpAny_call (U3 ?_)
 show Zb _ _ (callAny (.type "set") _) _ _ _
 refine Qb ⟨Code.quiet_builtin _ (by decide +kernel),YS F.entry_type_call ?_⟩;rw [Around.under_plain (UN "set" [.ref l] []) rfl];have h1:=F.called_set.notType;have h2:=F.called_set.canCreate;have b3:=F.typeCall_set_1 (.ref l)
 repeat (any_goals (first | assumption | wp_step))
 refine Jn (new_led (.ref l) (E:=E) (Q₁:=fun z j=>z=.ref s.heap.objs.size/\j={ s with heap:=s.heap.push (nS w) }) ⟨rfl,rfl⟩) fun r j U=>?_
 cases r with
 | error e=>exact U
 | ok fl=>
  cases fl with
  | ret z=>
   obtain⟨rfl,rfl⟩:=U;have hS:(s.heap.push (nS w)).get? s.heap.objs.size=some (nS w):=Qy _ rfl;have hT:Shared.TypeIs { s with heap:=s.heap.push (nS w) } (.ref s.heap.objs.size) "set":=⟨_,hS,rfl⟩;have b2:=F.called_set.init.lookup;have b4:=F.called_set.init.bind (.ref s.heap.objs.size)
   repeat (any_goals (first | assumption | wp_step))
   refine Jn (U0 (R:=wants (fun r g=>r=.none/\∃ h' tk ks,g={ s with heap:=h',toks:=tk } /\
     SetT prog w V h' s.heap.objs.size ks/\hC ks (fun i=>kl.getD i []) items.size /\
     (∀ b o,s.heap.get? b=some o->h'.get? b=some o)) E) F.called_set.init.plain F.entry_set_init (check_set_init_1 hT ?_)) fun y g a=>?_
   ·obtain⟨ol,G,N,nl,M⟩:=hl;obtain⟨a5,m,T,d⟩:=ol
    simp only at N M
    subst N;subst M;have B:(s.heap.push (nS w)).get? l=some { cls:=.type "tuple",dict:=m,data:=.seq items nl,slots:=d }:=Qh _ G;have a7:=Wn;have a8:=Wm
    have b0:(ZK "tuple" == ZK "dict")=false:=by decide
    have J:(s.heap.push (nS w)).IsTuple l items:=⟨_,B,rfl,nl,rfl⟩;unfold Builtin.«set.__init__» noKeywords Z8;generalize hPI:pyIter=PI
    wp_walk
    subst hPI;refine UA J ?_;refine Qa (wpAny_runValue ?_);have I:l<s.heap.objs.size:=Qs G
    have Y:A.in1.in1.in1.handled=none:=by simp [hh]
    have H:l≠(s.heap.push (nS w)).objs.size:=by
     rw [Ys];exact Qz (Jk I)
    have a0:s.heap.objs.size∉[(s.heap.push (nS w)).objs.size,l]:=by
     rw [Ys];simp only [Ql,QF,Jo,or_false,not_or]
     exact⟨Qz (JA _),Jf I⟩
    have f:A.in1.in1.in1.units<Zi:=by
     show A.units+1+1+1<Zi
     lia
    refine wF (V:=V) ((Walks.tuple Y _ l H items).toS) s.heap.objs.size
     a0 f (fun i=>kl.getD i []) s.heap (fun b o e=>?_) (fun i v _ hv=>hi i v hv) hb (items.size-0) 0 _ [] (by lia) (Q8 _)
     ⟨⟨_,Qy _ rfl,rfl,rfl⟩,(J.push _)⟩ (fun b o e=>?_) ?hS0 ?hK0 ?hR
    ·have n:b<s.heap.objs.size:=Qs e
     refine⟨Qz n,fun u=>?_⟩
     rw [Ys]at u
     have:b=s.heap.objs.size+1:=QF.mp u
     rw [this]at n;exact absurd n (Nat.not_lt.mpr (Vj _))
    ·exact Qh _ (Qh _ e)
    case hS0=>
     have K:((s.heap.push (nS w)).push { cls:=.type "tuple_iterator",data:=.fields #[.ref l,.int 0 0] }).get? s.heap.objs.size
       = some (nS w):=Qh _ hS
     exact⟨_,#[],0,_,K,⟨rfl,rfl,rfl⟩,rfl,⟨.inl rfl,rfl,rfl,List.Pairwise.nil,fun x hx=>by simp [Vf]at hx,(by show 0 * 5<7 * 3;decide),fun q hq=>by simp at hq⟩,⟨rfl,rfl⟩,.nil,YH,fun e Z=>by simp at Z⟩
    case hK0=>
     intro k;simp
    case hR=>
     intro s' ks u h0 p hK;obtain⟨h',g',d',O,S⟩:=s';have eg:g'=s.gens:=u.gens;have ed:d'=s.drawn:=u.drawn;have eo:S=s.os:=u.os;subst eg;subst ed;subst eo
     show Zb _ _ _ _ _ _
     refine Qb ?_
     show Zb _ _ (ret Zz) _ _ _
     obtain⟨o',a3,a4,t',z1,z2,z3,z4,z5,z6,z7,z8⟩:=p;exact Qb ⟨rfl,h',O,ks,rfl,⟨o',a3,a4,t',z1,z2,z3,z4,z5,z6,z7,fun e Z=>(z8 e Z).1⟩,hK,fun b o e=>h0 b o e⟩
   ·cases y with
    | error e=>exact a
    | ok t=>
     cases t with
     | ret r=>
      obtain⟨rfl,h',tk,ks,rfl,p,a2,X⟩:=a
      repeat (any_goals (first | assumption | wp_step))
      exact h _ _ _ p a2 X
     | _=>exact a.elim
  | _=>exact U.elim
end
end ST
namespace SL
open PySem.Spec L2 CL DL SD ST
section
variable {X:Cx}{pins:List (J8 × Obj)}{σ:L2.St}{H:Hp}{s:J9}
theorem kH(I:Inv X pins σ H s)(h:bL X.K H b (k.map V.int)):TK X.prog X.w s.heap k b:=by
 obtain⟨a,c,j,l⟩:=I.tuple h;obtain⟨o,f,e,n,d⟩:=j
 refine⟨o,a.toArray,n,f,e,d,?_⟩
 show ItemsAre (Vh X.prog X.w) k a
 clear h d f e l;generalize hxs:k.map V.int=g at c
 induction c generalizing k with
 | nil=>
  cases k with
  | nil=>exact .nil
  | cons _ _=>simp at hxs
 | @cons x u g us r t ih=>
  cases k with
  | nil=>simp at hxs
  | cons i k=>
   rw [Qp,List.cons.injEq]at hxs;obtain⟨p,m⟩:=hxs;subst p;obtain⟨q,rfl⟩:=r;exact .cons (intKind_is _ _ _ _) (ih m)
abbrev qN:=List (List Int)->Hp->Prop
abbrev uD:=L2.St->Hp->qN->Prop
def Di(X:Cx)(c:List (J8 × Obj))(e:L2.St)(Q:qN)(u:YP)(d:J9):Prop:=
 ∃ a o ks H',u=.ref a/\Inv X ((a,o)::c) e H' d/\SetT X.prog X.w (fun v=>∃ b,∃ xs:List Int,v=.ref b/\bL X.K H' b (xs.map V.int)) d.heap a ks/\(∀ p∈c,p.1≠a)/\Q ks H'
def qO(X:Cx)(e:Expr)(t:uD):Prop:=
 ∀(pins:List (J8 × Obj)) (s:J9) (σ:L2.St) (H:Hp) (Q:qN),Inv X pins σ H s->t σ H Q->Zb (Zc X.prog X.w) X.A (Zr e X.env) (Di X pins σ Q) X.xe s
def Nz(K:PySem.W.Frag)(t:TA):uD:=fun d H Q=>t d H fun e c=>∃(a:J8) (xs:List V) (kl:List (List Int)),e=[.ref a]/\(bV K c a xs ∨ bL K c a xs)/\xs.length<=75/\xs.length=kl.length/\(∀(i:Nat) (x:V),xs[i]?=some x->∃ b,x=.ref b/\bL K c b ((kl.getD i []).map V.int))/\∀ ks:List (List Int),ks.Nodup->(∀ k,k∈ks ↔ k∈kl)->Q ks c
theorem lA(hc:X.calm=true)(hu:X.A.units+64<Zi)(hg:Gl X x)(hm:X.mg x=none)(m:ZD x=some (.type "set"))(ha:PA X [e] t)(hn:x≠"__name__":=by decide)(S:(x == ("__debug__":Str))=false:=by decide)
  (he:Za [e] X.env=(false,Zr e X.env)::Za [] X.env:=by rfl) (hpl:(Zw pos (Za [] X.env)).any (·.1)=false:=by rfl):
  qO X (.Call (.Name x p) [e] [] pos) (Nz X.K t):=by
 intro d s M H Q I h;refine YT (kE I hg hm m ?_ hn S);refine YC (aW (ha pos d s M H _ I h) fun us s1 ⟨vs,J,I1,r1,q1⟩=>?_) he hpl;obtain⟨a,l,kl,rfl,B,a0,F,R,q⟩:=q1;obtain⟨u,rfl,ru⟩:=g7 r1;cases ru
 have go:∀ c:List YP,Vals l c->(∀(f:List (List Int)) (O:YP->J9->Prop),(∀ i v,c.toArray[i]?=some v->(∃ b,∃ l:List Int,v=.ref b/\bL X.K J b (l.map V.int))/\∃ b,v=.ref b/\TK X.prog X.w s1.heap (f.getD i []) b)->
   c.toArray.size<=75->(∀(n:Heap) (N:Nat) r,SetT X.prog X.w (fun v=>∃ b,∃ l:List Int,v=.ref b/\bL X.K J b (l.map V.int)) n s1.heap.objs.size r->hC r (fun i=>f.getD i []) c.toArray.size->
   (∀ b o,s1.heap.get? b=some o->n.get? b=some o)->O (.ref s1.heap.objs.size) { s1 with heap:=n,toks:=N })->Zb (Zc X.prog X.w) X.A (call (.type "set") [.ref a]) O X.xe s1)->
   Zb (Zc X.prog X.w) X.A (call (.type "set") [.ref a]) (Di X d M Q) X.xe s1:=by
  intro c g cs
  have z:c.toArray.size=kl.length:=by rw [QH,<- g.length,F]
  refine cs kl _ (fun i v m=>?_) (by rw [z];lia) fun n N r S' K' keep=>?_
  ·have y:c[i]?=some v:=by simpa using m
   have hi:i<l.length:=by
    have:=(Qc.mp y).1
    rw [g.length];exact this
   obtain⟨u,e1,e2⟩:=Vals.get g (Qe hi);rw [y]at e1;cases e1;obtain⟨b,e3,e4⟩:=R i _ (Qe hi);rw [e3]at e2;cases e2
   exact⟨⟨b,_,rfl,e4⟩,b,rfl,kH I1 e4⟩
  ·obtain⟨o,es,ep,t,z1,z2,Z,z4,z5,z6,Y,z8⟩:=S';have I2:Inv X d M J { s1 with heap:=n,toks:=N }:=I1.kept keep
   have I3:Inv X ((s1.heap.objs.size,o)::d) M J { s1 with heap:=n,toks:=N }:=by
    refine I2.pins_of fun p E=>?_;rcases Ql.mp E with rfl | E
    ·refine⟨z1,I1.hok.fresh (Qm _),Jf I1.lt,I1.nofs (Qm _),fun v m=>?_⟩
     rw [Z]at m;exact nomatch m
    ·exact I2.pin p (Qu _ E)
   refine⟨_,o,r,J,rfl,I3,⟨o,es,ep,t,z1,z2,Z,z4,z5,z6,Y,z8⟩,fun p E=>Qz (Qs (I1.pin p (Qu _ E)).1),q r Y fun k=>(K' k).trans ?_⟩
   rw [z];constructor
   ·rintro⟨j,G,rfl⟩
    show kl.getD j []∈kl
    rw [YF,Qe G];exact YJ G
   ·intro hk;obtain⟨j,G⟩:=QQ hk
    refine⟨j,(Qc.mp G).1,?_⟩
    show kl.getD j []=k
    rw [YF,G];rfl
 rcases B with B | B
 ·obtain⟨c,g,pl,_⟩:=I1.list B;exact go c g fun f O W U T=>NO (kl:=f) (I1.ok.hd hc) (by lia) pl.isList W U T
 ·obtain⟨c,g,it,hz⟩:=I1.tuple B;exact go c g fun f O W U T=>NN (kl:=f) (I1.ok.hd hc) (by lia) it W U T
end
def pL:List D->Option (List (List Int))
 | []=>some []
 | .tuple ds::r=>(cX ds).bind fun b=>(pL r).bind fun a=>some (b::a)
 | _=>none
theorem HD{K:PySem.W.Frag}{F:J8->Prop}{H:Hp}:∀{ds:List D}{vs:List V}{kl:List (List Int)},Reps K F H ds vs->pL ds=some kl->ds.length=kl.length/\∀(i:Nat) (x:V),vs[i]?=some x->∃ b,x=.ref b/\bL K H b ((kl.getD i []).map V.int):=by
 intro ds
 induction ds with
 | nil=>intro vs kl r h;cases r;cases h;exact⟨rfl,fun i x e=>by simp at e⟩
 | cons d ds k=>
  intro vs kl r h
  cases r with
  | cons f r=>
   cases d with
   | tuple n=>
    cases f with
    | tup a c=>
     obtain⟨p,m,h⟩:=aE h;obtain⟨o,l,h⟩:=aE h;cases h;obtain⟨j,g⟩:=k r l
     refine⟨by simp [j],fun i x e=>?_⟩
     cases i with
     | zero=>
      cases e
      refine⟨_,rfl,?_⟩
      rw [mG c m]at a;exact a
     | succ i=>exact g i x (by simpa using e)
   | _=>cases h
def DU(K:PySem.W.Frag)(g:aA->Option (List (List Int))):uD:=fun a H Q=>mV K a H g fun F b=>∀ F' H' (ks:List (List Int)),aI F F' H H'->ks.Nodup->(∀ k,k∈ks ↔ k∈b)->Q ks H'
def t0(X:Cx)(e:Expr)(g:aA->Option (List (List Int))):Prop:=qO X e (DU X.K g)
def rJ:List D->Option (List (List Int))
 | [.list xs]=>if xs.length<=75 then pL xs else none
 | [.tuple xs]=>if xs.length<=75 then pL xs else none
 | _=>none
def lQ(gr:aA->Option (List D)):aA->Option (List (List Int)):=fun a=>(gr a).bind rJ
def dd:List (List Int)->List (List Int)
 | []=>[]
 | k::r=>if k∈r then dd r else k::dd r
theorem xO:∀{l:List (List Int)}{k:List Int},k∈dd l ↔ k∈l
 | [],k=>by simp [dd]
 | x::r,k=>by
  unfold dd;split
  ·rename_i h;rw [xO,Ql];constructor
   ·exact .inr
   ·rintro(rfl | a)
    ·exact h
    ·exact a
  ·rw [Ql,Ql,xO]
theorem Bw:∀ l:List (List Int),(dd l).Nodup
 | []=>YH
 | x::r=>by
  unfold dd;split
  ·exact Bw r
  ·rename_i h;exact Yc.mpr ⟨fun q=>h (xO.mp q),Bw r⟩
section
variable {X:Cx}{e:Expr}{p pos:Pos}{gr:aA->Option (List D)}{g:aA->Option (List (List Int))}
theorem ps_mono(h:qO X e t)(m:∀ σ H Q,t' σ H Q->t σ H Q):qO X e t':=fun a s σ H Q I q=>h a s σ H Q I (m σ H Q q)
theorem AN(E:X.calm=true)(y:X.A.units+64<Zi)(B:Gl X x)(z:X.mg x=none)(w:ZD x=some (.type "set"))(G:DA X [e] gr)(b:x≠"__name__":=by decide)(l:(x == ("__debug__":Str))=false:=by decide)
  (he:Za [e] X.env=(false,Zr e X.env)::Za [] X.env:=by rfl) (hpl:(Zw pos (Za [] X.env)).any (·.1)=false:=by rfl):
  t0 X (.Call (.Name x p) [e] [] pos) (lQ gr):=
 ps_mono (lA E y B z w G b l he hpl) fun K H Q v=>by
  obtain⟨F,d,u,n,S,q,k⟩:=v;obtain⟨J,I,q⟩:=aE q
  refine⟨F,d,u,J,S,I,fun s r M t o=>?_⟩
  unfold rJ at q
  split at q
  ·rename_i h;by_cases c:h.length<=75
   ·rw [if_pos c]at q
    cases o with
    | cons R2 m=>
     cases m
     cases R2 with
     | @lst a us _ h1 r1=>
      obtain⟨g,f⟩:=HD r1 q
      exact⟨a,us,n,rfl,.inl h1.sq,by rw [<- r1.length];exact c,by rw [<- r1.length,g],f,fun i b j=>k s r i t b j⟩
   ·rw [if_neg c]at q;cases q
  ·rename_i h;by_cases c:h.length<=75
   ·rw [if_pos c]at q
    cases o with
    | cons R2 m=>
     cases m
     cases R2 with
     | @tup a us _ h1 r1=>
      obtain⟨g,f⟩:=HD r1 q
      exact⟨a,us,n,rfl,.inr h1,by rw [<- r1.length];exact c,by rw [<- r1.length,g],f,fun i b j=>k s r i t b j⟩
   ·rw [if_neg c]at q;cases q
  ·cases q
end
end SL
namespace PySem.F
theorem set_iter_entry:entryFor table "set.__iter__"=some Builtin.«frozenset.__iter__»:=
 entryFor_alias (id':="frozenset.__iter__") (by kernel_rfl) rfl (by decide +kernel) (by kernel_rfl)
theorem set_sub_entry:entryFor table "set.__sub__"=some Builtin.«frozenset.__sub__»:=
 entryFor_alias (id':="frozenset.__sub__") (by kernel_rfl) rfl (by decide +kernel) (by kernel_rfl)
theorem HS:Manifest.owners.lookup (String.ofList ['r','o','t','a','r','e','t','i','_','t','e','s'].reverse)=some Manifest.sig_set_iterator:=by kernel_rfl
theorem si_next:Slot "set_iterator" "__next__" "set_iterator.__next__":=
 .of (owner:="set_iterator") (n:="__next__") (by rw [typeLookup_type,UO];kernel_rfl) (by decide +kernel) (by decide +kernel) (by decide +kernel)
  (.inl (by decide +kernel)) (by rw [UK];kernel_rfl)
theorem si_iter:Slot "set_iterator" "__iter__" "set_iterator.__iter__":=
 .of (owner:="set_iterator") (n:="__iter__") (by rw [typeLookup_type,UO];kernel_rfl) (by decide +kernel) (by decide +kernel) (by decide +kernel)
  (.inl (by decide +kernel)) (by rw [UK];kernel_rfl)
theorem si_iter_entry:entryFor table "set_iterator.__iter__"=some Builtin.«dict_keyiterator.__iter__»:=
 entryFor_alias (id':="dict_keyiterator.__iter__") (by kernel_rfl) rfl (by decide +kernel) (by kernel_rfl)
theorem si_iter_args(a:YP):argsOk "set_iterator.__iter__" ⟨[a],[]⟩:=by
 unfold argsOk;rw [signature?_of (id:="set_iterator.__iter__") (n:=['_','_','r','e','t','i','_','_']) (o:=['r','o','t','a','r','e','t','i','_','t','e','s']) (by kernel_rfl) HS];kernel_rfl
theorem si_next_entry:entryFor table "set_iterator.__next__"=some Builtin.«set_iterator.__next__»:=entryFor_of_tree (by kernel_rfl)
theorem si_next_args(a:YP):argsOk "set_iterator.__next__" ⟨[a],[]⟩:=by
 unfold argsOk;rw [signature?_of (id:="set_iterator.__next__") (n:=['_','_','t','x','e','n','_','_']) (o:=['r','o','t','a','r','e','t','i','_','t','e','s']) (by kernel_rfl) HS];kernel_rfl
end PySem.F
namespace ST
open PySem.SetTable
theorem Gr{b:Type}(next:Nat->Nat):∀(fuel k:Nat) (left:List b) (out:Array b),left.length=fuel->List.Perm (pickOrder.go next fuel k left out).toList (out.toList++left)
 | 0,k,left,out,h=>by
  have:left=[]:=List.length_eq_zero_iff.mp h
  subst this;rw [QP];exact .refl _
 | fuel+1,k,left,out,h=>by
  have a:next k % left.length<left.length:=Nat.mod_lt _ (by lia);unfold pickOrder.go;rw [Qe a];dsimp only
  refine(Gr next fuel (k+1) _ _ (by rw [List.length_eraseIdx_of_lt a];lia)).trans ?_
  rw [Jw,QG];refine List.Perm.append_left _ ?_;rw [List.eraseIdx_eq_take_drop_succ]
  have e:left=left.take (next k % left.length)++left[next k % left.length]::left.drop (next k % left.length+1):=by
   rw [<- Yl a,QU]
  refine List.Perm.trans ?_ (.of_eq e.symm)
  show List.Perm (left[next k % left.length]::(left.take (next k % left.length)++left.drop (next k % left.length+1))) _
  exact List.perm_middle.symm
def gG(w:Zf)(a ep:Nat)(es:Array (Int × YP)):Array (Int × YP):=if w.params.followText "set-order"=true then pickOrder (w.params.setOrder a ep) es else es
theorem mH(w:Zf)(a ep:Nat)(es:Array (Int × YP)):List.Perm (gG w a ep es).toList es.toList:=by
 unfold gG;split
 ·exact(Gr _ es.size 0 es.toList #[] (by simp)).trans (by simp)
 ·exact .refl _
theorem x3(w:Zf)(a ep:Nat)(es:Array (Int × YP)):(gG w a ep es).size=es.size:=by
 have:=(mH w a ep es).length_eq
 simpa using this
theorem N1(xs:Array Nat)(s:Up xs.toList):ZC xs 0=0:=by
 obtain⟨e,b,d⟩:=pW xs s 0;by_cases c:ZC xs 0=0
 ·exact c
 ·have a:0<xs.toList.length:=by rw [Qd];lia
  have:=b 0 _ (Qe a) (by lia)
  lia
theorem N0(xs:Array Nat)(s:Up xs.toList)(h:xs.toList[i]?=some j):ZC xs (j+1)=i+1:=by
 obtain⟨k,g,f⟩:=pW xs s (j+1);have d:=(Qc.mp h).1;rw [Qd]at d;by_cases a:ZC xs (j+1)<=i
 ·have:=f i j h a
  lia
 ·by_cases b:ZC xs (j+1)=i+1
  ·exact b
  ·have c:i+1<xs.toList.length:=by rw [Qd];lia
   have e:=Qe c
   have:=g _ _ e (by lia)
   have:=s.at h e (by lia)
   lia
structure gS(w:Zf)(h:Heap)(a:J8)(o:Obj)(es:Array (Int × YP))(ep:Nat)(t:SetTable):Prop where
 get:h.get? a=some o
 ex:o.ExactSet
 data:o.data=.set es ep t
 fits:t.fits es.size=true
 up:Up t.place.toList
 plain:t.plain=true
 led:t.led=ledW w
theorem gS.at(S:gS w h a o es ep t)(e:h'.get? a=some o):gS w h' a o es ep t:=⟨e,S.ex,S.data,S.fits,S.up,S.plain,S.led⟩
def pK(h:Heap)(I a:J8)(slot i n ep:Nat):Prop:=∃ o,h.get? I=some o/\o.cls=.type "set_iterator"/\o.data=.fields #[.int slot 0,.int i 0,.ref a,.int n 0,.int ep 0]
section
variable {prog:Zd}{w:Zf}{A:Around}{E:YP->J9->Prop}{s:J9}{I a:J8}{o:Obj}{es:Array (Int × YP)}{ep slot i:Nat}{t:SetTable}
theorem pK.typeIs(h:pK s.heap I a slot i n ep):s.TypeIs (.ref I) "set_iterator":=by
 obtain⟨o,c,b,_⟩:=h
 exact⟨o,c,b⟩
theorem vM(h:Q (w.params.followText "set-order") s):Zb (Zc prog w) A setsByText Q E s:=by
 unfold setsByText;exact Qa (UT (Qb h))
theorem Kb(S:gS w s.heap a o es ep t)(h:Q (gG w a ep es) s):Zb (Zc prog w) A (setWalk a) Q E s:=by
 unfold setWalk;refine Qa (QK S.get S.data S.fits ?_);dsimp only;refine Qa (vM ?_);unfold gG at h
 cases c:w.params.followText "set-order" with
 | true=>
  rw [c,if_pos rfl]at h;rw [if_pos rfl];exact Qa (UT (Qb h))
 | false=>
  rw [c,if_neg Qr]at h;rw [if_neg Qr]
  have d:(!t.plain && decide (es.size > 1))=false:=by rw [S.plain];rfl
  have b:(!t.led && decide (es.size > 1))=false:=by rw [S.led,ledW,c];rfl
  show Zb _ _ (if(!t.plain && decide (es.size > 1))=true then _ else _) _ _ s
  rw [d,if_neg Qr];refine Qa ?_
  show Zb _ _ (if(!t.led && decide (es.size > 1))=true then _ else _) _ _ s
  rw [b,if_neg Qr];exact Qb (Qb h)
theorem Gy(S:gS w s.heap a o es ep t)(m:w.params.followText "set-order"=false->ZC t.place slot=i)
  (d:∀ x next,(gG w a ep es)[i]?=some x->(w.params.followText "set-order"=false->ZC t.place next=i+1)->Q (some (x.2,next)) s) (f:es.size<=i->Q none s):
  Zb (Zc prog w) A (setNext a slot i ep) Q E s:=by
 unfold setNext;refine Qa (QK S.get S.data S.fits ?_);dsimp only;refine Qa (vM ?_)
 cases c:w.params.followText "set-order" with
 | true=>
  rw [if_pos rfl,if_neg (by simp)];refine Qa (Kb S (Qb ?_));by_cases l:i<es.size
  ·have b:i<(gG w a ep es).size:=by rw [x3];exact l
   rw [Qx b]
   exact d _ _ (Qx b) fun e=>by rw [c]at e;cases e
  ·rw [Yx (by rw [x3];lia)];exact f (by lia)
 | false=>
  rw [if_neg Qr]
  have k:(!t.plain && decide (es.size > 1))=false:=by rw [S.plain];rfl
  have j:(!t.led && !es.isEmpty)=false:=by rw [S.led,ledW,c];rfl
  show Zb _ _ (if(!t.plain && decide (es.size > 1))=true then _ else _) _ _ s
  rw [k,if_neg Qr];refine Qa ?_
  show Zb _ _ (if(!t.led && !es.isEmpty)=true then _ else _) _ _ s
  rw [j,if_neg Qr];refine Qb (Qb ?_)
  have g:t.place.size=es.size:=by
   have:=S.fits
   unfold Z9 at this;rw [QL,beq_iff_eq]at this;exact this.1
  rw [m c]
  have h:gG w a ep es=es:=by unfold gG;rw [c,if_neg Qr]
  rw [h]at d;by_cases l:i<es.size
  ·have b:i<t.place.size:=by lia
   rw [Qx l,Qx b];refine d _ _ (Qx l) fun _=>N0 _ S.up ?_;rw [QA,Qx b]
  ·rw [Yx (by lia)];exact f (by lia)
theorem Rm(S:gS w s.heap a o es ep t)
  (h:Q (.ref s.heap.objs.size) { s with heap:=s.heap.push { cls:=.type "set_iterator",data:=.fields #[.int 0 0,.int 0 0,.ref a,.int (es.size:Nat) 0,.int (ep:Nat) 0] } }):Zb (Zc prog w) A (pyIter (.ref a)) Q E s:=by
 have b:s.TypeIs (.ref a) "set":=⟨o,S.get,S.ex.1⟩;refine wpAny_pyIter_slot b F.slot_set_iter (Yh F.slot_set_iter b F.set_iter_entry ?_ (F.args_set_iter_1 _));unfold Builtin.«frozenset.__iter__» Builtin.Frozenset.slot0 slotArgs;simp only [List.isEmpty_nil,Q0,Qg,↓reduceIte,bind_assoc,J4,bne_self_eq_false];unfold Z0 Uv;refine Qa (Qb ?_);refine Qa (Qb ?_);refine Qa (Qa (J1 S.get S.data S.fits (Qb ?_)));unfold setDrawn;refine Qa (Qa (QK S.get S.data S.fits ?_));dsimp only;refine Qa (vM ?_);refine Qb ?_
 have c:(!(w.params.followText "set-order") && (!t.plain && decide (es.size > 1)))=false:=by rw [S.plain];simp
 show Zb _ _ (if(!(w.params.followText "set-order") && (!t.plain && decide (es.size > 1)))=true then _ else _) _ _ s
 rw [c,if_neg Qr];refine Qa (Qb ?_);unfold setEpoch;refine Qa (Qa (QK S.get S.data S.fits (Qb ?_)));exact Qa (Yn (Qb ⟨_,rfl,"set_iterator",_,⟨_,Qy _ rfl,rfl⟩,F.si_next.lookup,h⟩))
theorem Sv(c:pK s.heap I a slot i es.size ep)(S:gS w s.heap a o es ep t)(k:w.params.followText "set-order"=false->ZC t.place slot=i)(g:i<es.size)
  (l:∀ x h' next,(gG w a ep es)[i]?=some x->(w.params.followText "set-order"=false->ZC t.place next=i+1)->pK h' I a next (i+1) es.size ep->Zk I s.heap h'->Q (some x.2) { s with heap:=h' }):
  Zb (Zc prog w) A (Uy (.ref I)) Q E s:=by
 obtain⟨p,b,j,f⟩:=id c;unfold Uy
 refine Qa (UV (Yt (name:=Z4 "__next__") c.typeIs F.si_next
  (Yh F.si_next c.typeIs F.si_next_entry ?_ (F.si_next_args _))))
 show Zb _ _ (fieldsOf (.ref I) >>= _) _ _ s
 refine Qa (Vg b f ?_);dsimp only;refine Qa (J1 S.get S.data S.fits ?_);rw [if_neg (by simp)];refine Qa (Gy (i:=i) (slot:=slot) S k (fun x next n m=>?_) fun h=>absurd g (by lia));dsimp only;refine Qa (JE b f (by simp) ?_);have e:=Ya (Obj.mapFields (·.setIfInBounds 0 (UR next))) b (JT (YW f _));have d:=YW f (fun x=>x.setIfInBounds 0 (UR next));refine Qa (JE e d (by simp) (Qb ⟨_,rfl,Qb (l x _ next n m ?_ ((QW ..).trans (QW ..)))⟩))
 refine⟨_,Ya _ e (JT (YW d _)),((UL ..).trans (UL ..)).trans j,?_⟩
 rw [YW d]
 simp [UR]
theorem Su(e:A.handled=none)(c:pK s.heap I a slot es.size es.size ep)(S:gS w s.heap a o es ep t)(h:w.params.followText "set-order"=false->ZC t.place slot=es.size)
  (j:∀ h',Heap.ExtBut I s.heap h'->Q none { s with heap:=h' }):
  Zb (Zc prog w) A (Uy (.ref I)) Q E s:=by
 obtain⟨k,d,l,f⟩:=id c;unfold Uy
 refine Qa (UV (Yt (name:=Z4 "__next__") c.typeIs F.si_next
  (Yh F.si_next c.typeIs F.si_next_entry ?_ (F.si_next_args _))))
 show Zb _ _ (fieldsOf (.ref I) >>= _) _ _ s
 refine Qa (Vg d f ?_);dsimp only;refine Qa (J1 S.get S.data S.fits ?_);rw [if_neg (by simp)];refine Qa (Gy (i:=es.size) (slot:=slot) S h (fun x next g n=>?_) fun _=>?_)
 ·rw [Yx (by rw [x3];exact Qm _)]at g;cases g
 dsimp only;refine Qa (JE d f (by simp) ?_)
 show Zb _ _ (newExc (.type "StopIteration") [] >>= _) _ _ _
 refine Qa ?_;simp only [newExc,newTuple];refine Qa (Yn ?_ (by size_fits));refine Qa (m:=Ug _ _) (UZ (a:=Zz) (by first | rfl | (simp only [Ug];rfl)) ?_);refine Yn ?_ (by size_fits);simp only [raiseNew];refine Qa (wpAny_handled ?_)
 first | rw [show A.in1.handled=none from e] | rw [e]
 refine Qa (Qb (wpAny_throw ?_));refine Qa (Je (T:="StopIteration") (b:=true) ⟨_,Qy _ rfl,rfl⟩ isSubtype_stop ?_);exact Qb (j _ (((QW ..).extBut.push _).push _))
theorem Walks.set(u:A.handled=none)(I a:J8)(j:a≠I)(o:Obj)(es:Array (Int × YP))(ep:Nat)(t:SetTable):
  Walks prog w A I [I,a] [I] es.size (fun i v=>∃ x,(gG w a ep es)[i]?=some x/\v=x.2) (fun i h=>∃ slot,(w.params.followText "set-order"=false->ZC t.place slot=i)/\pK h I a slot i es.size ep/\gS w h a o es ep t) where
 sub:=fun b d=>by simp at d;simp [d]
 frame:=fun _ _ _ ⟨slot,f,⟨q,B,z,y⟩,S⟩ m=>⟨slot,f,⟨q,m I (by simp) _ B,z,y⟩,S.at (m a (by simp) _ S.get)⟩
 item:=fun i s Q E r ⟨slot,f,c,S⟩ g=>
  Sv c S f r fun x l next J H G n=>g _ l s.toks ⟨x,J,rfl⟩ ⟨next,H,G,S.at ((n.2 a j).trans S.get)⟩ fun b o d e=>n.extBut b o (fun h=>d (by simp [h])) e
 done:=fun s Q E ⟨slot,f,c,S⟩ g=>Su u c S f fun l k=>g l s.toks fun b o d e=>k b o (fun h=>d (by simp [h])) e
 self:=fun i s Q E p g=>by
  obtain⟨slot,f,c,S⟩:=p;refine wpAny_pyIter_slot c.typeIs F.si_iter (Yh F.si_iter c.typeIs F.si_iter_entry ?_ (F.si_iter_args _))
  show Zb _ _ (ret (.ref I)) _ _ s
  exact Qb ⟨_,rfl,"set_iterator",_,c.typeIs,F.si_next.lookup,g⟩
end
section
variable {prog:Zd}{w:Zf}{A:Around}{E:YP->J9->Prop}{s:J9}
theorem Ra(c:s.TypeIs (.ref r) "set")(h:Q false s):Zb (Zc prog w) A (Builtin.List.listLengthHint (.ref r)) Q E s:=by
 unfold Builtin.List.listLengthHint;refine Qa (Jv c PySem.F.slot_set_len.lookup ?_);generalize hid:("set.__len__":String)=a
 wp_delta
 rw [show splitId a=some ("set","__len__")from by subst hid;decide +kernel];subst hid;refine Qa (Je (T:="set") (b:=true) c (by rw [UK];kernel_rfl) ?_);refine wpAny_ite_split (fun z=>absurd z (by decide)) fun _=>wpAny_ite_split (fun _=>?_) fun z=>absurd (by decide +kernel) z;exact Qa (Jg c (Qb h))
theorem Hs(a:J8)(o:Obj)(es:Array (Int × YP))(ep:Nat)(t:SetTable):PySem.W.KdlSrc prog w "set" a a es.size (fun i v=>∃ x,(gG w a ep es)[i]?=some x/\v=x.2) (fun h=>gS w h a o es ep t) where
 type:=fun s S=>⟨o,S.get,S.ex.1⟩
 there:=fun h S=>⟨Qs S.get,Qs S.get⟩
 keep:=fun h e S b=>S.at (b a (.inl rfl) o S.get)
 notList:=by decide
 notTuple:=by decide
 hint:=fun A E s Q S h=>Ra ⟨o,S.get,S.ex.1⟩ h
 iter:=fun A s c S=>⟨_,_,fun E Q d=>Rm S d,Walks.set c _ a (Qz (Qs S.get)) o es ep t,⟨0,fun _=>N1 _ S.up,⟨_,Qy _ rfl,rfl,rfl⟩,S.at (Qh _ S.get)⟩⟩
theorem Fa(h:ItemsOf (fun i v=>∃ x,(gG w a ep es)[i]?=some x/\v=x.2) acc es.size):acc.toList=(gG w a ep es).toList.map (·.2):=by
 refine List.ext_getElem? fun i=>?_;rw [QE,QA,QA];by_cases l:i<es.size
 ·have b:i<acc.size:=by rw [h.1];exact l
  obtain⟨x,d,c⟩:=h.2 i _ (Qx b);rw [d,Qx b,c];rfl
 ·rw [Yx (by rw [h.1];lia),Yx (by rw [x3];lia)];rfl
theorem Ents.perm(p:List.Perm es es'):∀{ks:List (List Int)},Ents prog w h es ks->∃ ks',Ents prog w h es' ks'/\List.Perm ks' ks:=by
 induction p with
 | nil=>intro ks X;exact⟨ks,X,.refl _⟩
 | cons x _ g=>
  intro ks X
  cases X with
  | cons c r=>
   obtain⟨ks',m,q⟩:=g r
   exact⟨_,.cons c m,q.cons _⟩
 | swap x y l=>
  intro ks X
  cases X with
  | cons c r=>cases r with
   | cons i r=>exact⟨_,.cons i (.cons c r),.swap _ _ _⟩
 | trans _ _ b a=>
  intro ks X;obtain⟨n,k,e⟩:=b X;obtain⟨f,j,d⟩:=a k
  exact⟨f,j,d.trans e⟩
theorem ItemsAre.unique:∀{k k':List Int}{vs:List YP},ItemsAre (Vh prog w) k vs->ItemsAre (Vh prog w) k' vs->k=k'
 | _,_,_,.nil,h=>by cases h;rfl
 | _,_,_,.cons h1 r1,h=>by
  cases h with
  | cons c b=>
   obtain⟨f,d⟩:=UD h1;obtain⟨e,a⟩:=UD c;rw [d]at a;cases a;rw [ItemsAre.unique r1 b]
theorem TK.unique(x:TK prog w h k a)(y:TK prog w h k' a):k=k':=by
 obtain⟨o,e,n,g,_,j,i⟩:=x;obtain⟨l,d,m,b,_,c,f⟩:=y;rw [g]at b;cases b;rw [j]at c;cases c;exact ItemsAre.unique i f
def Kz(prog:Zd)(w:Zf)(V:YP->Prop)(h:Heap)(a:J8)(o:Obj)(b:List (List Int)):Prop:=
 ∃ es ep t,gS w h a o es ep t/\Ents prog w h es.toList b/\b.Nodup/\∀ e∈es.toList,V e.2
end
end ST
namespace SL
open PySem.Spec L2 CL DL SD ST
def eW(k:List Int):D:=.tuple (k.map Zh)
section
variable {X:Cx}{pins:List (J8 × Obj)}{σ:L2.St}{H:Hp}{s:J9}
abbrev VT(K:PySem.W.Frag)(H:Hp)(v:YP):Prop:=∃ b,∃ xs:List Int,v=.ref b/\bL K H b (xs.map V.int)
def KB(X:Cx)(b:List (J8 × Obj))(d:L2.St)(Q:qN)(u:YP)(c:J9):Prop:=
 ∃ a o ks H',u=.ref a/\Inv X ((a,o)::b) d H' c/\Kz X.prog X.w (VT X.K H') c.heap a o ks/\Q ks H'
def Dd(X:Cx)(e:Expr)(t:uD):Prop:=
 ∀(pins:List (J8 × Obj)) (s:J9) (σ:L2.St) (H:Hp) (Q:qN),Inv X pins σ H s->t σ H Q->Zb (Zc X.prog X.w) X.A (Zr e X.env) (KB X pins σ Q) X.xe s
def yL(X:Cx)(e:Expr)(g:aA->Option (List (List Int))):Prop:=Dd X e (DU X.K g)
theorem Vx(h:qO X e t):Dd X e t:=fun b s g H Q I q=>aW (h b s g H Q I q) fun u p i=>by
 obtain⟨a,o,r,y,v,I1,S,_,q⟩:=i;obtain⟨z,w,x,t,f,n,m,d,c,l,k,j⟩:=S;have e:p.heap.get? a=some o:=(I1.pin (a,o) (Qu _ Qk)).1;rw [f]at e;cases e
 exact⟨a,o,r,y,v,I1,⟨w,x,t,⟨f,n,m,d.fits (by simp),d.up,c.1,c.2⟩,l,k,j⟩,q⟩
theorem OP(h:t0 X e g):yL X e g:=Vx h
theorem rT(I:Inv X pins σ H s):∀{es:List (Int × YP)}{ks:List (List Int)},Ents X.prog X.w s.heap es ks->(∀ e∈es,VT X.K H e.2)->∃ vs:List V,Reps X.K F H (ks.map eW) vs/\Vals vs (es.map (·.2))
 | _,_,.nil,_=>⟨[],.nil,.nil⟩
 | _,_,.cons (k:=k) (b:=b) h1 r,hv=>by
  obtain⟨vs,d,c⟩:=rT (F:=F) I r fun e f=>hv e (Qf _ f);obtain⟨h,xs,g,a⟩:=hv _ Qk;cases g
  have:k=xs:=h1.unique (kH I a)
  subst this
  exact⟨.ref b::vs,.cons (.tup a (p9 k)) d,.cons rfl c⟩
end
theorem HG(p:List.Perm ds ds'):∀{l:List KD},eJ d0 ds=some l->∃ l',eJ d0 ds'=some l'/\List.Perm l' l:=by
 induction p with
 | nil=>intro l h;exact⟨l,h,.refl _⟩
 | cons x _ o=>
  intro l h;obtain⟨k,f,h⟩:=aE h;obtain⟨r,e,h⟩:=aE h;cases h;obtain⟨l',b,a⟩:=o e
  exact⟨(k,x)::l',by unfold eJ;rw [f,b];rfl,a.cons _⟩
 | swap x y u=>
  intro l h;obtain⟨k,f,h⟩:=aE h;obtain⟨r,e,h⟩:=aE h;cases h;obtain⟨n,s,h⟩:=aE e;obtain⟨g,q,h⟩:=aE h;cases h
  exact⟨(n,x)::(k,y)::g,by unfold eJ;rw [s];unfold eJ;rw [f,q];rfl,.swap _ _ _⟩
 | trans _ _ d c=>
  intro l h;obtain⟨t,b,a⟩:=d h;obtain⟨m,j,i⟩:=c b
  exact⟨m,j,i.trans a⟩
theorem HY(h:eJ d0 ds=some l)(h':eJ d0 ds'=some l')(p:List.Perm l' l):eK l'=eK l:=by
 refine xC (((lE l').trans p).trans (lE l).symm) (pO l') (pO l) fun a f b d e=>?_;have r:=(Bk h').2;have c:=r a ((lE l').mem_iff.mp f);have g:=r b ((lE l').mem_iff.mp d);rw [e]at c;exact JL e (mI c g)
def nV(g:aA->Option (List (List Int))):aA->Option D:=fun a=>(g a).bind fun b=>jG [.list ((dd b).map eW)]
section
variable {X:Cx}{e:Expr}{p pos:Pos}{g:aA->Option (List (List Int))}
theorem FI(hc:X.calm=true)(hu:X.A.units+66<Zi)(hg:Gl X x)(hm:X.mg x=none)(hv:ZD x=some (.builtin "sorted"))(ha:yL X e g)(hn:x≠"__name__":=by decide)(R:(x == ("__debug__":Str))=false:=by decide)
  (he:Za [e] X.env=(false,Zr e X.env)::Za [] X.env:=by rfl) (hpl:(Zw pos (Za [] X.env)).any (·.1)=false:=by rfl):
  DE X (.Call (.Name x p) [e] [] pos) (nV g):=by
 intro i s U H Q I ⟨F,y,ρ,d,S,q,k⟩;obtain⟨h,e1,q⟩:=aE q;refine YT (kE I hg hm hv ?_ hn R);refine JB (Q:=?_) ?_ he hpl;rw [he]
 show Zb _ _ (spliced ((false,Zr e X.env)::Zw pos (Za [] X.env))) _ _ s
 refine Calls.spliced_cons (aW (ha i s U H (fun n J=>n.Nodup/\(∀ k,k∈n ↔ k∈h)/\∃ B,aI F B H J) I ⟨F,y,ρ,h,S,e1,fun B J n E1 M N=>⟨M,N,B,E1⟩⟩) fun u s1 zz=>?_);obtain⟨a,o,n,J,eu,I1,⟨G,T,t,S1,X1,M,v1⟩,_,N,B,E1⟩:=zz;refine Calls.spliced_nil ?_;subst eu;refine Uk kind_sorted plain_sorted entry_sorted (args_sorted1 _) ?_;unfold Builtin.«sorted»;have K:List.Perm n (dd h):=(Js M (Bw h)).mpr fun k=>(N k).trans xO.symm
 have a0:G.size=(dd h).length:=by rw [<- Qd,X1.length,K.length_eq]
 have a3:(dd h).length<=1000:=by
  cases c:dd h with
  | nil=>decide
  | cons O j=>
   rw [c]at q;have f:(if(j.map eW).length<1000 then _ else none)=some d:=q;by_cases z:(j.map eW).length<1000
   ·rw [Qi]at z;simp;lia
   ·rw [if_neg z]at f;cases f
 refine Qa (m:=checkCount "sorted" 1 1 _) (Qb (Qa (PySem.W.kdu_collect (Hs a o G T t) (by simp [I1.ok.hd hc]) S1 (gJ (by lia)) fun h' tk a5 hk r=>?_)));have I2:Inv X i U J { s1 with heap:=h',toks:=tk }:=(I1.pins_of fun p E=>I1.pin p (Qu _ (Qf _ E))).kept hk;obtain⟨a4,X2,p2⟩:=(X1.mono fun k b x=>x.at fun o e=>hk b o e).perm (mH X.w a T G).symm;obtain⟨vs,r1,Y⟩:=rT (F:=B) I2 X2 fun e he=>v1 e ((mH X.w a T G).mem_iff.mp he);rw [<- Fa r]at Y
 have v:∃ d0 l,eJ d0 ((dd h).map eW)=some l/\d=.list ((eK l).map (·.2)):=by
  cases c:dd h with
  | nil=>rw [c]at q;cases q;exact⟨[],[],rfl,rfl⟩
  | cons O j=>
   rw [c]at q;have f:(if(j.map eW).length<1000 then(eJ (O.map Zh) ((O::j).map eW)).bind fun l=>some (ZY ((eK l).map (·.2)))else none)=some d:=q;by_cases z:(j.map eW).length<1000
   ·rw [if_pos z]at f;obtain⟨l,e2,f⟩:=aE f;cases f
    exact⟨_,l,e2,rfl⟩
   ·rw [if_neg z]at f;cases f
 obtain⟨d0,l,f1,rfl⟩:=v;obtain⟨l',f2,f3⟩:=HG ((p2.trans K).map eW).symm f1;refine Cq hu I2 Y r1 f2 (by rw [Qi,(p2.trans K).length_eq];lia) fun p a2 E Z _=>?_;rw [HY f1 f2 f3]at Z;exact k _ _ _ (E1.trans (aI.frozen E)) (aS.newLst E Z)
end
end SL
namespace SL
open PySem.Spec L2 CL DL SD
section
variable {X:Cx}{e st:Expr}{p2 pos:Pos}
end
end SL
namespace TL
open PySem.Spec L2 HT
theorem SF:fillsNumberSlot (.type "tuple") "mul"=pure false:=
 PySem.fillsNumberSlot_seq (id:="tuple.__mul__") (r:=some (.builtin "tuple.__rmul__")) PySem.F.slot_tuple_mul.lookup (by decide +kernel) PySem.F.slot_tuple_rmul.lookup (by decide +kernel)
theorem Tp:seqRepeat? (.type "tuple")=pure (some (.builtin "tuple.__mul__")):=by
 unfold seqRepeat?;rw [PySem.seqSlot_of (T:="tuple") (name:="__mul__") (id:="tuple.__mul__") PySem.F.slot_tuple_mul.lookup (by decide +kernel),PySem.seqSlot_of (T:="tuple") (name:="__rmul__") (id:="tuple.__rmul__") PySem.F.slot_tuple_rmul.lookup (by decide +kernel)];rfl
theorem Tq(a:Int)(t:Tok)(l:J8)(b:Array YP)(n:Nat)(dd:Option J8)(e:Array (Option YP)):
  Meets (Builtin.«int.__rmul__» ⟨[.int a t,.ref l],[]⟩) (fun _ R s=>s.heap.get? l=some { cls:=.type "tuple",dict:=dd,data:=.seq b n,slots:=e }/\R (.ok (.ret Value.notImplemented)) s):=
 .of_wp fun c w A R s h=>by
  obtain⟨j,g,d,f,i⟩:=s;obtain⟨k,h⟩:=h
  wp_walk
  exact⟨_,rfl,h⟩
theorem Sc(t:Tok)(l:J8)(items:Array YP)(n:Nat)(dd:Option J8)(c:Array (Option YP))(a:items.isEmpty=false)(hsz:items.size+items.size<=16777216):
  Meets (Builtin.«tuple.__mul__» ⟨[.ref l,.int 2 t],[]⟩) (fun _ R s=>s.heap.get? l=some { cls:=.type "tuple",dict:=dd,data:=.seq items n,slots:=c }/\R (.ok (.ret (Ze s.heap.objs.size))) { s with heap:=s.heap.push { cls:=ZK "tuple",data:=Data.seq (items++items) },toks:=s.toks }):=
 .of_wp fun b w A R s h=>by
  obtain⟨q,g,d,o,p⟩:=s;obtain⟨e,h⟩:=h;have r:=AutoSeq1.idx_int
  have v:(items.isEmpty || (2:Int) == 1)=false:=by rw [a];rfl
  have u:(decide ((2:Int)<=0) || items.isEmpty)=false:=by rw [a];rfl
  have k:¬ ((items.size:Int) * 2 > (2 ^ 63-1) / 8):=by
   have:((2:Int) ^ 63-1) / 8=1152921504606846975:=by decide
   lia
  have j:Builtin.Tuple.tupleTooMany ((items.size:Int) * 2)=false:=by
   unfold Builtin.Tuple.tupleTooMany;rw [Q5];exact decide_eq_false (by lia)
  have i:(List.replicate ((2:Int).toNat) items).foldl (fun x y=>x++y) #[]=items++items:=by
   show(#[]++items)++items=items++items
   simp
  have f:sizeOk (.seq (items++items)):=by
   show(items++items).size<=sizeLine
   rw [Array.size_append,Q5];exact hsz
  unfold Builtin.«tuple.__mul__»
  wp_walk using ZP e
  rw [if_neg k];dsimp only;rw [j,if_neg Qr,i];exact Qa (m:=ZN _) (Yn (Qb ⟨_,rfl,h⟩) f)
section
variable {prog:Zd}{w:Zf}{A:Around}{E:YP->J9->Prop}{s:J9}
theorem Sd(j:IsTup s.heap t vs.toArray)(i:vs≠[])(hz:vs.length+vs.length<=16777216)
  (h:Q (.ref s.heap.objs.size) { s with heap:=s.heap.push { cls:=.type "tuple",data:=.seq (vs++vs).toArray } }):Zb (Zc prog w) A (ZH .Mult (.ref t) (.int 2 u)) Q E s:=by
 obtain⟨⟨cls,dd,data,c⟩,a,f,n,d⟩:=id j
 simp only at f d
 subst f d
 have b:vs.toArray.isEmpty=false:=by cases vs with
  | nil=>exact absurd rfl i
  | cons _ _=>rfl
 have e:vs.toArray++vs.toArray=(vs++vs).toArray:=by simp
 refine wpAny_binaryOp_repeat_ref (T:="tuple") (U:="int") (by decide) ⟨_,a,rfl⟩ (fun g=>typeIs_int g 2 u) SF PySem.F.fills_int_mul PySem.F.slot_int_rmul Tp PySem.F.slot_int_index.lookup
  (call_meets PySem.F.slot_int_rmul (typeIs_int s 2 u) PySem.F.entry_int_rmul (PySem.F.args_int_rmul_2 _ _) (Tq 2 u t vs.toArray n dd c)
   ⟨a,rfl,⟨_,a,rfl⟩,call_meets PySem.F.slot_tuple_mul ⟨_,a,rfl⟩ PySem.F.entry_tuple_mul (PySem.F.args_tuple_mul_2 _ _) (Sc u t vs.toArray n dd c b (by simpa using hz)) ⟨a,?_⟩⟩)
 rw [e];exact h
theorem NQ{t b:J8}{i:List YP}{Q:YP->J9->Prop}(r:IsTup s.heap t #[])(u:IsTup s.heap b i.toArray)(h:Q (.ref b) s):Zb (Zc prog w) A (ZH .Add (.ref t) (.ref b)) Q E s:=by
 obtain⟨⟨v,dd,m,p⟩,j,l,n,k⟩:=id r;obtain⟨⟨o,f,g,e⟩,a,d,q,c⟩:=id u
 simp only at l k d c
 subst l k d c;exact concat_meets ⟨_,j,rfl⟩ ⟨_,a,rfl⟩ noFill_tuple_add seq_tuple_add PySem.F.slot_tuple_add PySem.F.entry_tuple_add (PySem.F.args_tuple_add_2 _ _) (tuple_addW0 t b #[] i.toArray n q dd f p e rfl) ⟨j,a,h⟩
theorem NR{t b:J8}{vs a:List YP}{Q:YP->J9->Prop}(r:s.heap.IsList t vs.toArray)(u:s.heap.IsList b a.toArray)(hz:vs.length+a.length<=sizeLine)
  (h:Q (.ref s.heap.objs.size) { s with heap:=s.heap.push { cls:=.type "list",data:=.seq (vs++a).toArray } }):Zb (Zc prog w) A (ZH .Add (.ref t) (.ref b)) Q E s:=by
 obtain⟨⟨cls,dd,data,p⟩,k,m,n,l⟩:=id r;obtain⟨⟨o,i,j,g⟩,c,f,q,d⟩:=id u
 simp only at m l f d
 subst m l f d
 have e:vs.toArray++a.toArray=(vs++a).toArray:=by simp
 refine concat_meets ⟨_,k,rfl⟩ ⟨_,c,rfl⟩ noFill_list_add seq_list_add PySem.F.slot_list_add PySem.F.entry_list_add (PySem.F.args_list_add_2 _ _) (list_addW t b vs.toArray a.toArray n q dd i p g (by simpa using hz)) ⟨k,c,?_⟩;rw [e];exact h
theorem VW{t c:J8}{a:Array YP}{i g:YP}{j l:Option Int}{Q:YP->J9->Prop}(b:IsTup s.heap t a)(hs:s.heap.IsSliceOf c i g .none)(pl:Vr i j)(m:Vr g l)
  (k:sIx a.size 0 j=0/\sIx a.size a.size l=a.size) (h:Q (.ref t) s):Zb (Zc prog w) A (getItem (.ref t) (.ref c)) Q E s:=by
 obtain⟨n,d,e,o⟩:=id hs;have f:s.TypeIs (.ref c) "slice":=⟨n,d,e⟩;unfold getItem
 try with_reducible refine Q7 ?_
 first | refine Qa (Qb ?_) | skip
 refine Qa (wpAny_sequenceKey b.typeIs (by decide) ?_)
 refine Qa (Yt (name:=Z4 "__getitem__") b.typeIs Ja
  (Yh Ja b.typeIs entry_tuple_getitem ?_ (args_tuple_getitem _ _)))
 show Zb _ _ (Ue (.ref t) >>= _) _ _ s
 refine Qa (tupleItemsOf_ b (Qa (Jg f ?_)));rw [if_pos (by decide)];refine Qa (HU hs pl m ?_);rw [k.1,k.2]
 show Zb _ _ (if(((0:Nat):Int) == 0 && (1:Int) == 1 && (a.size-0) == a.size)=true then _ else _) _ _ s
 rw [if_pos (by simp)];unfold Builtin.Tuple.tupleIsExact;refine Qa (Qa (Jg b.typeIs (Qb ?_)));rw [if_pos (by decide)];exact Qa (Jm (Qb ⟨_,rfl,Qb h⟩))
end
end TL
namespace SL
open PySem.Spec L2 CL DL SD TL
section
variable {X:Cx}{e st:Expr}{p2 pos:Pos}
theorem R0:bH X (ZH .Mult) (fun x y H Q=>∃ a xs,x=.ref a/\y=.int 2/\bL X.K H a xs/\xs≠[]/\xs.length<=1000/\∀ p,H p=none->Q (.ref p) (aJ H p (.tup (xs++xs)))):=by
 intro d s l H x y v u Q I f e h;obtain⟨a,xs,rfl,rfl,k,j,n,q⟩:=h;cases f;obtain⟨t,rfl⟩:=e;obtain⟨i,c,g,_⟩:=I.tuple k;refine Sd g (fun z=>j (c.nil_iff.mp z)) (by rw [<- c.length];lia) ?_
 refine⟨.ref s.heap.objs.size,_,I.laid (t':=s.toks) (o:=.tup (xs++xs)) (fun b m q=>Qh _ q) (Qm _) ?_,rfl,q _ (I.hok.fresh (Qm _))⟩
 exact⟨by rw [Qo,Q5];lia,_,c.append c,IsTup.new _ _⟩
theorem RY:bH X (ZH .Add) (fun x y H Q=>∃ a b ys,x=.ref a/\y=.ref b/\bL X.K H a []/\bL X.K H b ys/\Q (.ref b) H):=by
 intro c s n H x y v u Q I f e h;obtain⟨a,b,ys,rfl,rfl,m,l,q⟩:=h;cases f;cases e;obtain⟨k,g,j,_⟩:=I.tuple m;obtain⟨d,o,i,_⟩:=I.tuple l;cases g;exact NQ j i ⟨.ref b,H,I,rfl,q⟩
theorem RZ:bH X (ZH .Add) (fun x y H Q=>∃ a b xs ys,x=.ref a/\y=.ref b/\bV X.K H a xs/\bV X.K H b ys/\xs.length+ys.length<=1000/\∀ p,H p=none->Q (.ref p) (aJ H p (.lst (xs++ys)))):=by
 intro e s t H x y v u Q I j i h;obtain⟨a,b,xs,ys,rfl,rfl,r,n,g,q⟩:=h;cases j;cases i;obtain⟨m,d,l,_⟩:=I.list r;obtain⟨f,c,k,_⟩:=I.list n;refine NR l.isList k.isList (by rw [<- d.length,<- c.length];exact gJ g) ?_
 refine⟨.ref s.heap.objs.size,_,I.laid (t':=s.toks) (o:=.lst (xs++ys)) (fun b w q=>Qh _ q) (Qm _) ?_,rfl,q _ (I.hok.fresh (Qm _))⟩
 exact⟨by rw [Qo];exact gJ g,_,0,d.append c,Qy _ rfl⟩
theorem S9:lJ X (fun x lo hi H Q=>∃ a xs,x=.ref a/\bL X.K H a xs/\(HT.sIx xs.length 0 lo=0/\HT.sIx xs.length xs.length hi=xs.length)/\Q (.ref a) H):=by
 intro d s m H x v o n lo hi p Q I f l i g h;obtain⟨a,xs,rfl,j,k,q⟩:=h;cases f;obtain⟨c,r,e,t⟩:=I.tuple j
 have b:c.toArray.size=xs.length:=by rw [QH];exact r.length.symm
 exact⟨"tuple",_,Ja.lookup,e.typeIs,VW e l i g (by rw [b];exact k) ⟨.ref a,H,I,rfl,q⟩⟩
def K9:D->Option Int->Option Int->Option D
 | .list xs,lo,hi=>some (.list (DL.cutD xs lo hi))
 | .tuple xs,lo,hi=>some (.tuple (DL.cutD xs lo hi))
 | _,_,_=>none
def oP(ga:aA->Option D)(b c:aA->Option (Option Int)):aA->Option D:=fun a=>(ga a).bind fun d=>(b a).bind fun l=>(c a).bind fun h=>K9 d l h
theorem Pb{xs:List D}{a b:Option Int}(h:HT.sIx xs.length 0 a=0/\HT.sIx xs.length xs.length b=xs.length):DL.cutD xs a b=xs:=by
 unfold DL.cutD;rw [h.1,h.2,List.drop_zero,Nat.sub_zero,List.take_length]
theorem AE{a:Expr}{g i:Option Expr}{ga:aA->Option D}{j m:aA->Option (Option Int)}(s:DE X a ga)(o:DO X g j)(r:DO X i m):DE X (.Subscript a (.Slice g i none p2) pos) (oP ga j m):=
 cR (RB (SW.or (SX.or S9)) s o r) fun B H Q n=>by
  obtain⟨F,b,f,d,S,q,k⟩:=n;obtain⟨x,w,q⟩:=aE q;obtain⟨l,u,q⟩:=aE q;obtain⟨h,t,q⟩:=aE q
  refine⟨F,b,f,x,S,w,fun A I v E1 R1=>⟨A,b,f,l,S.ext E1,u,fun z G E2=>⟨z,b,f,h,(S.ext E1).ext E2,t,fun J E E3=>?_⟩⟩⟩
  have y:=(R1.stay E2.stay).stay E3.stay;have E123:=E1.trans (E2.trans E3)
  cases y with
  | @lst a' vs ds h1 r1=>
   cases q;exact .inl ⟨a',vs,rfl,h1.sq,fun p e=>k _ _ _ (E123.trans (aI.frozen e)) (aS.newLst e (r1.cut l h))⟩
  | @tup a' vs ds h1 r1=>
   cases q;by_cases c:HT.sIx ds.length 0 l=0/\HT.sIx ds.length ds.length h=ds.length
   ·rw [Pb c]at k;exact .inr (.inr ⟨a',vs,rfl,h1,by rw [<- r1.length];exact c,k _ _ _ E123 (.tup h1 r1)⟩)
   ·exact .inr (.inl ⟨a',vs,rfl,h1,by rw [<- r1.length];exact c,fun p e=>k _ _ _ (E123.trans (aI.fresh e)) (aS.newTup e (r1.cut l h))⟩)
  | non=>cases q
  | dct _ _ _ _ _=>cases q
  | exn _ _ _=>cases q
  | bl _=>cases q
  | int _=>cases q
  | str _=>cases q
def cB:D->D->Option D
 | .int i,.int j=>some (.int (i+j))
 | .tuple xs,.tuple ys=>if xs.length+ys.length<=1000 then some (.tuple (xs++ys))else none
 | .list xs,.list ys=>if xs.length+ys.length<=1000 then some (.list (xs++ys))else none
 | _,_=>none
theorem Bv{c b:Type}{xs:List c}{a:List b}(h:xs.length=a.length)(e:a=[]):xs=[]:=by subst e;exact JH h
theorem dG:bH X (ZH .Add) (cE X.K cB):=qF (RM.or (RN.or (RY.or RZ))) fun x y H Q l=>by
 obtain⟨F,d,e,q,z,j,R2,f,k⟩:=l;unfold cB at f
 split at f
 ·cases f;cases j;cases R2;exact .inl ⟨_,_,rfl,rfl,k F H _ (aI.refl F H) (.int _)⟩
 ·rename_i i h;by_cases c:i.length+h.length<=1000
  ·rw [if_pos c]at f;cases f
   cases j with
   | @tup a vs _ h1 r1=>
    cases R2 with
    | @tup b us _ h2 r2=>
     by_cases n:vs=[]
     ·subst n
      have:i=[]:=Bv r1.length rfl
      subst this;exact .inr (.inr (.inl ⟨a,b,us,rfl,rfl,h1,h2,k F H _ (aI.refl F H) (.tup h2 r2)⟩))
     ·refine .inr (.inl ⟨a,b,vs,us,rfl,rfl,h1,h2,n,gJ (by rw [<- r1.length,<- r2.length];exact c),fun e=>?_,fun e p g=>?_⟩)
      ·have:h=[]:=Bv r2.length e
       subst this;rw [QP]at k;exact k F H _ (aI.refl F H) (.tup h1 r1)
      ·exact k F _ _ (aI.fresh g) (aS.newTup g (r1.append r2))
  ·rw [if_neg c]at f;cases f
 ·rename_i i h;by_cases c:i.length+h.length<=1000
  ·rw [if_pos c]at f;cases f
   cases j with
   | @lst a vs _ h1 r1=>
    cases R2 with
    | @lst b us _ h2 r2=>
     exact .inr (.inr (.inr ⟨a,b,vs,us,rfl,rfl,h1.sq,h2.sq,by rw [<- r1.length,<- r2.length];exact c,fun p g=>k _ _ _ (aI.frozen g) (aS.newLst g (r1.append r2))⟩))
  ·rw [if_neg c]at f;cases f
 ·cases f
def cH:D->D->Option D
 | .int i,.int j=>if k7 i j=true then some (.int (i * j))else none
 | .tuple xs,.int j=>if j=2/\xs≠[]/\xs.length<=500 then some (.tuple (xs++xs))else none
 | _,_=>none
theorem fA:bH X (ZH .Mult) (cE X.K cH):=qF ((RU (X:=X)).or R0) fun x y H Q i=>by
 obtain⟨F,d,e,q,z,h,R2,b,k⟩:=i;unfold cH at b
 split at b
 ·exact .inl ⟨F,_,_,q,z,h,R2,b,k⟩
 ·rename_i f j;by_cases c:j=2/\f≠[]/\f.length<=500
  ·rw [if_pos c]at b;cases b;obtain⟨rfl,l,m⟩:=c;cases R2
   cases h with
   | @tup a vs _ h1 r1=>
    exact .inr ⟨a,vs,rfl,rfl,h1,fun e=>l (Bv r1.length e),by rw [<- r1.length];lia,fun p g=>k F _ _ (aI.fresh g) (aS.newTup g (r1.append r1))⟩
  ·rw [if_neg c]at b;cases b
 ·cases b
def oK:D->D->Option D
 | .int i,.int j=>some (.bool (decide (i<j)))
 | .tuple xs,.tuple ys=>(cX xs).bind fun a=>(cX ys).bind fun b=>some (.bool (HT.lexLt a b))
 | _,_=>none
theorem xZ(j:X.A.units+64<Zi):bH X (Zm .Lt) (cE X.K oK):=qF (Mo.or (RP (by lia))) fun x y H Q g=>by
 obtain⟨F,d,e,q,z,f,R2,c,k⟩:=g;unfold oK at c
 split at c
 ·cases c;cases f;cases R2;exact .inl ⟨_,_,rfl,rfl,k F H _ (aI.refl F H) (.bl _)⟩
 ·obtain⟨a,i,c⟩:=aE c;obtain⟨b,h,c⟩:=aE c;cases c
  cases f with
  | @tup u vs _ h1 r1=>
   cases R2 with
   | @tup u' us _ h2 r2=>
    rw [mG r1 i]at h1;rw [mG r2 h]at h2;exact .inr ⟨u,u',a,b,rfl,rfl,h1,h2,k F H _ (aI.refl F H) (.bl _)⟩
 ·cases c
end
end SL
namespace EL
open PySem.Spec L2 DL ZL
open AutoSeq1 (wpAny_loadPart')
theorem Sr(l:J8)(items:Array YP)(n:Nat)(b:Option J8)(k:Array (Option YP)):
  Meets (Builtin.«enumerate.__new__» ⟨[.type "enumerate",.ref l],[]⟩) (fun _ R s=>s.heap.get? l=some { cls:=.type "tuple",dict:=b,data:=.seq items n,slots:=k } /\
   R (.ok (.ret (.ref (s.heap.push { cls:=.type "tuple_iterator",data:=.fields #[.ref l,.int 0 0] }).objs.size)))
    { s with heap:=(s.heap.push { cls:=.type "tuple_iterator",data:=.fields #[.ref l,.int 0 0] }).push { cls:=.type "enumerate",data:=.fields #[.none,.bool false,.ref s.heap.objs.size,UR 0,.none,.none] } }):=
 .of_wp fun e w A R s h=>by
  obtain⟨o,g,d,j,m⟩:=s;obtain⟨a,h⟩:=h;have f:=sub_enumerate;have i:Heap.IsTuple (Shared.heap ⟨o,g,d,j,m⟩) l items:=⟨_,a,rfl,n,rfl⟩
  wp_walk using ZP a
  refine wpAny_stack_any fun p=>Qb ?_;split
  ·rename_i c _ _ _ _ _
   cases(c == ZK "enumerate") <;> (wp_walk using ZP a,UA i;exact⟨_,rfl,h⟩)
  ·wp_walk using ZP a,UA i
   exact⟨_,rfl,h⟩
section
variable {prog:Zd}{w:Zf}{A:Around}{E:YP->J9->Prop}{s:J9}
theorem N8(m:s.heap.IsTuple l items)
  (h:∀ h',IsEnum h' (s.heap.objs.size+1) s.heap.objs.size 0 .none->h'.IsTupleIter s.heap.objs.size l 0->h'.objs.size=s.heap.objs.size+2->
   (∀ b o,s.heap.get? b=some o->h'.get? b=some o)->Q (.ref (s.heap.objs.size+1)) { s with heap:=h' }):
  Zb (Zc prog w) A (call (.type "enumerate") [.ref l]) Q E s:=by
 obtain⟨⟨c,g,p,j⟩,k,f,n,e⟩:=m
 replace f:c=.type "tuple":=f
 replace e:p=.seq items n:=e
 subst f e
 refine callType_new F.called_enumerate (by decide) (F.typeCall_enumerate_1 _) (F.newCall_enumerate_1 _) (fun a=>F.args_object_init_2 a _) F.entry_enumerate_new
  (Sr l items n g j) ⟨k,?_⟩
 have d:(s.heap.push { cls:=.type "tuple_iterator",data:=.fields #[.ref l,.int 0 0] }).objs.size=s.heap.objs.size+1:=Ys ..
 show _/\_
 rw [d]
 have i:IsEnum ((s.heap.push { cls:=.type "tuple_iterator",data:=.fields #[.ref l,.int 0 0] }).push
   { cls:=.type "enumerate",data:=.fields #[.none,.bool false,.ref s.heap.objs.size,UR 0,.none,.none] }) (s.heap.objs.size+1) s.heap.objs.size 0 .none:=by
  have:=Qy (s.heap.push { cls:=.type "tuple_iterator",data:=.fields #[.ref l,.int 0 0] })
   (o:={ cls:=.type "enumerate",data:=.fields #[.none,.bool false,.ref s.heap.objs.size,UR 0,.none,.none] }) rfl
  rw [d]at this;exact this
 exact⟨⟨_,i,rfl⟩,h _ i ⟨_,Qh _ (Qy _ rfl),rfl,rfl⟩ (by rw [Ys,d]) fun b o x=>Qh _ (Qh _ x)⟩
theorem Ss(a:s.heap.IsTupleIter it t i)(g:s.heap.IsTuple t items)(f:items[i]?=some x)
  (j:∀ h',h'.IsTupleIter it t (i+1)->Zk it s.heap h'->Q x { s with heap:=h' }):Zb (Zc prog w) A (ZW (.ref it)) Q E s:=by
 obtain⟨o,c,h,b⟩:=id a;obtain⟨k,d,_,l,e⟩:=g;unfold ZW
 refine Qa (Yt (name:=Z4 "__next__") a.typeIs Jt
  (Yh Jt a.typeIs F.entry_tuple_iterator_next ?_ (F.args_tuple_iterator_next_1 _)))
 show Zb _ _ (field (.ref it) 0 >>= _) _ _ s
 refine Qa (J7 c b (x:=.ref t) rfl ?_)
 show Zb _ _ (if(Ze t == Zz)=true then _ else _) _ _ s
 rw [if_neg (show ¬ ((Ze t == Zz)=true)from Qr)]
 show Zb _ _ (field (.ref it) 1 >>= _) _ _ s
 refine Qa (J7 c b (x:=.int i 0) rfl ?_)
 show Zb _ _ (seqItems? (.ref t) >>= _) _ _ s
 refine Qa (Ji d e ?_);simp only [Y1,f];refine Qa (JE c b (by simp) (Qb ⟨x,rfl,Qb (j _ ?_ (QW ..))⟩))
 refine⟨_,Ya _ c (JT (YW b _)),(UL ..).trans h,?_⟩
 rw [YW b]
 simp [UR]
theorem Gx(h:A.handled=none)(b:s.heap.IsTupleIter it t i)(k:s.heap.IsTuple t items)(j:items[i]?=none)
  (l:∀ h' e,Heap.ExtBut it s.heap h'->(∃ o,h'.get? e=some o/\o.cls=.type "StopIteration")->E (.ref e) { s with heap:=h' }):Zb (Zc prog w) A (ZW (.ref it)) Q E s:=by
 obtain⟨o,d,q,g⟩:=id b;obtain⟨n,c,_,p,f⟩:=k;unfold ZW
 refine Qa (Yt (name:=Z4 "__next__") b.typeIs Jt
  (Yh Jt b.typeIs F.entry_tuple_iterator_next ?_ (F.args_tuple_iterator_next_1 _)))
 show Zb _ _ (field (.ref it) 0 >>= _) _ _ s
 refine Qa (J7 d g (x:=.ref t) rfl ?_)
 show Zb _ _ (if(Ze t == Zz)=true then _ else _) _ _ s
 rw [if_neg (show ¬ ((Ze t == Zz)=true)from Qr)]
 show Zb _ _ (field (.ref it) 1 >>= _) _ _ s
 refine Qa (J7 d g (x:=.int i 0) rfl ?_)
 show Zb _ _ (seqItems? (.ref t) >>= _) _ _ s
 refine Qa (Ji c f ?_);simp only [Y1,j];refine Qa (Jm (Qa (JE d g (by simp) ?_)))
 show Zb _ _ (newExc (.type "StopIteration") [] >>= _) _ _ _
 refine Qa ?_;simp only [newExc,newTuple];refine Qa (Yn ?_ (by size_fits));refine Qa (m:=Ug _ _) (UZ (a:=Zz) (by first | rfl | (simp only [Ug];rfl)) ?_);refine Yn ?_ (by size_fits);simp only [raiseNew];refine Qa (wpAny_handled ?_)
 first | rw [show A.in1.handled=none from h] | rw [h]
 refine Qa (Qb (wpAny_throw ?_));exact l _ _ (((QW ..).extBut.push _).push _) ⟨_,Qy _ rfl,rfl⟩
end
theorem OL(l:A.handled=none)(c t:J8)(g:t≠c)(a:Array YP):
  Draws prog w A c [c,t] a.size (fun i v=>a[i]?=some v) (fun i h=>h.IsTupleIter c t i/\h.IsTuple t a) where
 live:=fun _ _ b=>let⟨o,ho,_⟩:=b.1;⟨o,ho⟩
 frame:=fun _ _ _ b j=>⟨b.1.at fun o e=>j c (by simp) o e,b.2.at fun o e=>j t (by simp) o e⟩
 item:=fun i s Q E k b m=>Ss b.1 b.2 (x:=a[i]) (by simp [k]) fun p f d=>m _ p s.toks (by simp [k]) ⟨f,b.2.extBut d.extBut g⟩ d
 done:=fun s Q E b n=>Gx l b.1 b.2 (by simp) n
def t6(a:Hp->List V->Prop):It:=
 ⟨fun i H=>∃ xs x,a H xs/\xs[i]?=some x,
  fun i H v b=>∃ p,H p=none/\v=.ref p/\∃ x,b=aJ H p (.tup [.int i,x])/\∀ xs,a H xs->xs[i]?=some x,
  fun i H=>∃ xs,a H xs/\xs.length<=i⟩
structure yN(P:Zd)(w:Zf)(K:PySem.W.Frag)(SQ:Hp->List V->Prop)(a it:J8)(IT:Nat->Heap->Prop)(IS:Heap->Array YP->Prop):Prop where
 sq:∀(X:Cx) (pins:List (J8 × Obj)) (σ:L2.St) (H:Hp) (s:J9) (xs:List V),X.K=K->L2.Inv X pins σ H s->SQ H xs->(∃ its,Vals xs its/\IS s.heap its.toArray)/\∀ ys,SQ H ys->ys=xs
 ob:∀ i h,IT i h->∃ o,h.get? it=some o/\∀ v,o.data≠.cell v
 kp:∀ i h h',IT i h->(∀ o,h.get? it=some o->h'.get? it=some o)->IT i h'
 D:∀(A:Around) (items:Array YP),A.handled=none->Draws P w A it [it,a] items.size (fun i v=>items[i]?=some v) (fun i h=>IT i h/\IS h items)
 Z:∀(A:Around) (items:Array YP) (i:Nat),A.handled=none->items.size<=i->Draws P w A it [it,a] i (fun _ _=>False) (fun j h=>j=i/\IT i h/\IS h items)
theorem IR{P:Zd}{w:Zf}{K:PySem.W.Frag}{R:List Expr}{x1}{G:Pos}{SQ:Hp->List V->Prop}(a e m:J8)(t:e≠m)(a6:e≠a){IT:Nat->Heap->Prop}{IS:Heap->Array YP->Prop}(Z:yN P w K SQ a m IT IS):
  lK P w K (.Tuple R x1 G) (t6 SQ) [e,m] e (fun i h=>(∃ old,IsEnum h e m i old)/\IT i h) where
 mem:=by simp
 obj:=fun i h p c y=>by
  obtain⟨⟨old,n⟩,r⟩:=p;rcases Ql.mp y with rfl | y
  ·exact⟨_,n,fun v z=>by have z':Data.fields _=Data.cell v:=z;cases z'⟩
  ·rw [QF.mp y];exact Z.ob i h r
 keep:=fun i h h' p k=>by
  obtain⟨⟨old,n⟩,r⟩:=p
  exact⟨⟨old,k e (by simp) _ n⟩,Z.kp i h h' r fun o q=>k m (by simp) o q⟩
 item:=by
  intro X O hw hK y i g s U H E I B p hg;subst O hw;obtain⟨F,x,ha,S⟩:=hg;obtain⟨⟨old,n⟩,r⟩:=p;obtain⟨⟨l,rv,pl⟩,inj⟩:=Z.sq X g U H s F hK I ha;obtain⟨xu,ex,rx⟩:=rv.get S
  have a4:i<l.toArray.size:=by
   have:=(Qc.mp ex).1
   simpa using this
  have a5:e∉[m,a]:=by simp only [Ql,Jo,or_false,not_or];exact⟨t,a6⟩
  refine wpAny_pyNext_enum_itemD (Z.D X.A.in1 l.toArray (by simp [I.ok.hd y])) n ⟨r,pl⟩ a4 t a5 fun x' h' tk O ho a0 hT a8 hk=>⟨_,rfl,?_⟩
  have Q:l[i]?=some x':=by simpa using O
  rw [ex]at Q;cases Q;refine wpAny_letOwnedTupleGo_enum ho fun h'' z1 Y=>?_;have T:H s.heap.objs.size=none:=I.hok.fresh (Qm _);have f:∀ c o,s.heap.get? c=some o->c≠s.heap.objs.size:=fun c o q=>Qz (Qs q);have eT:s.heap.objs.size≠e:=(f e _ n).symm;obtain⟨oi,a3,_⟩:=Z.ob i _ r
  have M:∀ c o,c∉[e,m]->s.heap.get? c=some o->h''.get? c=some o:=fun c o J q=>
   Y.extBut c o (fun q=>J (by simp [q])) (hk c o (fun q=>J (by simp [q])) (fun q=>J (by simp [q])) q)
  have j:∀ c o,H c=some o->c∉[e,m]:=fun c o q b=>by
   have:=(B c b).1
   rw [this]at q;cases q
  have a2:c4 X.prog X.w (aJ H s.heap.objs.size (.tup [.int i,x])) h'':=fun c o q=>by
   by_cases N:c=s.heap.objs.size
   ·subst N;rw [cO]at q;cases q
    exact⟨gJ (by simp),[.int i tk,xu],.cons ⟨tk,rfl⟩ (.cons rx .nil),⟨_,Y.extBut _ _ eT hT,rfl,0,rfl⟩⟩
   ·rw [aX N]at q
    refine(I.hok c o q).stay (fun d v u q=>M d v ?_ q) (fun d q=>by rw [aX (iF q T)];exact q) fun d F q=>by rw [aX (iF q T)];exact q
    rcases u with rfl | u
    ·exact j _ _ q
    ·exact j _ _ u
  refine⟨.ref s.heap.objs.size,_,yJ (s:=s) (h':=h'') (tk:=tk+1) I B M (fun c o q=>aX (f c o q)) (fun c o q=>by rw [aX (iF q T)];exact q) a2,rfl,⟨_,T,rfl,x,rfl,fun ys hy=>by rw [inj ys hy];exact S⟩,⟨⟨_,by simpa using z1⟩,Z.kp _ _ _ a0.1 fun o q=>Y.extBut m o (Ua t) q⟩,fun c b=>?_⟩
  have q:=(B c b).1
  have nT:c≠s.heap.objs.size:=by
   rcases Ql.mp b with rfl | b
   ·exact f _ _ n
   ·rw [QF.mp b];exact f _ _ a3
  rw [aX nT];exact q
 done:=by
  intro X O hw hK y i g s U H E I B p hg;subst O hw;obtain⟨F,ha,a7⟩:=hg;obtain⟨⟨old,n⟩,r⟩:=p;obtain⟨⟨l,rv,pl⟩,inj⟩:=Z.sq X g U H s F hK I ha;have l1:=rv.length;refine wpAny_pyNext_enum_endD (Z.Z X.A.in1 l.toArray i (by simp [I.ok.hd y]) (by rw [QH];lia)) n ⟨rfl,r,pl⟩ fun h' S=>⟨rfl,?_⟩;have M:∀ c o,c∉[e,m]->s.heap.get? c=some o->h'.get? c=some o:=fun c o J q=>S c o (fun q=>J (by simp [q])) q
  have j:∀ c o,H c=some o->c∉[e,m]:=fun c o q b=>by
   have:=(B c b).1
   rw [this]at q;cases q
  refine yJ (s:=s) (h':=h') (tk:=s.toks) I B M (fun _ _ _=>rfl) (fun _ _ q=>q) fun c o q=>?_
  refine(I.hok c o q).stay (fun d v u q=>M d v ?_ q) (fun d q=>q) fun d F q=>q
  rcases u with rfl | u
  ·exact j _ _ q
  ·exact j _ _ u
 self:=fun _ _ _ _ _ p h=>by
  obtain⟨⟨old,n⟩,_⟩:=p;exact wpAny_pyIter_enum n h
theorem Lg{P:Zd}{w:Zf}{K:PySem.W.Frag}(a c:J8)(l:a≠c):yN P w K (fun H xs=>bL K H a xs) a c (fun i h=>h.IsTupleIter c a i) (fun h items=>h.IsTuple a items) where
 sq:=fun X p N H s xs J I t=>by
  subst J;obtain⟨f,u,x,_⟩:=I.tuple t
  exact⟨⟨f,u,x⟩,fun O y=>I.tuple_inj y t⟩
 ob:=fun i h ⟨o,g,_,G⟩=>⟨o,g,fun v z=>by rw [G]at z;cases z⟩
 kp:=fun i h R F k=>F.at k
 D:=fun A items n=>OL n c a l items
 Z:=fun A items i n m=>
  {live:=fun _ _ ⟨_,⟨o,g,_⟩,_⟩=>⟨o,g⟩
   frame:=fun _ _ _ ⟨e,d,b⟩ r=>⟨e,d.at fun o q=>r c (by simp) o q,b.at fun o q=>r a (by simp) o q⟩
   item:=fun j s Q E B ⟨e,_⟩ _=>absurd e (Qz B)
   done:=fun s Q E ⟨_,d,b⟩ M=>Gx n d b (Yx m) M }
theorem Lf{P:Zd}{w:Zf}{K:PySem.W.Frag}(a c:J8)(l:a≠c):yN P w K (fun H xs=>bV K H a xs) a c (fun i h=>h.IsListIter c a i) (fun h items=>h.IsList a items) where
 sq:=fun X p N H s xs J I t=>by
  subst J;obtain⟨f,u,x,_⟩:=I.list t
  exact⟨⟨f,u,x.isList⟩,fun O y=>I.list_inj y t⟩
 ob:=fun i h ⟨o,g,_,G⟩=>⟨o,g,fun v z=>by rw [G]at z;cases z⟩
 kp:=fun i h R F k=>F.at k
 D:=fun A items n=>Draws.list n c a l items
 Z:=fun A items i n m=>
  {live:=fun _ _ ⟨_,⟨o,g,_⟩,_⟩=>⟨o,g⟩
   frame:=fun _ _ _ ⟨e,d,b⟩ r=>⟨e,d.at fun o q=>r c (by simp) o q,b.at fun o q=>r a (by simp) o q⟩
   item:=fun j s Q E B ⟨e,_⟩ _=>absurd e (Qz B)
   done:=fun s Q E ⟨_,d,b⟩ M=>wpAny_nextOf_list_end n d b (Yx m) M }
def sT(K:PySem.W.Frag)(f:TA):TI:=fun d H R=>f d H fun e c=>∃ a,e=[.ref a]/\(((∃ b,bV K c a b)/\R (t6 fun H b=>bV K H a b) c) ∨ ((∃ b,bL K c a b)/\R (t6 fun H b=>bL K H a b) c))
theorem TY{X:Cx}{l:List Expr}{x1}{g:Pos}{a:Expr}{y:TA}{p pos:Pos}(M:Gl X "enumerate")(J:X.mg "enumerate"=none)(N:PA X [a] y)(hs:Za [a] X.env=[(false,Zr a X.env)]:=by rfl):
  PI X (.Tuple l x1 g) (.Call (.Name "enumerate" p) [a] [] pos) (sT X.K y):=by
 intro d s n H R I h;refine Call_ (kE I M J boot_enumerate (YC (aW (N pos d s n H _ I h) fun S b ⟨Q,m,I1,F,G⟩=>?_) (by rw [hs];rfl) (by rfl)));obtain⟨f,e,q⟩:=G;subst e;obtain⟨u,rfl,E⟩:=g7 F;cases E
 have fin:∀ c∈[b.heap.objs.size+1,b.heap.objs.size],gO X d m c:=fun c v=>by
  have z:b.heap.objs.size<=c:=by
   rcases Ql.mp v with rfl | v
   ·exact QV _ _
   ·rw [QF.mp v];exact Qm _
  exact I1.fpOk z (I1.hok.fresh z)
 rcases q with⟨⟨A,r⟩,q⟩ | ⟨⟨A,r⟩,q⟩
 ·obtain⟨o,B,i,_⟩:=I1.list r;refine call_enumerate_list i.isList fun k a1 w O t=>?_
  have j:f<b.heap.objs.size:=by obtain⟨_,e,_⟩:=i.isList;exact Qs e
  have x:L2.Inv X d n m { b with heap:=k }:=I1.kept (t':=b.toks) t;refine wpAny_pyIter_enum (s:={ b with heap:=k }) a1 ?_
  exact⟨_,[b.heap.objs.size+1,b.heap.objs.size],_,_,m,rfl,x,IR f (b.heap.objs.size+1) b.heap.objs.size (Nat.succ_ne_self _) (Jf (Jk j)) (Lf f b.heap.objs.size (Qz j)),⟨⟨_,a1⟩,w⟩,fin,q⟩
 ·obtain⟨o,B,i,_⟩:=I1.tuple r;refine N8 i fun k a1 w O t=>?_
  have j:f<b.heap.objs.size:=by obtain⟨_,e,_⟩:=i;exact Qs e
  have x:L2.Inv X d n m { b with heap:=k }:=I1.kept (t':=b.toks) t;refine wpAny_pyIter_enum (s:={ b with heap:=k }) a1 ?_
  exact⟨_,[b.heap.objs.size+1,b.heap.objs.size],_,_,m,rfl,x,IR f (b.heap.objs.size+1) b.heap.objs.size (Nat.succ_ne_self _) (Jf (Jk j)) (Lg f b.heap.objs.size (Qz j)),⟨⟨_,a1⟩,w⟩,fin,q⟩
end EL
namespace SL
open PySem.Spec L2 CL DL SD EL
def jN(n:Nat):List D->List D
 | []=>[]
 | x::xs=>.tuple [.int n,x]::jN (n+1) xs
theorem Bz:∀(xs:List D) (n i:Nat),(jN n xs)[i]?=(xs[i]?).map fun x=>.tuple [.int ((n+i:Nat):Int),x]
 | [],n,i=>by simp [jN]
 | x::xs,n,0=>by simp [jN]
 | x::xs,n,i+1=>by
  show(jN (n+1) xs)[i]?=_
  rw [Bz xs (n+1) i,show n+1+i=n+(i+1) by lia];rfl
theorem GD:∀(xs:List D) (n:Nat),(jN n xs).length=xs.length
 | [],_=>rfl
 | x::xs,n=>by show(jN (n+1) xs).length+1=_;rw [GD xs];rfl
def AS:List D->Option (List D)
 | [.list xs]=>some (jN 0 xs)
 | [.tuple xs]=>some (jN 0 xs)
 | _=>none
theorem E9{K:PySem.W.Frag}{F:J8->Prop}{H:Hp}{j:Hp->List V->Prop}{vs:List V}{ds:List D}(n:∀ F2 H2,bJ K F F2 H H2->j H2 vs)(l:Reps K F H ds vs):oD K F H (jN 0 ds) (t6 j):=fun F2 H2 T z i=>by
 have g1:=n F2 H2 T;have c:=l.stay T
 refine⟨fun d a=>?_,fun g=>⟨vs,g1,?_⟩⟩
 ·rw [Bz]at a
  cases b:ds[i]? with
  | none=>rw [b]at a;cases a
  | some x=>
   rw [b]at a;cases a;obtain⟨v,h,o⟩:=c.get b
   refine⟨⟨vs,v,g1,h⟩,fun w r k=>?_⟩
   obtain⟨p,f,rfl,q,rfl,m⟩:=k;have e:=m vs g1;rw [h]at e;cases e
   refine⟨F2,aI.fresh f,aS.newTup f (.cons ?_ (.cons o .nil))⟩
   rw [Q3];exact .int _
 ·rw [GD]at g;rw [<- c.length];exact g
theorem Oz{x1}(m:Gl X "enumerate")(l:X.mg "enumerate"=none)(n:DA X [a] gr)(hs:Za [a] X.env=[(false,Zr a X.env)]:=by rfl):
  DI X (.Tuple elts x1 tpos) (.Call (.Name "enumerate" p) [a] [] pos) (fun ρ=>(gr ρ).bind AS):=
 BL (TY m l n hs) fun t H R i=>by
  obtain⟨F,b,ρ,v,S,q,k⟩:=i;obtain⟨u,h,q⟩:=aE q;unfold AS at q
  split at q
  ·cases q
   refine⟨F,b,ρ,_,S,h,fun f e j g d=>?_⟩
   cases d with
   | cons r c=>
    cases c
    cases r with
    | @lst a' vs' _ h1 r1=>exact⟨a',rfl,.inl ⟨⟨_,h1.sq⟩,k f e _ g (E9 (fun s o T=>(h1.stay T).sq) r1)⟩⟩
  ·cases q
   refine⟨F,b,ρ,_,S,h,fun f e j g d=>?_⟩
   cases d with
   | cons r c=>
    cases c
    cases r with
    | @tup a' vs' _ h1 r1=>exact⟨a',rfl,.inr ⟨⟨_,h1⟩,k f e _ g (E9 (fun s o T=>T.tp _ _ h1) r1)⟩⟩
  ·cases q
end SL
namespace SL
open PySem.Spec L2 CL DL SD
section
variable {X:Cx}
end
open AutoSeq1 (wpAny_loadPart')
theorem Oh(l:J8)(c:Array YP)(n:Nat)(b:J8)(a:Array YP)(o:Nat)(dd:Option J8)(m:Array (Option YP))(p:(!c.isEmpty && Uo (c.size+a.size))=false)(i:c.size<=sizeLine)(f:c.size+a.size<=sizeLine+1):
  Meets (Builtin.«list.extend» ⟨[.ref l,.ref b],[]⟩) (fun _ R s=>s.heap.get? l=some { cls:=.type "list",dict:=none,data:=.seq c n,slots:=#[] }/\s.heap.get? b=some { cls:=.type "list",dict:=dd,data:=.seq a o,slots:=m }/\R (.ok (.ret Zz)) { s with heap:=s.heap.update l (Uz fun x=>x++a),toks:=s.toks }):=
 .of_wp fun j w A R s h=>by
  obtain⟨u,g,d,r,t⟩:=s;obtain⟨k,q,h⟩:=h;have E:=AutoSeq1.idx_int;have B:=AutoSeq1.sub_tuple_tuple;have z:=AutoSeq1.sub_list_list;have y:=AutoSeq1.sub_tuple_list;have v:=AutoSeq1.sub_list_tuple
  have e:(c++a).size<=sizeLine+1:=by rw [Array.size_append];exact f
  wp_walk using(wpAny_updateSeq k rfl (hz:=i) (_hz':=e)),ZP k,ZP q
  exact⟨_,rfl,h⟩
section
variable {X:Cx}
theorem R9:CQ X "list.extend" (fun x vs H Q=>∃ l b xs zs,x=.ref l/\vs=[.ref b]/\H l=some (.lst xs)/\bV X.K H b zs/\xs.length+zs.length<=1000/\Q .non (aJ H l (.lst (xs++zs)))):=by
 intro k s B H x vs v E Q I o p h;obtain⟨l,b,xs,zs,rfl,rfl,m,y,N,q⟩:=h;cases o;obtain⟨u,rfl,t⟩:=p.one;cases t;obtain⟨z,c,n,r,O,e⟩:=I.lstM m;obtain⟨a,j,⟨⟨S,dd,R,G⟩,w,A,g,f,d⟩,_⟩:=I.list y
 simp only at g f d
 subst g f d;have M:=r.length;have J:=j.length
 have i:c.toArray.size+a.toArray.size<=sizeLine:=by rw [QH,QH];exact gJ (by lia)
 refine call_meets F.slot_list_extend ⟨_,e,rfl⟩ F.entry_list_extend (F.args_list_extend_2 _ _)
  (Oh l c.toArray n b a.toArray w _ _ (by rw [SH i,JX]) (by lia) (by lia)) ⟨e,A,?_⟩
 refine⟨.non,_,I.lset (its':=c++a) m e (by simp) (r.append j) ?_,rfl,q⟩
 rw [Qo];exact gJ (by lia)
def nE(i:Nat)(g:aA->Option D):aA->Option bD:=fun a=>match a[i]? with
 | some (.own ds)=>(g a).bind fun d=>match d with
  | .list b=>if ds.length+b.length<=1000 then some (.nx (a.set i (.own (ds++b))))else none
  | _=>none
 | _=>none
variable {e:Expr}{p pos:Pos}{ga:aA->Option D}
theorem AM(M:DE X e ga)(O:X.N[i]?=some x:=by rfl)(J:fY X.env.scope x:=by first | exact Zx rfl | exact Zl (Zx rfl) | exact Zl (Zl rfl))(K:(x == ("__debug__":Str))=false:=by decide)
  (t:(x == ("__classdict__":Str))=false:=by decide) (g:Za [e] X.env=(false,Zr e X.env)::Za [] X.env:=by rfl)
  (f:ZM (.Name x p) "extend" X.env (Zr (.Name x p) X.env)=Zr (.Name x p) X.env:=by rfl)
  (h:((Zw pos' (Za [e] X.env)).all (fun x => !x.1) && (Um pos' (ZS [] X.env)).all (fun x=>x.1.isSome)
   && decide ([e].length+([]:List Uw).length+(if([]:List Uw).isEmpty then 0 else 1)<30))=true:=by rfl)
  (c:(apos.endLine == pos'.line)=true:=by rfl) (a:(Zw pos' (Za [] X.env)).any (·.1)=false:=by rfl) (r:ZI (.Call (.Attribute (.Name x p) "extend" apos) [e] [] pos') none pos.line X.env=pure false:=by rfl):
  DS X (.Expr (.Call (.Attribute (.Name x p) "extend" apos) [e] [] pos') pos) (nE i ga):=
 DL.ps_mono (qK (BG PySem.F.plainAttrs_list PySem.F.slot_list_extend PySem.F.type_list_extend R9 (fS O J K t) (gY M iV g) f h c g a) r) fun W z H B=>by
 obtain⟨y,j,F,A,o,E,S,q,k⟩:=B;unfold nE at q
 split at q
 ·rename_i U u;obtain⟨d,R,q⟩:=aE q
  split at q
  ·rename_i Q;by_cases s:U.length+Q.length<=1000
   ·rw [if_pos s]at q;cases q;obtain⟨l,vs,n,I,q3,G,q5⟩:=S.own u
    refine⟨_,n,.inl ⟨rfl,_,bV.of I⟩,F,j,A,_,S,R,fun F' H' v E' Z=>?_⟩
    have S':=S.ext E';obtain⟨l',m,g1,g2,g3,g4,w⟩:=S'.own u;rw [n]at g1;cases g1
    cases Z with
    | @lst b us _ h1 r1=>
     refine⟨l,b,m,us,rfl,rfl,g2,h1.sq,by rw [<- w.length,<- r1.length];exact s,?_⟩
     obtain⟨Y,T⟩:=S'.turn u n g2 g3 (w.append r1);exact k F' _ z ((E.trans E').turn G) (E'.stay.trans T) Y
   ·rw [if_neg s]at q;cases q
  ·cases q
 ·cases q
end
def BO:Expr->Bool
 | .Starred ..=>false
 | _=>true
theorem Wi(e:Expr)(es:List Expr)(env:Env)(h:BO e=true):Za (e::es) env=(false,Zr e env)::Za es env:=by
 cases e <;> first | rfl | cases h
theorem Op(b:DE X e ga)(a:DA X es gr)(h:BO e=true:=by rfl):DA X (e::es) (aD ga gr):=Oo b a (Wi e es X.env h)
end SL
namespace ST
open PySem.SetTable
structure gP(t:SetTable)(hs:List Int):Prop where
 good:Good t.mask
 len:t.place.toList.length=hs.length
 up:Up t.place.toList
 dup:Up t.dummies.toList
 apart:∀ x∈t.dummies.toList,x∉t.place.toList
 room:(t.place.toList.length+t.dummies.toList.length) * 5<t.mask * 3
 reach:∀ q∈t.place.toList.zip hs,∃ n,(P t.mask q.2 n).j=q.1/\∀ m,m<n->(P t.mask q.2 m).j∈t.place.toList++t.dummies.toList
theorem TOk.toD(T:TOk t hs):gP t hs:=by
 refine⟨T.good,T.len,T.up,?_,?_,?_,fun q c=>?_⟩
 ·rw [T.dum];exact List.Pairwise.nil
 ·rw [T.dum];intro x b;simp at b
 ·rw [T.dum];exact T.room
 ·obtain⟨n,e,a⟩:=T.reach q c
  exact⟨n,e,fun m d=>Q2 _ (a m d)⟩
theorem B0(s:Up xs.toList)(j:Nat):has xs j=true ↔ j∈xs.toList:=by
 obtain⟨n,l,k⟩:=pW xs s j;unfold has;constructor
 ·intro h
  have:=Yz h
  rw [<- QA]at this;exact QN this
 ·intro f;obtain⟨i,c⟩:=QQ f;have m:=(Qc.mp c).1
  have e:i=ZC xs j:=by
   by_cases a:i<ZC xs j
   ·have:=l i j c a;lia
   ·by_cases b:i=ZC xs j
    ·exact b
    ·have g:ZC xs j<xs.toList.length:=by lia
     have d:=Qe g
     have:=s.at d c (by lia)
     have:=k _ _ d (Qm _)
     lia
  rw [<- e,<- QA,c];simp
theorem w6(T:gP t hs)(j:Nat):(∃ i,t.slot j=.live i/\t.place.toList[i]?=some j) ∨ (t.slot j=.dummy/\j∉t.place.toList/\j∈t.dummies.toList) ∨ (t.slot j=.empty/\j∉t.place.toList++t.dummies.toList):=by
 unfold slot;dsimp only;by_cases c:(t.place[ZC t.place j]? == some j)=true
 ·rw [if_pos c];exact .inl ⟨_,rfl,by rw [QA];exact Yz c⟩
 ·rw [if_neg c];have a:j∉t.place.toList:=fun b=>c ((B0 T.up j).mpr b);by_cases d:has t.dummies j=true
  ·rw [if_pos d];exact .inr (.inl ⟨rfl,a,(B0 T.dup j).mp d⟩)
  ·rw [if_neg d];exact .inr (.inr ⟨rfl,fun h=>(QC.mp h).elim a fun h=>d ((B0 T.dup j).mpr h)⟩)
theorem HW(T:gP t hs)(h:t.slot j=.live i):t.place.toList[i]?=some j:=by
 rcases w6 T j with⟨c,a,b⟩ | ⟨a,_⟩ | ⟨a,_⟩
 ·rw [h]at a;cases a;exact b
 ·rw [h]at a;cases a
 ·rw [h]at a;cases a
theorem gP.fits(T:gP t hs)(e:hs.length=n):t.fits n=true:=by
 have b:=T.len;have a:=T.room;rw [Qd]at b a;rw [Qd]at a;unfold Z9 Us;rw [b,e];rw [b]at a;simp only [QL,beq_iff_eq,decide_eq_true_eq]
 refine⟨?_,?_⟩
 ·trivial
 ·show n+t.dummies.size<=t.mask
  lia
theorem gP.odd(T:gP t hs):t.gaveWay=false:=by
 unfold SetTable.gaveWay
 rcases T.good with h | h | h | h | h | h | h <;> rw [h] <;> rfl
def Pd(M:Nat)(h:Int)(n:Nat)(d:Option Nat):Probe:={ P M h n with dummy:=d }
theorem KH(M:Nat)(p:Probe)(d:Option Nat):hJ M { p with dummy:=d }={ hJ M p with dummy:=d }:=by
 unfold hJ;dsimp only
 split <;> rfl
theorem Eg(M:Nat)(h:Int)(n:Nat)(d:Option Nat):hJ M (Pd M h n d)=Pd M h (n+1) d:=KH M (P M h n) d
section
variable {t:SetTable}{hs:List Int}{hashAt:Nat->Int}{h:Int}{n:Nat}
theorem P5(a c:Nat)(d:Option Nat):UY t hashAt h (a+1) (Pd t.mask h c d)=match t.slot (P t.mask h c).j with
  | .empty=>some (.empty (P t.mask h c).j d)
  | .dummy=>UY t hashAt h a (Pd t.mask h (c+1) (some (P t.mask h c).j))
  | .live i=>if(hashAt i == h)=true then some (.candidate (P t.mask h c).j i (Pd t.mask h (c+1) d))else UY t hashAt h a (Pd t.mask h (c+1) d):=by
 conv=>lhs;unfold UY
 rw [<- Eg t.mask h c d,<- Eg t.mask h c (some (P t.mask h c).j)];rfl
theorem BV(T:gP t hs)(s:(P t.mask h n).j∉t.place.toList++t.dummies.toList)(u:∀ m,m<n->(P t.mask h m).j∈t.place.toList++t.dummies.toList):∀ fuel c d,c<=n->n-c<fuel->
  (∃ d',UY t hashAt h fuel (Pd t.mask h c d)=some (.empty (P t.mask h n).j d')/\∀ m,c<=m->m<n->∀ i,t.slot (P t.mask h m).j=.live i->hashAt i≠h)
  ∨ ∃ m i d',c<=m/\m<n/\t.slot (P t.mask h m).j=.live i/\hashAt i=h/\(∀ m',c<=m'->m'<m->∀ i,t.slot (P t.mask h m').j=.live i->hashAt i≠h)/\UY t hashAt h fuel (Pd t.mask h c d)=some (.candidate (P t.mask h m).j i (Pd t.mask h (m+1) d'))
 | 0,c,d,_,hf=>absurd hf (Yy _)
 | fuel+1,c,d,hc,hf=>by
  rw [P5];by_cases e:c=n
  ·subst e;rcases w6 T (P t.mask h c).j with⟨i,l,r⟩ | ⟨l,r,v⟩ | ⟨l,_⟩
   ·exact absurd (Q2 _ (QN r)) s
   ·exact absurd (Qu _ v) s
   ·rw [l];exact .inl ⟨d,rfl,fun m a b=>by lia⟩
  ·rcases w6 T (P t.mask h c).j with⟨i,l,r⟩ | ⟨l,r,v⟩ | ⟨_,r⟩
   ·rw [l];dsimp only;by_cases k:(hashAt i == h)=true
    ·rw [if_pos k];exact .inr ⟨c,i,d,Qm _,by lia,l,Yz k,fun m' a b=>by lia,rfl⟩
    ·rw [if_neg k];have w:hashAt i≠h:=fun e=>k (by rw [e];simp);rcases BV T s u fuel (c+1) d (by lia) (by lia)with⟨d',a,b⟩ | ⟨m,i',d',a1,a2,a3,a4,a5,a6⟩
     ·refine .inl ⟨d',a,fun m p g o f=>?_⟩;by_cases q:m=c
      ·subst q;rw [l]at f;cases f;exact w
      ·exact b m (by lia) g o f
     ·refine .inr ⟨m,i',d',by lia,a2,a3,a4,fun m' p g o f=>?_,a6⟩;by_cases q:m'=c
      ·subst q;rw [l]at f;cases f;exact w
      ·exact a5 m' (by lia) g o f
   ·rw [l];dsimp only;rcases BV T s u fuel (c+1) (some (P t.mask h c).j) (by lia) (by lia)with⟨d',a,b⟩ | ⟨m,i',d',a1,a2,a3,a4,a5,a6⟩
    ·refine .inl ⟨d',a,fun m p g o f=>?_⟩;by_cases q:m=c
     ·subst q;rw [l]at f;cases f
     ·exact b m (by lia) g o f
    ·refine .inr ⟨m,i',d',by lia,a2,a3,a4,fun m' p g o f=>?_,a6⟩;by_cases q:m'=c
     ·subst q;rw [l]at f;cases f
     ·exact a5 m' (by lia) g o f
   ·exact absurd (u c (by lia)) r
theorem LK(T:gP t hs)(k:(P t.mask h n).j∉t.place.toList++t.dummies.toList){i j:Nat}(b:t.place.toList[i]?=some j)(g:hs[i]?=some h):∃ m,m<n/\(P t.mask h m).j=j:=by
 have f:(j,h)∈t.place.toList.zip hs:=QN (i:=i) (by rw [YM];exact⟨b,g⟩);obtain⟨m,e,a⟩:=T.reach _ f
 refine⟨m,YL fun c=>k ?_,e⟩
 by_cases d:n=m
 ·subst d;rw [e];exact Q2 _ (QN b)
 ·exact a n (by lia)
end
section
variable {prog:Zd}{w:Zf}{A:Around}{E:YP->J9->Prop}{s:J9}
theorem Gd{a x:J8}{o:Obj}{es:Array (Int × YP)}{ep:Nat}{t:SetTable}{ks:List (List Int)}{k:List Int}{n:Nat}{Q:SetFound->J9->Prop}
  (hu:A.units<Zi) (ho:s.heap.get? a=some o) (hd:o.data=.set es ep t) (T:gP t (es.toList.map (·.1))) (X:Ents prog w s.heap es.toList ks) (hk:TK prog w s.heap k x)
  (h1:(P t.mask (TH prog w k) n).j∉t.place.toList++t.dummies.toList) (h2:∀ m,m<n->(P t.mask (TH prog w k) m).j∈t.place.toList++t.dummies.toList)
  (q1:∀ i,ks[i]?=some k->Q (.there (some i)) s) (U:k∉ks->∀ j b,Q (.free j b) s):
  ∀ fuel c d,c<=n->n<10 * Ve t.mask->n-c<fuel->(∀ m,m<c->∀ i,t.slot (P t.mask (TH prog w k) m).j=.live i->ks[i]?≠some k)->∀ stand:Option Probe,stand.getD (t.probeStart (TH prog w k))=Pd t.mask (TH prog w k) c d->
  Zb (Zc prog w) A (Ut a (.ref x) (TH prog w k) false fuel stand) Q E s
 | 0,c,d,_,_,hf,_,_,_=>absurd hf (Yy _)
 | fuel+1,c,d,hc,hN,hf,inv,stand,hst=>by
  have u:t.fits es.size=true:=T.fits (by simp);unfold Ut;refine Qa (QK ho hd u ?_);dsimp only;rw [hst,if_neg (by rw [T.odd];exact Qr)];refine Qa (Qb ?_);generalize S:t.probe _ (TH prog w k) (Pd t.mask (TH prog w k) c d)=met;obtain⟨f,a6,S⟩:∃ f:Nat->Int,(∀ i,f i=(es[i]?.map (·.1)).getD 0)/\t.probe f (TH prog w k) (Pd t.mask (TH prog w k) c d)=met:=⟨_,fun _=>rfl,S⟩
  have J:∀ m i,t.slot (P t.mask (TH prog w k) m).j=.live i->f i≠TH prog w k->ks[i]?≠some k:=fun m i G a0 a2=>by
   have Z:=HW T G
   have q:i<es.toList.length:=by
    have:=(Qc.mp Z).1
    rw [T.len]at this
    simpa using this
   obtain⟨F,b,v,O,e3⟩:=X.at (Qe q);rw [a2]at v;cases v;apply a0;rw [a6,<- QA,Qe q,O];rfl
  have a5:=BV (hashAt:=f) T h1 h2 (10 * Ve t.mask) c d hc (by lia);rcases a5 with⟨R,g1,g2⟩ | ⟨m,i,R,g1,g2,g3,g4,g5,g6⟩
  ·have:met=some (.empty (P t.mask (TH prog w k) n).j R):=S.symm.trans g1
   subst this
   have H:k∉ks:=fun M=>by
    obtain⟨i,G⟩:=QQ M
    have q:i<es.toList.length:=by rw [X.length];exact(Qc.mp G).1
    obtain⟨F,b,v,O,e3⟩:=X.at (Qe q);rw [G]at v;cases v
    have K:i<t.place.toList.length:=by rw [T.len];simpa using q
    obtain⟨m,hm,hj⟩:=LK T h1 (Qe K) (h:=TH prog w k) (by rw [QE,Qe q,O];rfl);rcases w6 T (P t.mask (TH prog w k) m).j with⟨p,B,g⟩ | ⟨_,g,_⟩ | ⟨_,g⟩
    ·have a3:p=i:=by
      rw [hj]at g;have a1:=Qe K;by_cases Y:p<i
      ·have:=T.up.at g a1 Y;lia
      ·by_cases W:i<p
       ·have:=T.up.at a1 g W;lia
       ·lia
     subst a3;by_cases cm:m<c
     ·exact inv m cm p B G
     ·exact J m p B (g2 m (by lia) hm p B) G
    ·rw [hj]at g;exact g (YJ _)
    ·rw [hj]at g;exact g (Q2 _ (YJ _))
   dsimp only
   cases R with
   | none=>exact Qb (U H _ _)
   | some dd=>
    dsimp only;rw [if_neg (by simp)];exact Qb (U H _ _)
  ·have:met=some (.candidate (P t.mask (TH prog w k) m).j i (Pd t.mask (TH prog w k) (m+1) R)):=S.symm.trans g6
   subst this;have Z:=HW T g3
   have q:i<es.toList.length:=by
    have:=(Qc.mp Z).1
    rw [T.len]at this
    simpa using this
   obtain⟨F,b,v,O,e3⟩:=X.at (Qe q)
   have N:es[i]?=some (TH prog w F,.ref b):=by rw [<- QA,Qe q,O]
   dsimp only
   have z:∀ y∈(es.filter (fun x=>x.1 == TH prog w k)).toList.map (fun x=>x.2),∃ F b,y=.ref b/\TK prog w s.heap F b:=fun y hy=>by
    obtain⟨e,he,rfl⟩:=QM.mp hy
    have a7:e∈es.toList:=by
     rw [Array.toList_filter]at he
     exact(Ym.mp he).1
    obtain⟨i2,a4⟩:=QQ a7;obtain⟨k2,b2,_,z2,z3⟩:=X.at a4
    exact⟨k2,b2,by rw [z2],z3⟩
   split
   all_goals try (refine Qa (xY hk z ?_);rw [if_neg Qr])
   all_goals
    rw [N];dsimp only;refine Qa (Q7 (wpAny_eqBool_tuple hu e3 hk ?_));refine Qa (QK ho hd u ?_);dsimp only;rw [if_neg (by simp),show t.sameMemory t.moves t.mask=some true by unfold sameMemory;simp];dsimp only;rw [if_pos rfl,g3];dsimp only;rw [N];dsimp only;refine Qa (UM ?_);simp only [if_true];refine Qa (Qb ?_);dsimp only;by_cases r:F=k
    ·rw [if_pos (by simp [r])];exact Qb (q1 i (r ▸ v))
    ·rw [if_neg (by simp [r])];refine Gd hu ho hd T X hk h1 h2 q1 U fuel (m+1) R (by lia) hN (by lia) (fun I a8 p l=>?_) _ rfl;by_cases Y:I<c
     ·exact inv I Y p l
     ·by_cases W:I=m
      ·subst W;rw [g3]at l;cases l;rw [v];exact fun e=>r (QB e)
      ·exact J I p l (g5 I (by lia) (by lia) p l)
theorem Ge
  (v:A.units<Zi) (f:s.heap.get? a=some o) (h:o.data=.set es ep t) (T:gP t (es.toList.map (·.1))) (X:Ents prog w s.heap es.toList ks) (B:TK prog w s.heap k x)
  (q:∀ i,ks[i]?=some k->Q (some i) s) (p:k∉ks->Q none s):Zb (Zc prog w) A (setFind a (.ref x) (TH prog w k)) Q E s:=by
 have c:t.fits es.size=true:=T.fits (by simp);have d:=T.room;obtain⟨n,e,u,r⟩:=free_at (l:=t.place.toList++t.dummies.toList) T.good (by rw [Qo];lia) (TH prog w k)
 have G:t.mask<=511:=by rcases T.good with g | g | g | g | g | g | g <;> lia
 unfold setFind setFindIn;refine Qa (QK f h c ?_);dsimp only;rw [if_neg (by simp [byScan,Value.scannable])];refine Qa ?_;unfold setSearch;refine Gd v f h T X B u r ?_ ?_ 100000 0 none (Q8 _) e (by unfold Ve at e;lia) (fun m z=>absurd z (Yy _)) none ?_
 ·intro i F;exact Qb (q i F)
 ·intro y j b;exact Qb (p y)
 ·show P t.mask (TH prog w k) 0=_
  rfl
end
theorem rW{a:Type}(xs:Array a)(p:Nat):(Z5 xs p).toList=xs.toList.take p++xs.toList.drop (p+1):=by
 unfold Z5;rw [Q6,Array.toList_extract,Array.toList_extract];simp only [List.extract_eq_take_drop,Nat.sub_zero,List.drop_zero];congr 1;exact Y5 (by rw [Yg,Qd];lia)
theorem Hi(s:Up l)(c:l[i]?=some j)(x:Nat):x∈l.take i++l.drop (i+1) ↔ x∈l/\x≠j:=by
 have d:=(Qc.mp c).1
 have e:l=l.take i++j::l.drop (i+1):=by
  have:l[i]=j:=by rw [Qe d]at c;exact QB c
  rw [<- this,<- Yl d,QU]
 have f:(l.take i++j::l.drop (i+1)).Nodup:=by rw [<- e];exact s.nodup
 constructor
 ·intro a
  refine⟨?_,fun q=>?_⟩
  ·rw [e];rcases QC.mp a with h | h
   ·exact Q2 _ h
   ·exact Qu _ (Qf _ h)
  ·subst q
   have:=(List.perm_middle.nodup_iff.mp f)
   exact(Yc.mp this).1 a
 ·rintro⟨a,b⟩
  rw [e]at a;rcases QC.mp a with h | h
  ·exact Q2 _ h
  ·rcases Ql.mp h with h | h
   ·exact absurd h b
   ·exact Qu _ h
theorem VP(s:Up xs.toList)(m:j∉xs.toList):Up (Zn xs (ZC xs j) j).toList:=by
 obtain⟨b1,o,n⟩:=pW xs s j;rw [insertAt_list];unfold Up;rw [Q9]
 have d:∀ x∈xs.toList.take (ZC xs j),x<j:=fun x g=>by
  obtain⟨i,c⟩:=QQ g;rw [JK]at c
  split at c
  ·rename_i q;exact o i x c q
  ·cases c
 have f:∀ x∈xs.toList.drop (ZC xs j),j<x:=fun x g=>by
  obtain⟨i,c⟩:=QQ g;rw [List.getElem?_drop]at c
  have:=n _ x c (by lia)
  have l:x≠j:=fun e=>m (e ▸ QN c);lia
 refine⟨s.sublist (List.take_sublist _ _),Q1.mpr ⟨f,s.sublist (List.drop_sublist _ _)⟩,fun a k b h=>?_⟩
 rcases Ql.mp h with rfl | h
 ·exact d a k
 ·exact U6 (d a k) (f b h)
theorem Hj:x∈(Zn xs p j).toList ↔ x=j ∨ x∈xs.toList:=by
 rw [insertAt_list,QC,Ql]
 conv=>rhs;rw [<- QU p xs.toList,QC]
 constructor
 ·rintro(a | a | a)
  ·exact .inr (.inl a)
  ·exact .inl a
  ·exact .inr (.inr a)
 ·rintro(a | a | a)
  ·exact .inr (.inl a)
  ·exact .inl a
  ·exact .inr (.inr a)
theorem VI{d c:Type}{l:List d}{m:List c}{i:Nat}(b:l.length=m.length){q:d × c}(h:q∈(l.take i++l.drop (i+1)).zip (m.take i++m.drop (i+1))):q∈l.zip m:=by
 rw [List.zip_append (by rw [QS,QS,b]),QC]at h;rcases h with h | h
 ·obtain⟨n,a⟩:=QQ h;rw [YM,JK,JK]at a
  split at a
  ·exact QN (i:=n) (by rw [YM];exact a)
  ·cases a.1
 ·obtain⟨n,a⟩:=QQ h;rw [YM,List.getElem?_drop,List.getElem?_drop]at a;exact QN (i:=i+1+n) (by rw [YM];exact a)
theorem OM{t:SetTable}{hs:List Int}{i:Nat}(T:gP t hs)(y:i<hs.length):gP (t.drop i) (hs.take i++hs.drop (i+1))/\(t.drop i).plain=t.plain/\(t.drop i).led=t.led:=by
 have p:i<t.place.toList.length:=by rw [T.len];exact y
 obtain⟨j,g⟩:∃ j,t.place.toList[i]?=some j:=⟨_,Qe p⟩
 have l:t.place[i]?=some j:=by rw [<- QA];exact g
 have o:j∈t.place.toList:=QN g;have s:j∉t.dummies.toList:=fun h=>T.apart j h o
 have e:t.drop i={ t with place:=Z5 t.place i,dummies:=Zn t.dummies (ZC t.dummies j) j }:=by
  unfold SetTable.drop;rw [l]
 rw [e];have d:(Z5 t.place i).toList=t.place.toList.take i++t.place.toList.drop (i+1):=rW _ _
 have A:(Z5 t.place i).toList.length+1=t.place.toList.length:=by
  rw [d,Qo,QS,Yg];lia
 have r:(Zn t.dummies (ZC t.dummies j) j).toList.length=t.dummies.toList.length+1:=by
  rw [(Yp _ _ _).length_eq];simp
 have k:∀ x,x∈(Z5 t.place i).toList++(Zn t.dummies (ZC t.dummies j) j).toList ↔ x∈t.place.toList++t.dummies.toList:=fun x=>by
  rw [QC,QC,d,Hi T.up g,Hj];constructor
  ·rintro(⟨a,_⟩ | a | a)
   ·exact .inl a
   ·exact .inl (a ▸ o)
   ·exact .inr a
  ·rintro(a | a)
   ·by_cases c:x=j
    ·exact .inr (.inl c)
    ·exact .inl ⟨a,c⟩
   ·exact .inr (.inr a)
 refine⟨⟨T.good,?_,?_,VP T.dup s,fun x u=>?_,?_,fun q v=>?_⟩,rfl,rfl⟩
 ·show(Z5 t.place i).toList.length=_
  rw [d,Qo,Qo,QS,Yg,QS,Yg,T.len]
 ·show Up (Z5 t.place i).toList
  rw [d];refine T.up.sublist ?_
  have:(t.place.toList.take i++t.place.toList.drop (i+1)).Sublist (t.place.toList.take i++t.place.toList.drop i):=List.Sublist.append (List.Sublist.refl _) (by
   rw [Yl p];exact List.sublist_cons_self _ _)
  rwa [QU]at this
 ·show x∉(Z5 t.place i).toList
  rw [d,Hi T.up g]
  rintro⟨a,b⟩
  rcases Hj.mp u with c | c
  ·exact b c
  ·exact T.apart x c a
 ·show((Z5 t.place i).toList.length+(Zn t.dummies (ZC t.dummies j) j).toList.length) * 5<t.mask * 3
  have:=T.room
  rw [r];lia
 ·have f:q∈(Z5 t.place i).toList.zip (hs.take i++hs.drop (i+1)):=v;rw [d]at f;obtain⟨n,z,a⟩:=T.reach q (VI T.len f)
  exact⟨n,z,fun m w=>(k _).mpr (a m w)⟩
def mU(prog:Zd)(w:Zf)(V:YP->Prop)(h:Heap)(a:J8)(b:List (List Int)):Prop:=
 ∃ o es ep t,h.get? a=some o/\o.ExactSet/\o.data=.set es ep t/\gP t (es.toList.map (·.1))/\(t.plain=true/\t.led=ledW w)/\Ents prog w h es.toList b/\b.Nodup/\∀ e∈es.toList,V e.2
theorem SetT.toD(S:SetT prog w V h a ks):mU prog w V h a ks:=by
 obtain⟨o,k,l,t,j,i,g,f,e,d,c,b⟩:=S
 exact⟨o,k,l,t,j,i,g,f.toD,e,d,c,b⟩
section
variable {prog:Zd}{w:Zf}{A:Around}{E:YP->J9->Prop}{s:J9}{V:YP->Prop}
theorem D7{a:Type}{l:List a}{i:Nat}{x:a}(h:l[i]?=some x):List.Perm l (x::(l.take i++l.drop (i+1))):=by
 have b:=(Qc.mp h).1
 have:l[i]=x:=by rw [Qe b]at h;exact QB h
 have e:l=l.take i++x::l.drop (i+1):=by rw [<- this,<- Yl b,QU]
 exact(List.Perm.of_eq e).trans List.perm_middle
theorem OJ{a x:J8}{d:List (List Int)}{k:List Int}{Q:Bool->J9->Prop}(G:A.units<Zi)(S:mU prog w V s.heap a d)(J:TK prog w s.heap k x)
  (z:k∉d->Q false s) (y:∀ h' ks',Zk a s.heap h'->mU prog w V h' a ks'->List.Perm d (k::ks')->Q true { s with heap:=h' }) (hsz:d.length<=1000):
  Zb (Zc prog w) A (setDiscardHashed a (.ref x) (TH prog w k)) Q E s:=by
 obtain⟨o,c,N,t,j,r,g,T,u,X,m,v⟩:=S;have l:t.fits c.size=true:=T.fits (by simp);unfold setDiscardHashed;refine Qa (Ge G j g T X J (fun i q=>?_) fun H=>Qb (z H));dsimp only;have n:i<d.length:=(Qc.mp q).1
 have p:i<c.toList.length:=by rw [X.length];exact n
 refine Qa (QK j g l ?_);dsimp only
 have M:c.size=d.length:=by rw [<- X.length,Qd]
 have I:(Z5 c i).size<=c.size:=by
  rw [<- Qd,rW,Qo,QS,Yg,Qd];lia
 refine Qa (Y7 j g ?_ (by rw [Q5];lia))
 have K:(s.heap.update a (ZA (Z5 c i) (t.drop i))).get? a=some { o with data:=.set (Z5 c i) (N+1) (t.drop i) }:=by
  have:=Ya (ZA (Z5 c i) (t.drop i)) j (by rw [Jd _ _ g];rfl)
  rw [Jd _ _ g]at this;exact this
 have h:=QW s.heap a (ZA (Z5 c i) (t.drop i));obtain⟨O,F,B⟩:=OM (i:=i) T (by rw [Qi];exact p);refine Qa (wpAny_point (Qb (y _ (d.take i++d.drop (i+1)) h ⟨_,_,_,_,K,r,rfl,?_,⟨by rw [F];exact u.1,by rw [B];exact u.2⟩,?_,?_,fun e f=>?_⟩ (D7 q))))
 ·rw [rW,Yd,List.map_take,List.map_drop];exact O
 ·rw [rW]
  exact((X.take i).append (X.drop (i+1))).mono fun k b=>TK.keep j g h
 ·exact(Yc.mp ((D7 q).nodup_iff.mp m)).2
 ·rw [rW]at f;rcases QC.mp f with f | f
  ·exact v e (List.mem_of_mem_take f)
  ·exact v e (List.mem_of_mem_drop f)
abbrev rY(w:Zf):Obj:={ cls:=.type "set",dict:=none,data:=.set #[] 0 (.fresh 0 0 (ledW w)) }
theorem Gw(h:Q (.ref s.heap.objs.size) { s with heap:=s.heap.push (rY w) }):Zb (Zc prog w) A (newSet (.type "set")) Q E s:=by
 unfold newSet setsByText;refine Qa (Qa (UT (Qb ?_)));dsimp only;simp only [newObj];exact Qa (wpAny_alloc (Qb h))
structure yK(w:Zf)(t:SetTable)(M:Nat):Prop where
 good:Good M
 mask:t.mask=M
 place:t.place=#[]
 dum:t.dummies=#[]
 plain:t.plain=true
 led:t.led=ledW w
theorem Tm(t:SetTable)(a:Nat):t.relaid #[] a=some ({ mask:=Zo a-1,place:=#[],dummies:=#[],finger:=t.finger,led:=t.led,moves:=t.movedTo (Zo a-1),plain:=t.plain },#[]):=by
 unfold relaid laid layClean
 have e:∀ M:Nat,((List.range (M+1)).filterMap fun j=>((Array.replicate (M+1) (none:Option Nat)).getD j none).map (j,·))=[]:=fun M=>by
  rw [List.filterMap_eq_nil_iff];intro j _
  have:(Array.replicate (M+1) (none:Option Nat)).getD j none=none:=by
   unfold Array.getD;split
   ·simp
   ·rfl
  rw [this];rfl
 show some _=_
 simp only [e];rfl
theorem P6(h5:n * 5 >= 21)(d:n<=75):∃ M,Zo (n * 2)-1=M/\Good M/\n * 5<M * 3/\¬ Zo (n * 2) > sizeLine:=by
 have h:∀ n:Fin 76,n.val * 5 >= 21->(Zo (n.val * 2)-1=15 ∨ Zo (n.val * 2)-1=31 ∨ Zo (n.val * 2)-1=63 ∨ Zo (n.val * 2)-1=127 ∨ Zo (n.val * 2)-1=255)/\n.val * 5<(Zo (n.val * 2)-1) * 3/\Zo (n.val * 2)<=256:=by decide +kernel
 obtain⟨c,b,a⟩:=h ⟨n,by lia⟩ h5
 refine⟨_,rfl,?_,b,by rw [Q5];exact Nat.not_lt.mpr (QJ a (by decide))⟩
 unfold Good
 rcases c with e | e | e | e | e <;> simp only at e <;> lia
theorem Wv(d:n<=63):∃ M,Zo (Vq n)-1=M/\Good M/\n * 5<M * 3/\¬ Zo (Vq n) > sizeLine:=by
 have h:∀ n:Fin 64,(Zo (Vq n.val)-1=7 ∨ Zo (Vq n.val)-1=15 ∨ Zo (Vq n.val)-1=31 ∨ Zo (Vq n.val)-1=63 ∨ Zo (Vq n.val)-1=127 ∨ Zo (Vq n.val)-1=255)/\n.val * 5<(Zo (Vq n.val)-1) * 3/\Zo (Vq n.val)<=256:=by decide +kernel
 obtain⟨c,b,a⟩:=h ⟨n,by lia⟩
 refine⟨_,rfl,?_,b,by rw [Q5];exact Nat.not_lt.mpr (QJ a (by decide))⟩
 unfold Good
 rcases c with e | e | e | e | e | e <;> simp only at e <;> lia
theorem Ts(e:s.heap.get? r=some o)(f:o.ExactSet)(d:o.data=.set #[] ep t)(B:yK w t 7)(p:n<=75)
  (h:∀ h' o' ep' t' M,Zk r s.heap h'->h'.get? r=some o'->o'.ExactSet->o'.data=.set #[] ep' t'->yK w t' M->n * 5<M * 3->Q () { s with heap:=h' }):Zb (Zc prog w) A (setRoomFor r n) Q E s:=by
 have b:t.fits (#[]:Array (Int × YP)).size=true:=by unfold Z9 Us;rw [B.place,B.dum];simp
 unfold setRoomFor;refine Qa (QK e d b ?_);unfold SetTable.roomFor Us;rw [B.place,B.dum,B.mask];by_cases c:(0+n) * 5 >= 7 * 3
 ·rw [if_pos (by simpa using c)];obtain⟨M,m,l,k,j⟩:=P6 (n:=n) (by lia) p;unfold setRelay;refine Qa (QK e d b ?_);dsimp only
  have q:((#[]:Array Nat).size+n) * 2=n * 2:=by simp
  rw [q,if_neg j];have i:=Tm t (n * 2);rw [m]at i
  have u:((#[]:Array (Int × YP)).map (·.1))=#[]:=by simp
  rw [u,i];refine Qa (UZ (a:=((#[]:Array (Int × YP)),({ mask:=M,place:=#[],dummies:=#[],finger:=t.finger,led:=t.led,moves:=t.movedTo M,plain:=t.plain }:SetTable))) (by rfl) ?_);dsimp only;refine Y7 e d ?_ (by simp);have g:=Ya (ZA #[] { mask:=M,place:=#[],dummies:=#[],finger:=t.finger,led:=t.led,moves:=t.movedTo M,plain:=t.plain }) e (by rw [Jd _ _ d];rfl);rw [Jd _ _ d]at g;exact h _ _ _ _ M (QW ..) g f rfl ⟨l,rfl,rfl,rfl,B.plain,B.led⟩ k
 ·rw [if_neg (by simpa using c)];exact Qb (h s.heap o ep t 7 (UJ ..) e f d B (by lia))
theorem Pn(G:r≠a)(U:s.heap.get? r=some o)(K:o.ExactSet)(Z:o.data=.set #[] ep t)(B:yK w t 7)
  (S:SetT prog w V s.heap a ks) (hn:ks.length<=75) (h:∀ h' ks',Zk r s.heap h'->SetT prog w V h' r ks'->List.Perm ks' ks->Q () { s with heap:=h' }):Zb (Zc prog w) A (setMerge r a (pure ())) Q E s:=by
 obtain⟨oa,f,a3,m,ha,a0,Y,T,N,X,H,hV⟩:=S
 have y:f.size=ks.length:=by rw [<- X.length,Qd]
 unfold setMerge;rw [if_neg (by simpa using G)];refine Qa (QK ha Y (T.fits (by simp)) ?_);dsimp only;by_cases em:f.isEmpty=true
 ·rw [if_pos em]
  have e0:f=#[]:=by simpa using em
  have k0:ks=[]:=by
   rw [e0]at y;exact JH y.symm
  subst k0;refine Qb (h s.heap [] (UJ ..) ⟨o,#[],ep,t,U,K,Z,?_,⟨B.plain,B.led⟩,.nil,YH,fun e W=>by simp at W⟩ (.refl _))
  exact⟨by rw [B.mask];exact B.good,B.dum,by rw [B.place];rfl,by rw [B.place];exact List.Pairwise.nil,fun x hx=>by rw [B.place]at hx;simp at hx,by rw [B.place,B.mask];decide,fun q hq=>by rw [B.place]at hq;simp at hq⟩
 ·rw [if_neg em];refine Qa (Ts U K Z B (by rw [y];exact hn) fun z o1 a4 j M sb1 l u g B1 hM=>?_);have a2:z.get? a=some oa:=(sb1.2 a (Ua G)).trans ha;have X1:Ents prog w z f.toList ks:=X.mono fun k b=>TK.keep U Z sb1;refine Qa (QK (s:={ s with heap:=z }) l g (by unfold Z9 Us;rw [B1.place,B1.dum];simp) ?_);dsimp only
  have hf:(j.fill != 0)=false:=by unfold Us;rw [B1.place,B1.dum];rfl
  have F:f.size<=sizeLine:=by rw [Q5];lia
  unfold SetTable.road;rw [hf,if_neg Qr];by_cases c:(j.mask == m.mask && m.dummies.isEmpty)=true
  ·rw [if_pos c];dsimp only;refine Y7 (s:={ s with heap:=z }) l g ?_ F;have J:=Ya (ZA f { m with finger:=j.finger,led:=j.led && m.led,moves:=j.moves,plain:=j.plain && m.plain }) l (by rw [Jd _ _ g];rfl);rw [Jd _ _ g]at J;have sb2:=QW z r (ZA f { m with finger:=j.finger,led:=j.led && m.led,moves:=j.moves,plain:=j.plain && m.plain });refine h _ ks (sb1.trans sb2) ⟨_,_,_,_,J,u,rfl,⟨T.good,T.dum,T.len,T.up,T.le,T.room,T.reach⟩,⟨?_,?_⟩,X1.mono fun k b=>TK.keep l g sb2,H,hV⟩ (.refl _)
   ·show(j.plain && m.plain)=true
    rw [B1.plain,N.1];rfl
   ·show(j.led && m.led)=ledW w
    rw [B1.led,N.2,J2]
  ·rw [if_neg c];dsimp only;obtain⟨O,d,r1,R,r3,r4,r5⟩:=G3 (hs:=f.map (·.1)) (M:=M) j.finger j.moves (j.led && m.led) (j.plain && m.plain) B1.good (by rw [YO];exact hM)
   have I:∀ i∈d.toList,i<f.toList.length:=fun i hi=>by
    have:=QY.mp (R.mem_iff.mp hi)
    simpa using this
   have v:(d.filterMap (f[·]?)).toList=d.toList.filterMap (f.toList[·]?):=by
    rw [Y6];congr 1
    funext i
    rw [QA]
   have p:List.Perm (d.filterMap (f[·]?)).toList f.toList:=by
    rw [Y6]
    refine(R.filterMap _).trans ?_
    rw [YO,Uu]
   have n:(d.filterMap (f[·]?)).size=f.size:=by rw [<- Qd,p.length_eq,Qd]
   rw [B1.mask,r1];refine Qa ?_
   show Zb _ _ (if((d.filterMap (f[·]?)).size != f.size)=true then _ else pure (d.filterMap (f[·]?),O)) _ _ _
   rw [if_neg (by simp [n])];refine Qb ?_;dsimp only;refine Y7 (s:={ s with heap:=z }) l g ?_ (by rw [n];exact F);have J:=Ya (ZA (d.filterMap (f[·]?)) O) l (by rw [Jd _ _ g];rfl);rw [Jd _ _ g]at J;have sb2:=QW z r (ZA (d.filterMap (f[·]?)) O)
   have kp:List.Perm (d.toList.filterMap (ks[·]?)) ks:=by
    refine(R.filterMap _).trans ?_
    rw [YO,<- Qd,X.length,Yq]
   refine h _ (d.toList.filterMap (ks[·]?)) (sb1.trans sb2) ⟨_,_,_,_,J,u,rfl,?_,⟨by rw [r5,B1.plain,N.1];rfl,by rw [r4,B1.led,N.2,J2]⟩,?_,kp.nodup_iff.mpr H,fun e W=>hV e (p.mem_iff.mp W)⟩ kp
   ·rw [v,hs_pick _ _ I]
    simpa using r3
   ·rw [v]
    exact(X1.pick _ I).mono fun k b=>TK.keep l g sb2
theorem vB(b:s.TypeIs (.ref a) "set")(h:Q true s):Zb (Zc prog w) A (Uh (.ref a)) Q E s:=by
 unfold Uh orM;refine Qa (Je b sub_set_self ?_);exact Qb h
theorem base_of(b:s.TypeIs (.ref a) "set")(h:Q (.type "set") s):Zb (Zc prog w) A (Builtin.Frozenset.baseOf a) Q E s:=by
 unfold Builtin.Frozenset.baseOf;refine Qa (Je b sub_set_self ?_);rw [if_pos rfl];exact Qb h
theorem wZ(b:s.heap.get? a=some o)(d:o.data=.set es ep t)(c:t.fits es.size=true)(h:Q es.size s):Zb (Zc prog w) A (Uv a) Q E s:=by
 unfold Uv;exact Qa (J1 b d c (Qb h))
theorem O5(S:SetT prog w V s.heap a ks)(m:ks.length<=75)
  (h:∀ h' ks',(∀ b o,s.heap.get? b=some o->h'.get? b=some o)->SetT prog w V h' s.heap.objs.size ks'->List.Perm ks' ks->Q (.ref s.heap.objs.size) { s with heap:=h' }):Zb (Zc prog w) A (Builtin.Frozenset.copyOf a) Q E s:=by
 obtain⟨j,y,q,u,f,c,n,T,v,X,l,x⟩:=id S;have p:s.TypeIs (.ref a) "set":=⟨j,f,c.1⟩;have k:=Qs f;unfold Builtin.Frozenset.copyOf;refine Qa (base_of p (Qa (Gw ?_)));refine Qa (Qb ?_);have t:SetT prog w V (s.heap.push (rY w)) a ks:=S.moved fun b o e _=>Qh _ e;refine Qa (Pn (s:={ s with heap:=s.heap.push (rY w) }) (r:=s.heap.objs.size) (Jf k) (Qy _ rfl) ⟨rfl,rfl,rfl⟩ rfl ⟨.inl rfl,rfl,rfl,rfl,rfl,rfl⟩ t m fun h' ks' g d i=>?_);exact Qb (h h' ks' (fun b o e=>(g.2 b (Qz (Qs e))).trans (Qh _ e)) d i)
theorem Kc(S:gS w s.heap a o es ep t)(h:Q (gG w a ep es) s):
  Zb (Zc prog w) A (setWalkUnseen a others filled) Q E s:=by
 unfold setWalkUnseen;refine Qa (QK S.get S.data S.fits ?_);dsimp only;refine Qa (vM ?_)
 have c:(w.params.followText "set-order" || (t.led && t.plain) || decide (es.size<=1))=true:=by
  rw [S.led,S.plain,ledW]
  cases w.params.followText "set-order" <;> rfl
 rw [c,if_pos rfl];exact Kb S h
theorem v9{id:String}{a:J8}{o:Obj}{es:Array (Int × YP)}{ep:Nat}{t:SetTable}{Q:Unit->J9->Prop}(b:s.heap.get? a=some o)(d:o.data=.set es ep t)(c:t.fits es.size=true)(h:Q () s):Zb (Zc prog w) A (Builtin.Frozenset.unchanged id a ep) Q E s:=by
 unfold Builtin.Frozenset.unchanged setEpoch;refine Qa (Qa (QK b d c (Qb ?_)));rw [if_neg (by simp)];exact Qb h
theorem SetT.setAt(S:SetT prog w V h a ks):∃ o es ep t,gS w h a o es ep t/\TOk t (es.toList.map (·.1))/\Ents prog w h es.toList ks/\∀ e∈es.toList,V e.2:=by
 obtain⟨o,es,ep,t,j,i,g,b,c,f,k,d⟩:=S
 exact⟨o,es,ep,t,⟨j,i,g,b.fits (by simp),b.up,c.1,c.2⟩,b,f,d⟩
structure Kq(prog:Zd)(w:Zf)(V:YP->Prop)(s:J9)(ka kb:List (List Int))(rest:List (Int × YP))(s':J9)(h':Heap)(kc kd krest:List (List Int)):Prop where
 eq:s'={ s with heap:=h' }
 kp:∀ b o,s.heap.get? b=some o->h'.get? b=some o
 SC:mU prog w V h' s.heap.objs.size kc
 Xr:Ents prog w s.heap rest krest
 pk:List.Perm (kd++krest) kb
 lc:kc.length<=63
 me:∀ k,k∈kc ↔ k∈ka/\k∉kd
structure Kr(prog:Zd)(w:Zf)(V:YP->Prop)(s:J9)(ka kb:List (List Int))(rest:List (Int × YP))(s':J9)(h':Heap)(kr kd krest:List (List Int)):Prop where
 eq:s'={ s with heap:=h' }
 kp:∀ b o,s.heap.get? b=some o->h'.get? b=some o
 SR:SetT prog w V h' s.heap.objs.size kr
 Xr:Ents prog w s.heap rest krest
 pk:List.Perm (kd++krest) ka
 me:∀ k,k∈kr ↔ k∈kd/\k∉kb
 vr:∀ e∈rest,V e.2
theorem OI{id:String}{a b:J8}{ka kb:List (List Int)}{Q:YP->J9->Prop}(b2:a≠b)(hu:A.units<Zi)(SA:SetT prog w V s.heap a ka)(SB:SetT prog w V s.heap b kb)(a5:ka.length<=63)
  (h:∀ h' r ks,s.heap.objs.size<=r->(∀ b o,s.heap.get? b=some o->h'.get? b=some o)->mU prog w V h' r ks->(∀ k,k∈ks ↔ k∈ka/\k∉kb)->Q (.ref r) { s with heap:=h' }):
  Zb (Zc prog w) A (Builtin.Frozenset.difference id a (.ref b)) Q E s:=by
 obtain⟨oa,ea,pa,ta,Sa,Ta,Xa,Va⟩:=SA.setAt;obtain⟨ob,eb,pb,tb,Sb,Tb,Xb,Vb⟩:=SB.setAt;have a8:s.TypeIs (.ref a) "set":=⟨oa,Sa.get,Sa.ex.1⟩;have a7:s.TypeIs (.ref b) "set":=⟨ob,Sb.get,Sb.ex.1⟩;have a2:=SA.nodup;unfold Builtin.Frozenset.difference;refine Qa (vB a7 ?_);simp only [Q0,Qg,if_false,Bool.false_and];unfold Z0;refine Qa (Qb ?_);simp only [if_true];refine Qa (wZ Sb.get Sb.data Sb.fits ?_);refine Qa (wZ Sa.get Sa.data Sa.fits ?_);by_cases c:ea.size / 4 > eb.size
 ·rw [if_pos c];refine Qa (Jm ?_);refine Qa (O5 SA (by lia) fun O G U SR pr=>?_);have lb:=Qs Sb.get;have Sb1:=Sb.at (U _ _ Sb.get);have Z:({ s with heap:=O }:J9).TypeIs (.ref b) "set":=⟨ob,Sb1.get,Sb.ex.1⟩;refine Qa (Qb ?_);refine Qa (Q7 ?_);unfold Builtin.Frozenset.differenceUpdate;rw [if_neg (by simpa using Qz lb)];refine Qa (vB Z ?_);rw [if_pos rfl];unfold Z0;refine Qa (Qb ?_);refine Qa (wZ (s:={ s with heap:=O }) Sb1.get Sb1.data Sb1.fits ?_);obtain⟨oR,eR,pR,tR,SatR,TR,XR,VR⟩:=SR.setAt;refine Qa (wZ (s:={ s with heap:=O }) SatR.get SatR.data SatR.fits ?_)
  have a9:eR.size=ea.size:=by rw [<- Qd,XR.length,pr.length_eq,<- Xa.length,Qd]
  rw [if_neg (by lia)];dsimp only;refine Qa (wpAny_setEpoch_of (s:={ s with heap:=O }) Sb1.get Sb1.data Sb1.fits ?_);refine Qa (Q7 (Qa (Kc (s:={ s with heap:=O }) Sb1 ?_)));obtain⟨ko,Xo,po⟩:=Xb.perm (mH w b pb eb).symm;rw [<- YG];refine Qa (Yo _ (fun g _ K=>∃ h' I kd d,Kq prog w V s ka kb g K h' I kd d) _ ?_ ?_ _ _ ?_)
  ·rintro x g _ K ⟨h',I,kd,d,rfl,m,R,u,B,lc,mk⟩
   cases u with
   | @cons k bx _ d Y u=>
    have H:TK prog w h' k bx:=Y.at fun o e=>m bx o e
    have y:List.Perm ((kd++[k])++d) kb:=by rw [QG];exact B
    dsimp only;refine Qa (Q7 (OJ (s:={ s with heap:=h' }) hu R H (fun hn=>?_) (fun j kc2 S S2 F=>?_) (by lia)))
    ·have Sb2:=Sb.at (m _ _ Sb.get);refine Qa (v9 (s:={ s with heap:=h' }) Sb2.get Sb2.data Sb2.fits (Qb ?_))
     refine⟨h',I,kd++[k],d,rfl,m,R,u,y,lc,fun v=>?_⟩
     rw [mk v,QC,QF];constructor
     ·rintro⟨f,l⟩
      exact⟨f,fun z=>z.elim l fun z=>hn (z ▸ (mk v).mpr ⟨f,l⟩)⟩
     ·rintro⟨f,l⟩
      exact⟨f,fun z=>l (.inl z)⟩
    ·have p:∀ b o,s.heap.get? b=some o->j.get? b=some o:=fun b o e=>(S.2 b (Qz (Qs e))).trans (m b o e);have Sb2:=Sb.at (p _ _ Sb.get);refine Qa (v9 (s:={ s with heap:=j }) Sb2.get Sb2.data Sb2.fits (Qb ?_))
     have nd:(k::kc2).Nodup:=by
      obtain⟨_,_,_,_,_,_,_,_,_,_,z7,_⟩:=R;exact F.nodup_iff.mp z7
     have ll:=F.length_eq;rw [Qv]at ll
     refine⟨j,kc2,kd++[k],d,rfl,p,S2,u,y,by lia,fun v=>?_⟩
     rw [QC,QF]
     have m1:v∈I ↔ v=k ∨ v∈kc2:=by rw [F.mem_iff,Ql]
     constructor
     ·intro hx
      have:=(mk v).mp (m1.mpr (.inr hx))
      exact⟨this.1,fun z=>z.elim this.2 fun z=>(Yc.mp nd).1 (z ▸ hx)⟩
     ·rintro⟨f,l⟩
      rcases m1.mp ((mk v).mpr ⟨f,fun z=>l (.inl z)⟩)with z | z
      ·exact absurd (.inr z) l
      ·exact z
  ·rintro _ K ⟨h',I,kd,d,rfl,m,R,u,B,lc,mk⟩;cases u;rw [QP]at B;refine Qb ?_
   have fin:∀ j kc2,(∀ b o,s.heap.get? b=some o->j.get? b=some o)->mU prog w V j s.heap.objs.size kc2->List.Perm kc2 I->Zb (Zc prog w) A (pure (Ze s.heap.objs.size)) Q E { s with heap:=j }:=fun j kc2 p S2 F=>
    Qb (h j _ kc2 (Qm _) p S2 fun k=>by rw [F.mem_iff,mk k,B.mem_iff])
   obtain⟨o,es,ep,t,ho,a6,hd,T,hp,X,a4,hV⟩:=_root_.id R;have J:t.fits es.size=true:=T.fits (by simp)
   have b0:es.size=I.length:=by rw [<- X.length,Qd]
   unfold setTidy;refine Qa (QK (s:={ s with heap:=h' }) ho hd J ?_);dsimp only;by_cases td:t.tooManyDummies=true
   ·rw [if_pos td];obtain⟨M,m1,m2,m3,m4⟩:=Wv (n:=es.size) (by lia);refine wR (s:={ s with heap:=h' }) (V:=V) ho a6 hd J hp X a4 hV m1 m2 m3 m4 (by rw [Q5];lia) fun j kc2 S S2 F=>?_;exact fin j kc2 (fun b o e=>(S.2 b (Qz (Qs e))).trans (m b o e)) S2.toD F
   ·rw [if_neg td];exact Qb (fin h' I m R (.refl _))
  ·exact⟨O,G,[],ko,rfl,U,SR.toD,Xo,po,by rw [pr.length_eq];exact a5,fun k=>by rw [pr.mem_iff];simp⟩
 ·rw [if_neg c];refine Qa (base_of a8 (Qa (Gw ?_)));refine Qa (Qb ?_);have W:∀ b o,s.heap.get? b=some o->(s.heap.push (rY w)).get? b=some o:=fun b o e=>Qh _ e;have Sa0:=Sa.at (W _ _ Sa.get);refine Qa (wpAny_setEpoch_of Sa0.get Sa0.data Sa0.fits ?_);refine Qa (Q7 (Qa (Kc (s:={ s with heap:=s.heap.push (rY w) }) Sa0 ?_)));obtain⟨ko,Xo,po⟩:=Xa.perm (mH w a pa ea).symm;rw [<- YG];refine Qa (Yo _ (fun g _ K=>∃ h' G kd d,Kr prog w V s ka kb g K h' G kd d) _ ?_ ?_ _ _ ?_)
  ·rintro x g _ K ⟨h',G,kd,d,rfl,m,SR,u,B,mk,vr⟩
   cases u with
   | @cons k bx _ d Y u=>
    have H:TK prog w h' k bx:=Y.at fun o e=>m bx o e;have Sb':=Sb.at (m _ _ Sb.get);have Sa':=Sa.at (m _ _ Sa.get)
    have a0:k∉kd:=by
     have:=B.nodup_iff.mpr a2
     have:=List.perm_middle.nodup_iff.mp this
     exact fun hh=>(Yc.mp this).1 (Q2 _ hh)
    have y:List.Perm ((kd++[k])++d) ka:=by rw [QG];exact B
    refine Qa (Q7 (Qa (Ge (s:={ s with heap:=h' }) hu Sb'.get Sb'.data Tb.toD (Xb.mono fun k b x=>x.at fun o e=>m b o e) H (fun i hi=>?_) fun hn=>?_)))
    ·refine Qa (Qb ?_);simp only [Option.isSome_some,Q0,Qg,if_false];refine Qb ?_;refine Qa (v9 (s:={ s with heap:=h' }) Sa'.get Sa'.data Sa'.fits (Qb ?_))
     refine⟨h',G,kd++[k],d,rfl,m,SR,u,y,fun v=>?_,fun e N=>vr e (Qf _ N)⟩
     rw [mk v,QC,QF];constructor
     ·rintro⟨f,l⟩;exact⟨.inl f,l⟩
     ·rintro⟨f | f,l⟩
      ·exact⟨f,l⟩
      ·exact absurd (f ▸ QN hi) l
    ·refine Qa (Qb ?_);simp only [Option.isSome_none,Jr,if_true]
     have lk:G.length<=63:=by
      have O:G.length<=kd.length:=Yu SR.nodup fun k Y=>((mk k).mp Y).1;have j:=B.length_eq;rw [Qo]at j;lia
     refine Qa (vF (s:={ s with heap:=h' }) hu SR H (vr _ Qk) (by lia) (fun hm=>absurd ((mk k).mp hm).1 a0) fun _ j a3 S S2 F=>?_);have p:∀ b o,s.heap.get? b=some o->j.get? b=some o:=fun b o e=>(S.2 b (Qz (Qs e))).trans (m b o e);have Sa2:=Sa.at (p _ _ Sa.get);refine Qb (Qa (v9 (s:={ s with heap:=j }) Sa2.get Sa2.data Sa2.fits (Qb ?_)))
     refine⟨j,a3,kd++[k],d,rfl,p,S2,u,y,fun v=>?_,fun e N=>vr e (Qf _ N)⟩
     rw [F.mem_iff,Ql,mk v,QC,QF];constructor
     ·rintro(f | ⟨f,l⟩)
      ·exact⟨.inr f,f ▸ hn⟩
      ·exact⟨.inl f,l⟩
     ·rintro⟨f | f,l⟩
      ·exact .inr ⟨f,l⟩
      ·exact .inl f
  ·rintro _ K ⟨h',G,kd,d,rfl,m,SR,u,B,mk,vr⟩;cases u;rw [QP]at B;refine Qb (Qb (h h' _ G (Qm _) m SR.toD fun k=>?_));rw [mk k,B.mem_iff]
  ·refine⟨_,[],[],ko,rfl,W,⟨_,#[],0,_,Qy _ rfl,⟨rfl,rfl,rfl⟩,rfl,⟨.inl rfl,rfl,rfl,List.Pairwise.nil,fun x hx=>by simp [Vf]at hx,(by show 0 * 5<7 * 3;decide),fun q hq=>by simp at hq⟩,⟨rfl,rfl⟩,.nil,YH,fun e N=>by simp at N⟩,Xo,po,fun k=>by simp,fun e N=>Va e ((mH w a pa ea).mem_iff.mp N)⟩
theorem Wl(f:a≠b)(t:A.units+8<Zi)(SA:SetT prog w V s.heap a ka)(SB:SetT prog w V s.heap b kb)(e:ka.length<=63)
  (h:∀ h' r ks,s.heap.objs.size<=r->(∀ b o,s.heap.get? b=some o->h'.get? b=some o)->mU prog w V h' r ks->(∀ k,k∈ks ↔ k∈ka/\k∉kb)->Q (.ref r) { s with heap:=h' }):
  Zb (Zc prog w) A (ZH .Sub (.ref a) (.ref b)) Q E s:=by
 obtain⟨i,v,q,n,Sa,I,y,G⟩:=SA.setAt;obtain⟨g,u,p,m,Sb,H,x,B⟩:=SB.setAt;have c:s.TypeIs (.ref a) "set":=⟨i,Sa.get,Sa.ex.1⟩;have d:s.TypeIs (.ref b) "set":=⟨g,Sb.get,Sb.ex.1⟩;refine wpAny_binaryOp_same c d PySem.F.fills_set_sub PySem.F.slot_set_sub (Yh PySem.F.slot_set_sub c PySem.F.set_sub_entry ?_ (PySem.F.args_set_sub_2 _ _));unfold Builtin.«frozenset.__sub__»
 wp_delta
 refine Qa (UZ (a:=(Ze a,Ze b)) (by rfl) ?_);simp only [Qg,if_false];refine Qa ?_;unfold andM;refine Qa (vB c ?_)
 show Zb _ _ (Uh (.ref b)) _ _ _
 refine vB d ?_;simp only [Q0,Qg,if_false];unfold Z0;refine Qa (Qb (Qa (OI f (by show A.units+1<Zi;lia) SA SB e fun h' r ks l j S mk=>?_)));exact Qb ⟨_,rfl,(fun z=>nomatch z),h h' r ks l j S mk⟩
end
end ST
namespace SL
open PySem.Spec L2 CL DL SD ST
def AR(g1 g2:aA->Option (List (List Int))):aA->Option (List (List Int)):=fun a=>(g1 a).bind fun x=>(g2 a).bind fun y=>if x.length<=63 then some (x.filter fun k => !y.contains k)else none
section
variable {X:Cx}{a b:Expr}{pos:Pos}{g1 g2:aA->Option (List (List Int))}
theorem Ents.carry(f:Inv X pins σ H1 s1)(d:Inv X pins' σ' H2 s2)(a:dX H1 H2):∀{es:List (Int × YP)}{ks:List (List Int)},Ents X.prog X.w s1.heap es ks->(∀ e∈es,VT X.K H1 e.2)->Ents X.prog X.w s2.heap es ks
 | _,_,.nil,_=>.nil
 | _,_,.cons (k:=k) (b:=bx) h1 r,hv=>by
  obtain⟨i,xs,h,c⟩:=hv _ Qk;cases h
  have:k=xs:=h1.unique (kH f c)
  subst this;exact .cons (kH d (dX.sqT a c)) (Ents.carry f d a r fun e g=>hv e (Qf _ g))
theorem OO(hc:X.calm=true)(hu:X.A.units+66<Zi)(ha:t0 X a g1)(hb:t0 X b g2):yL X (.BinOp a .Sub b pos) (AR g1 g2):=by
 intro d s l H Q I ⟨F,i,ρ,kl,S,q,k⟩;obtain⟨x,e1,q⟩:=aE q;obtain⟨y,e2,q⟩:=aE q;by_cases c:x.length<=63
 ·rw [if_pos c]at q;cases q;refine wpAny_BinOp (aW (ha d s l H (fun f n=>f.Nodup/\(∀ k,k∈f ↔ k∈x)/\∃ j,aI F j H n) I ⟨F,i,ρ,x,S,e1,fun j n f E1 n1 O=>⟨n1,O,j,E1⟩⟩) fun u s1 R=>?_);obtain⟨a1,o1,ka,n,eu,I1,S1,_,_,O,j,E1⟩:=R;refine aW (hb ((a1,o1)::d) s1 l n (fun f g=>f.Nodup/\(∀ k,k∈f ↔ k∈y)/\∃ z,aI j z n g) I1 ⟨j,i,ρ,y,S.ext E1,e2,fun z g f E2 n2 W=>⟨n2,W,z,E2⟩⟩) fun v s2 R=>?_;obtain⟨a2,o2,kb,g,ev,I2,S2,ap,_,W,z,E2⟩:=R;subst eu;subst ev;have g1:s2.heap.get? a1=some o1:=(I2.pin (a1,o1) (Qu _ (Qf _ Qk))).1;have Z:a1≠a2:=ap (a1,o1) Qk
  have SA:SetT X.prog X.w (VT X.K g) s2.heap a1 ka:=by
   obtain⟨o,es,ep,t,N,U,M,J,G,T,E,B⟩:=S1
   have:s1.heap.get? a1=some o1:=(I1.pin (a1,o1) (Qu _ Qk)).1
   rw [N]at this;cases this
   exact⟨_,es,ep,t,g1,U,M,J,G,Ents.carry I1 I2 E2.same T B,E,fun e he=>by
    obtain⟨b',xs,e1,e2⟩:=B e he
    exact⟨b',xs,e1,dX.sqT E2.same e2⟩⟩
  refine Wl Z (by lia) SA S2 ?_ fun h' r f Y kp SD mk=>?_
  ·have:ka.length<=x.length:=Yu SA.nodup fun k h=>(O k).mp h
   lia
  ·obtain⟨o,es,ep,t,N,U,M,J,G,T,E,B⟩:=SD;have I3:Inv X d l g s2:=I2.pins_of fun p m=>I2.pin p (Qu _ (Qf _ (Qf _ m)));have I4:Inv X d l g { s2 with heap:=h' }:=I3.kept (t':=s2.toks) kp
   have I5:Inv X ((r,o)::d) l g { s2 with heap:=h' }:=by
    refine I4.pins_of fun p m=>?_;rcases Ql.mp m with rfl | m
    ·refine⟨N,I2.hok.fresh Y,Jf (QX I2.lt Y),I2.nofs Y,fun v hv=>?_⟩
     rw [M]at hv;exact nomatch hv
    ·exact I4.pin p (Qu _ m)
   refine⟨r,o,f,g,rfl,I5,⟨es,ep,t,⟨N,U,M,J.fits (by simp),J.up,G.1,G.2⟩,T,E,B⟩,k z g f (E1.trans E2) E fun k=>?_⟩
   rw [mk k,O k,W k,Ym];simp
 ·rw [if_neg c]at q;cases q
end
theorem FQ{X:Cx}{d:ZE}:DS X d (fun _=>none):=fun a s e H W I q=>by
 obtain⟨c,b,F,f,o,E,S,q,k⟩:=q;cases q
end SL
namespace DC
theorem Po:typeLookup (.type "list") "keys"=pure none:=by rw [typeLookup_type,UO];kernel_rfl
section
variable {prog:Zd}{w:Zf}{A:Around}{E:YP->J9->Prop}{s:J9}
theorem Py(l:s.heap.get? a=some o)(n:o.cls=.type "list")(f:o.data=.seq xs k)(m:o.dict=none)(u:A.handled=none)
  (h:∀ h' tk,(∀ b ob,s.heap.get? b=some ob->h'.get? b=some ob)->Q none { s with heap:=h',toks:=tk }):Zb (Zc prog w) A (getAttr? (.ref a) "keys") Q E s:=by
 obtain⟨c,v,dat,q⟩:=o
 simp only at n f m
 subst n f m;obtain⟨t,g,d,tk,r⟩:=s;have p:∀ i,(⟨t,g,d,i,r⟩:J9).TypeIs (.ref a) "list":=fun _=>⟨_,l,rfl⟩;have I:=sub_AttributeError;have H:=F.slot_list_getattribute.lookup;have G:=F.slot_list_getattribute.bind (.ref a);have B:=am_list_getattr_none;unfold getAttr? getAttrBy? getAttrBy
 repeat (any_goals (first | assumption | exact p _ | ((with_reducible show Zb _ _ (call (Value.builtin "list.__getattribute__") _ _) _ _ _);refine call_meets F.slot_list_getattribute (p _) am_entry_list_getattribute (F.args_list_getattribute_2 _ _) (meets_getattribute_miss_list a xs k q "keys" _ Po (by decide +kernel)) ⟨l,u,fun h' i e j=>?_⟩) | wp_step))
 obtain⟨y,x,z⟩:=j.there
 show Zb _ _ (getattributeRaised _ _ _ _ _ _ _) _ _ _
 unfold getattributeRaised
 repeat (any_goals (first | assumption | wp_step))
 exact h _ _ j.keeps
end
theorem FV:entryFor table "dict.update.loop"=some Builtin.«dict.update.loop»:=entryFor_of_tree (by kernel_rfl)
theorem x8:plainId "dict.update.loop"=true:=by decide +kernel
section
variable {κ:Type}[DecidableEq κ]
def gT(b:Nat->κ)(c:Nat->J8)(a:Nat->YP):Nat->List (κ × J8 × YP)
 | 0=>[]
 | i+1=>Vn (gT b c a i) (b i) (c i) (a i)
variable {key:Nat->κ}{kad:Nat->J8}{val:Nat->YP}
theorem Bb:∀ i,(gT key kad val i).length<=i
 | 0=>Qm _
 | i+1=>by
  have:=Bb i
  unfold gT Vn;split
  ·rw [Qi];lia
  ·rw [Qo,Yk];lia
theorem Bc:∀ i,∀ x∈gT key kad val i,∃ j,j<i/\x.1=key j/\x.2.1=kad j
 | 0,x,h=>nomatch h
 | i+1,x,h=>by
  unfold gT Vn at h
  split at h
  ·obtain⟨y,c,rfl⟩:=QM.mp h;obtain⟨j,d,b,a⟩:=Bc i y c
   refine⟨j,by lia,?_⟩
   unfold putAt;split
   ·exact⟨b,a⟩
   ·exact⟨b,a⟩
  ·rcases QC.mp h with h | h
   ·obtain⟨j,d,e⟩:=Bc i x h
    exact⟨j,by lia,e⟩
   ·rw [QF]at h;subst h
    exact⟨i,by lia,rfl,rfl⟩
end
section
variable {prog:Zd}{w:Zf}{κ:Type}[DecidableEq κ]{knd:HeapKind prog w κ}{A:Around}{R:Result->J9->Prop}{I:J8}{fp wr:List J8}{G:Array Vc->Array Vc->Prop}{n:Nat}{Pv:Nat->YP->Prop}{St:Nat->J9->Prop}
theorem OH(W:WalksS prog w A.in1 I fp wr G n Pv St)(S:J8)(O:S∉fp)(hu:knd.room A.in1)(g:Nat->κ)(a:Nat->J8)(f:Nat->YP)(u:Heap)(res:YP)
  (m:∀(h h':Heap) k b,knd.is h k b->(∀ b o,h.get? b=some o->h'.get? b=some o)->knd.is h' k b)
  (l:∀ b o,u.get? b=some o->b≠S/\b∉wr) (H:∀ i v,i<n->Pv i v->∃ b,v=.ref b/\u.IsTuple b #[.ref (a i),f i]) (z:∀ i,i<n->knd.is u (g i) (a i)) (F:n<=1000):
  ∀(k i:Nat) (s:J9) (c:Int) (t:Tok),n-i=k->i<=n->St i s->(∀ b o,u.get? b=some o->s.heap.get? b=some o)->
   s.heap.DictOfH knd S (gT g a f i)->
   (∀ s',Moved (S::wr) G s s'->(∀ b o,u.get? b=some o->s'.heap.get? b=some o)->s'.heap.DictOfH knd S (gT g a f n)->R (.ok (.ret res)) s')->
   Ui (Zc prog w) A (.builtin "dict.update.loop" ⟨[.ref S,.ref I,.int c t,res],[]⟩) R s:=by
 have a8:S∉wr:=fun h=>O (W.sub _ h);have y:∀ b∈wr,b∈S::wr:=fun b F=>Qf _ F
 have M:∀(s s':J9) i,i<=n->Moved wr G s s'->(∀ b o,u.get? b=some o->s'.heap.get? b=some o)->s.heap.DictOfH knd S (gT g a f i)->s'.heap.DictOfH knd S (gT g a f i):=fun s s' i hi q Y U=>by
  obtain⟨o,es,ep,ho,a4,hd,he,b0,a0⟩:=U
  refine⟨o,es,ep,q.heap S _ a8 ho,a4,hd,he,fun x hx=>?_,a0⟩
  obtain⟨j,hj,e1,e2⟩:=Bc i x hx;rw [e1,e2];exact m _ _ _ _ (z j (by lia)) Y
 intro k
 induction k with
 | zero=>
  intro i s c t hk hi B Y U hR
  have a3:i=n:=by lia
  subst a3;refine YS FV ?_;rw [Y0 x8 _]
  show Zb _ A.in1 (Uy (.ref I) >>= _) _ _ s
  refine Qa (W.done s _ _ B fun s' q=>?_)
  show Zb _ A.in1 (Builtin.Dict.addKeywords S [] >>= fun _=>ret res) _ _ s'
  have d:∀ b o,u.get? b=some o->s'.heap.get? b=some o:=fun b o e=>q.heap b o (l b o e).2 (Y b o e);exact Qa (Qb (Qb (hR s' (q.mono y) d (M s s' i (Qm _) q d U))))
 | succ k ih=>
  intro i s c t hk hi B Y U hR
  have r:i<n:=by lia
  refine YS FV ?_;rw [Y0 x8 _]
  show Zb _ A.in1 (Uy (.ref I) >>= _) _ _ s
  refine Qa (W.item i s _ _ r B fun v s' hP J q=>?_);obtain⟨b,rfl,ot,K,a7,nt,a5⟩:=H i v r hP;have d:∀ b o,u.get? b=some o->s'.heap.get? b=some o:=fun b o e=>q.heap b o (l b o e).2 (Y b o e);have a9:=M s s' i (by lia) q d U;have a2:knd.is s'.heap (g i) (a i):=m _ _ _ _ (z i r) d;refine Qa (Q7 (Qa (wpAny_tryCatch ?_)));unfold Builtin.Dict.pairItems;refine Qa (Jg (T:="tuple") ⟨ot,d _ _ K,a7⟩ ?_);rw [if_pos (by decide)];refine Qa (Ji (d _ _ K) a5 (Qb ?_))
  show Zb _ A.in1 (UE [Ze (a i),f i] (dictSet S (.ref (a i)) (f i))) _ _ s'
  refine Q7 (wpAny_dictSet_heap hu a2 a9 (fun h' a6 E=>?_) (QJ (Bb i) (by rw [sizeLine];lia)))
  have p:Moved (S::wr) G s { s' with heap:=h',toks:=s'.toks+knd.draws (g i) }:=
   (q.mono y).then_heap (QV _ _) fun b o F e=>by rw [E.2 b (fun h:b=S=>F (by rw [h];exact Qk))];exact e
  refine Qb ⟨JR x8 _,ih (i+1) _ (c+1) 0 (by lia) r (W.frame _ s' _ _ J (QV _ _) fun b F o e=>?_) (fun b o e=>?_) a6 fun Z N X Q=>?_⟩
  ·rw [E.2 b (fun h:b=S=>O (by rw [<- h];exact F))];exact e
  ·show h'.get? b=some o
   rw [E.2 b (l b o e).1];exact d b o e
  ·exact hR Z (Vm W.gtrans p N) X Q
end
section
variable {prog:Zd}{w:Zf}{κ:Type}[DecidableEq κ]{knd:HeapKind prog w κ}{A:Around}{E:YP->J9->Prop}{s:J9}
theorem Eu(p:Nat->κ)(f:Nat->J8)(m:Nat->YP)
  (q:∀(h h':Heap) k b,knd.is h k b->(∀ b o,h.get? b=some o->h'.get? b=some o)->knd.is h' k b)
  (O:A.handled=none) (Z:∀ B:Around,B.units<=A.units+8->knd.room B) (U:s.heap.get? l=some { cls:=.type "list",dict:=none,data:=.seq items nl,slots:=sl })
  (hi:∀ i v,items[i]?=some v->∃ b,v=.ref b/\s.heap.IsTuple b #[.ref (f i),m i]) (hk:∀ i,i<items.size->knd.is s.heap (p i) (f i)) (hb:items.size<=1000)
  (h:∀(h':Heap) (tk:Nat),h'.DictOfH knd s.heap.objs.size (gT p f m items.size)->(∀ b o,s.heap.get? b=some o->h'.get? b=some o)->Q (.ref s.heap.objs.size) { s with heap:=h',toks:=tk }):
  Zb (Zc prog w) A (call (.type "dict") [.ref l]) Q E s:=by
 refine callType_codes (Q₁:=fun x g=>x=.ref s.heap.objs.size/\g={ s with heap:=s.heap.push { cls:=.type "dict",data:=.dict #[] } }) F.kt_called_dict (F.kt_typeCall_dict_1 _) F.entry_dict_init (kt_code_dict_new _ ⟨rfl,rfl⟩) ?_;rintro x g ⟨rfl,rfl⟩;have j:(s.heap.push { cls:=.type "dict",data:=.dict #[] }).DictOfH knd s.heap.objs.size []:=Heap.DictOfH.new s.heap;have t:(s.heap.push { cls:=.type "dict",data:=.dict #[] }).get? l=some { cls:=.type "list",dict:=none,data:=.seq items nl,slots:=sl }:=Qh _ U
 refine⟨j.typeIs,F.args_dict_init_2 _ _,?_⟩
 unfold Builtin.«dict.__init__»;refine Qa ?_;unfold Builtin.Dict.selfAndRest;refine Qa (UP j.typeIs ?_)
 show Zb _ _ (pure (s.heap.objs.size,[Ze l])) _ _ _
 refine Qb ?_
 show Zb _ _ (Builtin.Dict.updateFrom "dict.__init__" s.heap.objs.size (.ref l) [] .none) _ _ _
 unfold Builtin.Dict.updateFrom;refine Qa (Jg (T:="list") ⟨_,t,rfl⟩ ?_);rw [if_pos (by decide)];refine Qa (Py t rfl rfl rfl (by first | exact O | simp [O]) fun a n c=>?_);rw [if_pos (by decide)];have H:a.IsList l items:=⟨_,c _ _ t,rfl,nl,rfl⟩;refine Qa (Jm (Qa (UH (s:={ s with heap:=a,toks:=n }) H ?_)));refine Qb ⟨JR x8 _,?_⟩;have I:a.get? s.heap.objs.size=some { cls:=.type "dict",data:=.dict #[] }:=c _ _ (Qy _ rfl);have d:s.heap.objs.size<a.objs.size:=Qs I;have G:l<s.heap.objs.size:=Qs U;have y:l≠a.objs.size:=Qz (U6 G d)
 have N:A.in1.in1.handled=none:=by simp [O]
 have u:∀ b o,s.heap.get? b=some o->(a.push { cls:=ZK "list_iterator",data:=Data.fields #[Ze l,U7 0 0] }).get? b=some o:=fun b o e=>
  Qh _ (c b o (Qh _ e))
 refine OH (knd:=knd) ((Walks.list N a.objs.size l y items).toS) s.heap.objs.size ?hSf (Z _ (by show A.units+1+1<=_;lia)) p f m s.heap .none q ?hold (fun i v _ Y=>hi i v Y) (fun i M=>hk i M) hb (items.size-0) 0 _ 0 0 (by lia) (Q8 _)
  ⟨⟨_,Qy _ rfl,rfl,rfl⟩,H.push _⟩ u ?hS0 ?hR
 case hSf=>
  simp only [Ql,QF,Jo,or_false,not_or]
  exact⟨Qz d,Jf G⟩
 case hold=>
  intro b o e;have r:b<s.heap.objs.size:=Qs e
  refine⟨Qz r,fun z=>?_⟩
  have R:b=a.objs.size:=QF.mp z;rw [R]at r;exact absurd (U6 r d) (JO _)
 case hS0=>exact⟨_,#[],0,Qh _ I,⟨rfl,rfl,rfl⟩,rfl,rfl,fun _ X=>by simp [gT]at X,YH⟩
 case hR=>
  intro W z h0 S;obtain⟨h',g',d',J,K⟩:=W;have eg:g'=s.gens:=z.gens;have ed:d'=s.drawn:=z.drawn;have eo:K=s.os:=z.os;subst eg;subst ed;subst eo
  exact⟨rfl,h h' J S h0⟩
end
end DC
namespace DC
open PySem.Spec L2 DL ST SL
def eQ:D->Option (List Int)
 | .tuple a=>cX a
 | _=>none
theorem EZ:∀ ks:List Int,cX (ks.map Zh)=some ks
 | []=>rfl
 | k::ks=>by show(cX (ks.map Zh)).bind _=_;rw [EZ ks];rfl
theorem Ox(ks:List Int):eQ (m9 ks)=some ks:=EZ ks
theorem AH{K:PySem.W.Frag}{H:Hp}{k:eL}{b:J8}{ks:List Int}(h:eX K H k b):eQ (jY k)=some ks ↔ k=.inl ks:=by
 cases k with
 | inl c=>
  show eQ (m9 c)=some ks ↔ _
  rw [Ox];constructor
  ·intro e;cases e;rfl
  ·intro e;cases e;rfl
 | inr a=>
  obtain⟨n,_⟩:=h
  cases a with
  | nil=>exact absurd rfl n
  | cons x d=>
   constructor
   ·intro e;cases e
   ·intro e;cases e
theorem tM{K:PySem.W.Frag}{F:J8->Prop}{H:Hp}{d:D}{v:V}{c:List Int}(r:aS K F H d v)(h:eQ d=some c):∃ b,v=.ref b/\bL K H b (c.map V.int):=by
 cases r with
 | @tup a vs ds h1 r1=>
  rw [mG r1 (show cX ds=some c from h)]at h1
  exact⟨a,rfl,h1⟩
 | _=>cases h
def hY(a:List (D × D))(k:List Int):Bool:=a.any fun p=>eQ p.1 == some k
def nD(a:List (D × D))(k:List Int)(v:D):List (D × D):=if hY a k=true then a.map fun p=>if(eQ p.1 == some k)=true then(p.1,v)else p else a++[(m9 k,v)]
abbrev fD:=eL × J8 × V
def oU(es:List fD)(k:List Int):Bool:=es.any fun e=>decide (e.1=.inl k)
def oX(es:List fD)(k:List Int)(b:J8)(v:V):List fD:=if oU es k=true then es.map fun e=>if e.1=.inl k then(e.1,e.2.1,v)else e else es++[(.inl k,b,v)]
theorem Bn{K:PySem.W.Frag}{H:Hp}{k:eL}{b:J8}{a:List Int}(h:eX K H k b):(eQ (jY k) == some a)=decide (k=.inl a):=by
 by_cases c:k=.inl a
 ·rw [decide_eq_true c,(AH h).mpr c,beq_self_eq_true]
 ·rw [decide_eq_false c];exact beq_eq_false_iff_ne.mpr fun e=>c ((AH h).mp e)
section
variable {K:PySem.W.Frag}{F:J8->Prop}{H:Hp}
theorem DReps.has:∀{kvs:List (D × D)}{es:List fD} (k:List Int),DReps K F H kvs es->hY kvs k=oU es k
 | _,_,_,.nil=>rfl
 | _,_,k,.cons h r t=>by
  have:=DReps.has k t
  unfold hY oU at this ⊢;rw [JS,JS,this,Bn h]
theorem DReps.append:∀{kvs kvs':List (D × D)}{es es':List fD},DReps K F H kvs es->DReps K F H kvs' es'->DReps K F H (kvs++kvs') (es++es')
 | _,_,_,_,.nil,s=>s
 | _,_,_,_,.cons h r t,s=>.cons h r (DReps.append t s)
theorem DReps.repl{k:List Int}{d:D}{v:V}(a:aS K F H d v):∀{kvs:List (D × D)}{es:List fD},DReps K F H kvs es->
  DReps K F H (kvs.map fun p=>if(eQ p.1 == some k)=true then(p.1,d)else p) (es.map fun e=>if e.1=.inl k then(e.1,e.2.1,v)else e)
 | _,_,.nil=>.nil
 | _,_,@DReps.cons _ _ _ k' b d' v' _ _ h r t=>by
  rw [Qp,Qp];by_cases c:k'=.inl k
  ·rw [if_pos (by rw [Bn h,decide_eq_true c]),if_pos c];exact .cons h a (DReps.repl a t)
  ·rw [if_neg (by rw [Bn h,decide_eq_false c];decide),if_neg c];exact .cons h r (DReps.repl a t)
theorem DReps.put(t:DReps K F H kvs es)(e:bL K H b (k.map V.int))(a:aS K F H d v):DReps K F H (nD kvs k d) (oX es k b v):=by
 unfold nD oX;rw [DReps.has k t];by_cases c:oU es k=true
 ·rw [if_pos c,if_pos c];exact DReps.repl a t
 ·rw [if_neg c,if_neg c];exact DReps.append t (.cons (k:=.inl k) e a .nil)
def kZ(a:List (D × D)):Bool:=a.all fun p=>(eQ p.1).isSome
theorem DReps.flat:∀{kvs:List (D × D)}{es:List fD},DReps K F H kvs es->kZ kvs=true->∀ e∈es,∃ ks,e.1=.inl ks/\bL K H e.2.1 (ks.map V.int)
 | _,_,.nil,_,e,a=>nomatch a
 | _,_,.cons h r t,f,e,a=>by
  unfold kZ at f;rw [List.all_cons,QL]at f;rcases Ql.mp a with rfl | a
  ·obtain⟨ks,q⟩:=Option.isSome_iff_exists.mp f.1
   have:=(AH h).mp q
   refine⟨ks,this,?_⟩
   dsimp only at this ⊢;subst this;exact h
  ·exact DReps.flat t f.2 e a
end
abbrev mS:=List Int × J8 × YP
abbrev ER:fD->mS->Prop:=fun e x=>e.1=.inl x.1/\e.2.1=x.2.1/\RelV e.2.2 x.2.2
theorem v3(k:List Int):∀{es:List fD}{xs:List mS},Paired ER es xs->oU es k=(Vs xs k).isSome
 | _,_,.nil=>rfl
 | _,_,@Paired.cons _ _ _ e x es xs h t=>by
  have b:=v3 k t;unfold oU at b ⊢;rw [JS,b];by_cases c:x.1=k
  ·have a:Vs (x::xs) k=some x.2:=by simp [Vs,List.find?_cons,c]
   rw [a,decide_eq_true (by rw [h.1,c])];rfl
  ·have a:Vs (x::xs) k=Vs xs k:=by simp [Vs,List.find?_cons,c]
   rw [a,decide_eq_false (by rw [h.1];intro z;cases z;exact c rfl)];rfl
theorem FW(a:RelV v u):∀{es:List fD}{xs:List mS},Paired ER es xs->Paired ER (es.map fun e=>if e.1=.inl k then(e.1,e.2.1,v)else e) (xs.map (putAt k u))
 | _,_,.nil=>.nil
 | _,_,@Paired.cons _ _ _ e x es xs h t=>by
  rw [Qp,Qp];refine .cons ?_ (FW a t);unfold putAt;by_cases c:x.1=k
  ·rw [if_pos c,if_pos (by rw [h.1,c])];exact⟨h.1,h.2.1,a⟩
  ·rw [if_neg c,if_neg (by rw [h.1];intro z;cases z;exact c rfl)];exact h
theorem FY(a:RelV v u)(t:Paired ER es xs):Paired ER (oX es k b v) (Vn xs k b u):=by
 unfold oX Vn;rw [v3 k t];by_cases c:(Vs xs k).isSome=true
 ·rw [if_pos c,if_pos c];exact FW a t
 ·rw [if_neg c,if_neg c];exact Paired.snoc t ⟨rfl,rfl,a⟩
theorem AT:∀{es:List fD}{xs:List mS},Paired ER es xs->es.map (·.1)=(xs.map (·.1)).map Sum.inl
 | _,_,.nil=>rfl
 | _,_,.cons h t=>by rw [Qp,Qp,Qp,AT t,h.1]
theorem Sx{l:List (List Int)}(h:l.Nodup):(l.map (Sum.inl:List Int->eL)).Nodup:=by
 rw [List.Nodup,Yf];exact List.Pairwise.imp (fun n e=>n (Sum.inl.inj e)) h
theorem Sy{l:List (List Int)}(h:(l.map (Sum.inl:List Int->eL)).Nodup):l.Nodup:=by
 rw [List.Nodup,Yf]at h;exact List.Pairwise.imp (fun n e=>n (by rw [e])) h
abbrev cI(P:Zd)(w:Zf):HeapKind P w (List Int):=tupleKind (Vh P w)
theorem AA{X:Cx}{b:List (J8 × Obj)}{u:L2.St}{H:Hp}{s:J9}{a:J8}{es:List fD}{ep:Nat}(I:Inv X b u H s)(h:H a=some (bN a es ep))(f:∀ e∈es,∃ ks,e.1=.inl ks/\bL X.K H e.2.1 (ks.map V.int))(n:(es.map (·.1)).Nodup):
  (a == ZT)=false/\∃ xs:List mS,s.heap.DictOfH (cI X.prog X.w) a xs/\Paired ER es xs:=by
 obtain⟨⟨v,o,g,E,B,A,z⟩,_⟩:=(show eH X.prog X.w H s.heap a (bN a es ep)from I.hok a _ h)
 have mk:∀{l:List fD}{r:List UC},Paired (fun(e:eL × J8 × V) (r:UC)=>r.hash=B4 e.1/\r.key=.ref e.2.1/\RelV e.2.2 r.val) l r->(∀ e∈l,∃ ks,e.1=.inl ks/\bL X.K H e.2.1 (ks.map V.int))->
   ∃ xs:List mS,r=xs.map (U9 (cI X.prog X.w))/\Paired ER l xs/\∀ x∈xs,(cI X.prog X.w).is s.heap x.1 x.2.1:=by
  intro l r q
  induction q with
  | nil=>exact fun _=>⟨[],rfl,.nil,fun x c=>nomatch c⟩
  | @cons e r l rs h t ih=>
   intro f;obtain⟨xs,j,d,i⟩:=ih fun e y=>f e (Qf _ y);obtain⟨ks,p,F⟩:=f e Qk
   refine⟨(ks,e.2.1,r.val)::xs,?_,.cons ⟨p,rfl,h.2.2⟩ d,fun x c=>?_⟩
   ·rw [Qp,<- j];congr 1;obtain⟨N,M,J⟩:=r;obtain⟨m,k,G⟩:=h;dsimp only at m k ⊢;subst m k;rw [p];rfl
   ·rcases Ql.mp c with rfl | c
    ·exact kH I F
    ·exact i x c
 obtain⟨xs,j,d,i⟩:=mk z f
 refine⟨v,xs,⟨o,g,ep,E,B,A,j,i,?_⟩,d⟩
 rw [AT d]at n;exact Sy n
theorem Az{P:Zd}{w:Zf}{H:Hp}{h:Heap}{a:J8}{es:List fD}{xs:List mS}(c:(a == ZT)=false)(d:h.DictOfH (cI P w) a xs)(r:Paired ER es xs):∃ ep,eH P w H h a (bN a es ep):=by
 obtain⟨o,b,ep,f,j,i,g,h5,l⟩:=d;clear h5 l
 refine⟨ep,⟨c,o,b,f,j,i,?_⟩,⟨o,f⟩,fun n m ⟨c,o,b,g1,g2⟩ k=>⟨c,o,b,k _ g1,g2⟩⟩
 rw [g];clear f j i g
 induction r with
 | nil=>exact .nil
 | @cons e x es xs h t ih=>
  rw [Qp];refine .cons ⟨?_,?_,h.2.2⟩ ih
  ·rw [h.1];rfl
  ·rw [h.2.1];rfl
end DC
namespace DC
open PySem.Spec L2 DL ST SL
section
variable {X:Cx}
def hO(b:Bool)(d e:D):Option D:=match e with
 | .dict a=>(eQ d).bind fun k=>if kZ a=true then some (.bool (if b then !hY a k else hY a k))else none
 | e=>dY b d e
theorem vU(h:hO neg d (.dict kvs)=some r):∃ k,eQ d=some k/\kZ kvs=true/\r=.bool (if neg then !hY kvs k else hY kvs k):=by
 obtain⟨k,a,q⟩:=aE (show((eQ d).bind fun k=>if kZ kvs=true then some (ZF (if neg then !hY kvs k else hY kvs k))else none)=some r from h);by_cases c:kZ kvs=true
 ·rw [if_pos c]at q;cases q;exact⟨k,a,c,rfl⟩
 ·rw [if_neg c]at q;cases q
theorem BD(B:X.A.units+65<Zi):bH X (Zm .In) (cE X.K (hO false)):=fun c s p H x y v u Q I m j G=>by
 obtain⟨F,d,e,q,z,o,R2,g,k⟩:=G
 cases R2 with
 | @dct a es kvs ep f h n l t=>
  obtain⟨i,E,fl,rfl⟩:=vU g;obtain⟨b,rfl,M⟩:=tM o E;cases m;cases j;obtain⟨J,O,dd,N⟩:=AA I h (DReps.flat t fl) n;refine wpAny_in_heap (knd:=cI X.prog X.w) (k:=i) (show X.A.in1.units<Zi from by show X.A.units+1<Zi;lia) (kH I M) J dd ?_;rw [<- v3 i N,<- DReps.has i t]
  exact⟨.bl _,H,I.tok _,rfl,k F H _ (aI.refl F H) (.bl _)⟩
 | exn f h n=>
  obtain⟨i,E,fl,_⟩:=vU g;cases fl
 | tup h r=>exact n6 B c s p H _ _ v u Q I m j ⟨F,d,_,q,z,o,.tup h r,g,k⟩
 | lst h r=>exact n6 B c s p H _ _ v u Q I m j ⟨F,d,_,q,z,o,.lst h r,g,k⟩
 | non=>cases g
 | bl _=>cases g
 | int _=>cases g
 | str _=>cases g
theorem RV(B:X.A.units+65<Zi):bH X (Zm .NotIn) (cE X.K (hO true)):=fun c s p H x y v u Q I m j G=>by
 obtain⟨F,d,e,q,z,o,R2,g,k⟩:=G
 cases R2 with
 | @dct a es kvs ep f h n l t=>
  obtain⟨i,E,fl,rfl⟩:=vU g;obtain⟨b,rfl,M⟩:=tM o E;cases m;cases j;obtain⟨J,O,dd,N⟩:=AA I h (DReps.flat t fl) n;refine wpAny_notIn_heap (knd:=cI X.prog X.w) (k:=i) (show X.A.in1.units<Zi from by show X.A.units+1<Zi;lia) (kH I M) J dd ?_;rw [<- v3 i N,<- DReps.has i t]
  exact⟨.bl _,H,I.tok _,rfl,k F H _ (aI.refl F H) (.bl _)⟩
 | exn f h n=>
  obtain⟨i,E,fl,_⟩:=vU g;cases fl
 | tup h r=>exact GI B c s p H _ _ v u Q I m j ⟨F,d,_,q,z,o,.tup h r,g,k⟩
 | lst h r=>exact GI B c s p H _ _ v u Q I m j ⟨F,d,_,q,z,o,.lst h r,g,k⟩
 | non=>cases g
 | bl _=>cases g
 | int _=>cases g
 | str _=>cases g
end
end DC
namespace DC
open PySem.Spec L2 DL ST SL
def x5:D->Option (List Int × D)
 | .tuple [k,v]=>(eQ k).bind fun a=>some (a,v)
 | _=>none
def qI:List D->Option (List (List Int × D))
 | []=>some []
 | d::r=>(x5 d).bind fun p=>(qI r).bind fun a=>some (p::a)
def sP(ps:List (List Int × D)):List (D × D):=ps.foldl (fun a p=>nD a p.1 p.2) []
def Bi:List D->Option D
 | [.list ds]=>if ds.length<=1000 then(qI ds).bind fun a=>some (.dict (sP a))else none
 | _=>none
structure Tr where
 k:List Int
 b:J8
 v:V
 d:D
def Do(K:PySem.W.Frag)(F:J8->Prop)(H:Hp)(x:V)(t:Tr):Prop:=∃ b,x=.ref b/\bL K H b [.ref t.b,t.v]/\bL K H t.b (t.k.map V.int)/\aS K F H t.d t.v
theorem R4{K:PySem.W.Frag}{F:J8->Prop}{H:Hp}{d:D}{x:V}{p:List Int × D}(r:aS K F H d x)(h:x5 d=some p):∃ t,p=(t.k,t.d)/\Do K F H x t:=by
 cases r with
 | @tup a vs ds h1 r1=>
  unfold x5 at h
  split at h
  ·rename_i k v e;cases e;obtain⟨j,m,h⟩:=aE h;cases h
   cases r1 with
   | cons f i=>
    cases i with
    | cons c g=>
     cases g;obtain⟨b,rfl,l⟩:=tM f m
     exact⟨⟨j,b,_,v⟩,rfl,a,rfl,h1,l,c⟩
  ·cases h
 | _=>cases h
theorem GR{K:PySem.W.Frag}{F:J8->Prop}{H:Hp}:∀{ds:List D}{vs:List V}{ps:List (List Int × D)},Reps K F H ds vs->qI ds=some ps->∃ ts:List Tr,ps=ts.map (fun t=>(t.k,t.d))/\Paired (Do K F H) vs ts
 | _,_,_,.nil,h=>by cases h;exact⟨[],rfl,.nil⟩
 | _,_,_,.cons r rs,h=>by
  obtain⟨p,c,h⟩:=aE h;obtain⟨ps,b,h⟩:=aE h;cases h;obtain⟨t,rfl,q⟩:=R4 r c;obtain⟨ts,rfl,a⟩:=GR rs b
  exact⟨t::ts,rfl,.cons q a⟩
theorem Paired.at{c d:Type}{R:c->d->Prop}:∀{l:List c}{m:List d}{i:Nat}{a:c},Paired R l m->l[i]?=some a->∃ b,m[i]?=some b/\R a b
 | _,_,_,_,.nil,e=>by simp at e
 | _,_,0,_,.cons h _,e=>by simp at e;subst e;exact⟨_,rfl,h⟩
 | _,_,i+1,_,.cons _ t,e=>by
  obtain⟨b,g,f⟩:=Paired.at t (by simpa using e)
  exact⟨b,by simpa using g,f⟩
theorem Paired.atR{d c:Type}{R:d->c->Prop}:∀{l:List d}{m:List c}{i:Nat}{b:c},Paired R l m->m[i]?=some b->∃ a,l[i]?=some a/\R a b
 | _,_,_,_,.nil,e=>by simp at e
 | _,_,0,_,.cons h _,e=>by simp at e;subst e;exact⟨_,rfl,h⟩
 | _,_,i+1,_,.cons _ t,e=>by
  obtain⟨b,g,f⟩:=Paired.atR t (by simpa using e)
  exact⟨b,by simpa using g,f⟩
theorem pick{P:Nat->YP->Prop}(n:Nat)(h:∀ i,i<n->∃ u,P i u):∃ f:Nat->YP,∀ i,i<n->P i (f i):=by
 classical
 refine⟨fun i=>if c:i<n then Classical.choose (h i c)else .none,fun i a=>?_⟩
 show P i (if c:i<n then Classical.choose (h i c)else .none)
 rw [dif_pos a];exact Classical.choose_spec (h i a)
def jA:Tr:=⟨[],0,.non,.none⟩
theorem Fe{K:PySem.W.Frag}{F:J8->Prop}{H:Hp}(a:List Tr)(c:Nat->YP)(j:∀ t∈a,bL K H t.b (t.k.map V.int)/\aS K F H t.d t.v)(g:∀(i:Nat) t,a[i]?=some t->RelV t.v (c i)):
  ∀ i,i<=a.length->∃ es,DReps K F H (sP ((a.map fun t=>(t.k,t.d)).take i)) es/\Paired ER es (gT (fun i=>(a.getD i jA).k) (fun i=>(a.getD i jA).b) c i)
 | 0,_=>⟨[],.nil,.nil⟩
 | i+1,hi=>by
  obtain⟨es,o,n⟩:=Fe a c j g i (by lia);have f:i<a.length:=hi
  have l:a[i]?=some a[i]:=by simp [f]
  have m:a.getD i jA=a[i]:=by simp [List.getD,f]
  have h:=j a[i] (YJ f)
  refine⟨oX es a[i].k a[i].b a[i].v,?_,?_⟩
  ·have e:(a.map fun t=>(t.k,t.d)).take (i+1)=(a.map fun t=>(t.k,t.d)).take i++[(a[i].k,a[i].d)]:=by
    rw [List.take_succ,QE,l];rfl
   rw [e];unfold sP;rw [List.foldl_append];exact DReps.put o h.1 h.2
  ·show Paired ER _ (Vn _ (a.getD i jA).k (a.getD i jA).b (c i))
   rw [m];exact FY (g i _ l) n
section
variable {X:Cx}
theorem boot_dict:ZD "dict"=some (.type "dict"):=by decide +kernel
theorem IN{P:Zd}{w:Zf}(h h':Heap)(k:List Int)(b:J8)(x:(cI P w).is h k b)(e:∀ b o,h.get? b=some o->h'.get? b=some o):(cI P w).is h' k b:=TK.at x fun o a=>e b o a
theorem Ba{a:List (J8 × Obj)}{b:L2.St}{H:Hp}{s:J9}(I:Inv X a b H s):ZT<s.heap.objs.size:=by
 have h:Zv<s.heap.objs.size:=(I.mod.glob.keeps I.bk).lt;exact U6 (by decide) h
def Mw(K:PySem.W.Frag):List V->Hp->VK->Prop:=fun b H Q=>∃(F:J8->Prop) (ds:List D) (ps:List (List Int × D)),(∀ a,F a->H a≠none)/\Reps K F H [.list ds] b/\ds.length<=1000/\qI ds=some ps /\
 ∀ p es ep,H p=none->DReps K F H (sP ps) es->(es.map (·.1)).Nodup->es.length<=1000->Q (.ref p) (aJ H p (bN p es ep))
theorem O8(hc:X.calm=true)(hu:X.A.units+66<Zi):cU X (.type "dict") (Mw X.K):=fun a0 s σ H xs us Q I rv zz=>by
 obtain⟨F,ds,ps,z,R,hl,e1,k⟩:=zz
 cases R with
 | cons R1 R2=>
  cases R2
  cases R1 with
  | @lst a vs _ h1 r1=>
   obtain⟨u,rfl,ru⟩:=g7 rv;cases ru;obtain⟨f,n,⟨o,nl,g1,g2,g3,g4⟩,_⟩:=I.list h1.sq;obtain⟨c,rfl,p⟩:=GR r1 e1
   have d:f.length=c.length:=by rw [<- n.length];exact Paired.length p
   have r:c.length<=1000:=by rw [<- Paired.length p,<- r1.length];exact hl
   obtain⟨m,h⟩:=pick (P:=fun i u=>∀ t,c[i]?=some t->RelV t.v u/\∀ v,f[i]?=some v->∃ b,v=.ref b/\s.heap.IsTuple b #[.ref t.b,u]) c.length fun i g=>by
    have l:c[i]?=some c[i]:=by simp [g]
    obtain⟨x,S,b,rfl,J,E,G⟩:=Paired.atR p l;obtain⟨a3,rj,O,_⟩:=I.tuple J
    cases rj with
    | @cons _ u1 _ us1 ra rb=>
     cases rb with
     | @cons _ u2 _ us2 rc rd=>
      cases rd;cases ra
      refine⟨u2,fun t j=>?_⟩
      rw [l]at j;cases j
      refine⟨rc,fun v T=>?_⟩
      obtain⟨w',ew,M⟩:=n.get S;rw [T]at ew;cases ew;cases M
      exact⟨b,rfl,O⟩
   obtain⟨oc,od,a2,N⟩:=o
   have W:s.heap.get? a=some { cls:=.type "list",dict:=none,data:=.seq f.toArray nl,slots:=N }:=by
    rw [g1];simp only at g2 g3 g4;rw [g2,g3,g4]
   refine Eu (knd:=cI X.prog X.w) (fun i=>(c.getD i jA).k) (fun i=>(c.getD i jA).b) m IN (I.ok.hd hc) (fun B hB=>show B.units<Zi by lia) W (fun i v T=>?_) (fun i g=>?_) (by rw [QH,d];exact r) fun h' tk dd keep=>?_
   ·have q:f[i]?=some v:=by simpa using T
    have g:i<c.length:=by rw [<- d];exact(Qc.mp q).1
    have l:c[i]?=some c[i]:=by simp [g]
    have Y:c.getD i jA=c[i]:=by simp [List.getD,g]
    obtain⟨b,e,it⟩:=(h i g _ l).2 v q
    exact⟨b,e,by rw [Y];exact it⟩
   ·have y:i<c.length:=by rw [<- d];simpa using g
    have l:c[i]?=some c[i]:=by simp [y]
    have Y:c.getD i jA=c[i]:=by simp [List.getD,y]
    obtain⟨x,S,b,_,J,E,G⟩:=Paired.atR p l
    show TK X.prog X.w s.heap (c.getD i jA).k (c.getD i jA).b
    rw [Y];exact kH I E
   ·obtain⟨es,f1,Z⟩:=Fe (K:=X.K) (F:=F) (H:=H) c m (fun t j=>by
     obtain⟨i,g⟩:=List.mem_iff_getElem?.mp j;obtain⟨x,S,b,_,J,E,G⟩:=Paired.atR p g
     exact⟨E,G⟩) (fun i t j=>(h i (Qc.mp j).1 t j).1) c.length (Qm _)
    rw [Y5 (by simp)]at f1
    have U:f.toArray.size=c.length:=by rw [QH,d]
    rw [U]at dd;have lo:(s.heap.objs.size == ZT)=false:=beq_eq_false_iff_ne.mpr (Ua (Qz (Ba I)));have hp:H s.heap.objs.size=none:=I.hok.fresh (Qm _);obtain⟨ep,oo⟩:=Az (H:=H) lo dd Z
    refine⟨.ref s.heap.objs.size,aJ H s.heap.objs.size (bN s.heap.objs.size es ep),I.laid keep (Qm _) oo,rfl,k _ es ep hp f1 ?_ ?_⟩
    ·obtain⟨_,_,_,_,_,_,_,_,hn⟩:=dd;rw [AT Z];exact Sx hn
    ·rw [Paired.length Z];exact QJ (Bb _) r
theorem NS(h:X.calm=true)(g:X.A.units+66<Zi):cU X (.type "dict") (iR X.K Bi):=mB (O8 h g) fun j H Q e=>by
 obtain⟨F,s,q,z,R,a,k⟩:=e;unfold Bi at a
 split at a
 ·rename_i b;by_cases c:b.length<=1000
  ·rw [if_pos c]at a;obtain⟨f,i,a⟩:=aE a;cases a
   exact⟨F,b,f,z,R,c,i,fun p m o d r n l=>k _ _ _ (aI.frozen d) (.dct (.inr rfl) cO n l (r.stay (aI.frozen d).stay))⟩
  ·rw [if_neg c]at a;cases a
 ·cases a
end
end DC
namespace DC
open PySem.Spec L2 DL ST SL EL
def dU(ga:aA->Option D):aA->Option (List D):=fun a=>(ga a).bind rH
def iT(gr:aA->Option (List D)):aA->Option (List D):=fun a=>(gr a).bind oZ
def qZ(gr:aA->Option (List D)):aA->Option (List D):=fun a=>(gr a).bind CJ
def sT(gr:aA->Option (List D)):aA->Option (List D):=fun a=>(gr a).bind AS
section
variable {X:Cx}{tg e a b:Expr}{es:List Expr}{ga:aA->Option D}{gr:aA->Option (List D)}{p pos:Pos}
theorem i8(a:DE X e ga):DI X tg e (dU ga):=OE a
theorem pZ(c:Gl X "range")(b:X.mg "range"=none)(d:DA X [a] gr)(hs:Za [a] X.env=[(false,Zr a X.env)]:=by rfl):DI X tg (.Call (.Name "range" p) [a] [] pos) (iT gr):=OD c b d hs
theorem OC{x1}(e:Gl X "zip")(d:X.mg "zip"=none)(f:DA X [a,b] gr)(hs:Za [a,b] X.env=[(false,Zr a X.env),(false,Zr b X.env)]:=by rfl)(c:Za [b] X.env=[(false,Zr b X.env)]:=by rfl):
  DI X (.Tuple elts x1 tpos) (.Call (.Name "zip" p) [a,b] [] pos) (qZ gr):=OF e d f hs c
theorem OA{x1}(c:Gl X "enumerate")(b:X.mg "enumerate"=none)(d:DA X [a] gr)(hs:Za [a] X.env=[(false,Zr a X.env)]:=by rfl):
  DI X (.Tuple elts x1 tpos) (.Call (.Name "enumerate" p) [a] [] pos) (sT gr):=Oz c b d hs
end
end DC
namespace DL
open PySem.Spec L2
end DL
namespace DC
open PySem.Spec L2 DL ST SL EL
section
variable {X:Cx}{e k v:Expr}{es:List Expr}{gr:aA->Option (List D)}{gk gv:aA->Option D}{p pos:Pos}
end
end DC
namespace DC
open PySem.Spec L2 DL ST SL EL
def lI(h:Heap)(a:J8)(b:Array UC)(ep:Nat):Prop:=(a == ZT)=false/\∃ o,h.get? a=some o/\o.ExactDict/\o.data=.dict b ep
section
variable {P:Zd}{w:Zf}{A:Around}{E:YP->J9->Prop}{s:J9}{d it:J8}{raw:Array UC}{ep i:Nat}
theorem lI.ty(h:lI s.heap d raw ep):s.TypeIs (.ref d) "dict":=let⟨_,o,h1,h2,_⟩:=h;⟨o,h1,h2.1⟩
theorem Rn(h:lI s.heap d raw ep)(f:Q (.ref s.heap.objs.size) { s with heap:=s.heap.push { cls:=.type "dict_keyiterator",data:=.fields #[.ref d,.int 0 0,.int raw.size 0,.int ep 0] } }):Zb (Zc P w) A (pyIter (.ref d)) Q E s:=by
 have a:=h.ty;obtain⟨e,o,c,g,b⟩:=h;refine wpAny_pyIter_slot a PySem.F.slot_dict_iter (Yh PySem.F.slot_dict_iter a PySem.F.entry_dict_iter ?_ (PySem.F.args_dict_iter_1 _));unfold Builtin.«dict.__iter__»;refine Qa ?_;unfold Builtin.Dict.dictSlotNone
 refine Qa (UP a ?_);show Zb _ _ (pure (Ze d)) _ _ s;refine Qb ?_
 show Zb _ _ (Builtin.Dict.showsAll d >>= _) _ _ s;unfold Builtin.Dict.showsAll
 rw [if_neg (by rw [e];exact Qr)];refine Qa (Qb (Qa (JV c b ?_)));refine Qa (wpAny_dictEpoch c b (Qa (Yn (Qb ⟨_,rfl,"dict_keyiterator",_,⟨_,Qy _ rfl,rfl⟩,PySem.F.slot_dict_keyiterator_next.lookup,?_⟩))))
 simpa [UR]using f
theorem Sw(a:s.heap.IsKeyIter it d i raw.size ep)(h:lI s.heap d raw ep)(f:i<raw.size)
  (j:∀ h',h'.IsKeyIter it d (i+1) raw.size ep->Zk it s.heap h'->Q (some raw[i].key) { s with heap:=h' }):Zb (Zc P w) A (Uy (.ref it)) Q E s:=by
 obtain⟨o,e,g,c⟩:=id a;obtain⟨l,k,g1,g2,g3⟩:=h;unfold Uy;refine Qa (UV (Yt (name:=Z4 "__next__") a.typeIs PySem.F.slot_dict_keyiterator_next (Yh PySem.F.slot_dict_keyiterator_next a.typeIs PySem.F.entry_dict_keyiterator_next ?_ (PySem.F.args_dict_keyiterator_next_1 _))));refine Qa (Qb (Qa (Qa ?_)));refine Qa (Jj a.typeIs (Qb (Qa (Vg e c ?_))));simp only [show Builtin.Dict_items.ownsTuple "dict_keyiterator"=false from by decide,Qg,if_false]
 show Zb _ _ (if(Ze d == Zz)=true then _ else _) _ _ s;rw [if_neg (show ¬ ((Ze d == Zz)=true)from Qr)]
 refine Qa (Qb (Qa (JV g1 g3 ?_)));rw [if_neg (by simp)];refine Qa (Qb (Qa (wpAny_dictEpoch g1 g3 ?_)));rw [if_neg (by simp)];refine Qb ?_;simp only [show ¬ ((i:Int)<0)from by lia,if_false,Y1,Qx f];refine Qa ?_;refine Qa (Jj a.typeIs (Qb (Qa (wpAny_isOneOf_keyiter a.typeIs ?_))))
 show Zb _ _ (setField (.ref it) 1 (UR ((i:Int)+1)) >>= _) _ _ s;refine Qa (JE e c (by simp) ?_)
 have b:(s.heap.update it (Obj.mapFields (·.setIfInBounds 1 (UR ((i:Int)+1))))).IsKeyIter it d (i+1) raw.size ep:=⟨_,Ya _ e (JT (YW c _)),(UL ..).trans g,by rw [YW c];simp [UR]⟩;refine Qa (Q7 (Qa (wpAny_isOneOf_keyiter (s:={ s with heap:=s.heap.update it (Obj.mapFields (·.setIfInBounds 1 (UR ((i:Int)+1)))) }) b.typeIs ?_)))
 show Zb _ _ (pure raw[i].key) _ _ _;exact Qb (Qb ⟨_,rfl,Qb (j _ b (QW ..))⟩)
theorem Od(j:A.handled=none)(c:s.heap.IsKeyIter it d i raw.size ep)(h:lI s.heap d raw ep)(g:raw.size<=i)
  (k:∀ h',Heap.ExtBut it s.heap h'->Q none { s with heap:=h' }):Zb (Zc P w) A (Uy (.ref it)) Q E s:=by
 obtain⟨o,e,p,f⟩:=id c;obtain⟨n,l,g1,g2,g3⟩:=h;unfold Uy;refine Qa (UV (Yt (name:=Z4 "__next__") c.typeIs PySem.F.slot_dict_keyiterator_next (Yh PySem.F.slot_dict_keyiterator_next c.typeIs PySem.F.entry_dict_keyiterator_next ?_ (PySem.F.args_dict_keyiterator_next_1 _))));refine Qa (Qb (Qa (Qa ?_)));refine Qa (Jj c.typeIs (Qb (Qa (Vg e f ?_))));simp only [show Builtin.Dict_items.ownsTuple "dict_keyiterator"=false from by decide,Qg,if_false]
 show Zb _ _ (if(Ze d == Zz)=true then _ else _) _ _ s;rw [if_neg (show ¬ ((Ze d == Zz)=true)from Qr)]
 refine Qa (Qb (Qa (JV g1 g3 ?_)));rw [if_neg (by simp)];refine Qa (Qb (Qa (wpAny_dictEpoch g1 g3 ?_)));rw [if_neg (by simp)];refine Qb ?_;simp only [show ¬ ((i:Int)<0)from by lia,if_false,Y1,Yx g];refine Qa ?_
 refine Qa (Jj c.typeIs (Qb ?_));show Zb _ _ (setField (.ref it) 0 .none >>= _) _ _ s
 refine Qa (JE e f (by simp) ?_);show Zb _ _ (newExc (.type "StopIteration") [] >>= _) _ _ _;refine Qa ?_
 simp only [newExc,newTuple];refine Qa (Yn ?_ (by size_fits));refine Qa (m:=Ug _ _) (UZ (a:=Zz) (by first | rfl | (simp only [Ug];rfl)) (Yn ?_ (by size_fits)));simp only [raiseNew];refine Qa (wpAny_handled ?_);rw [show A.in1.handled=none from j];refine Qa (Qb (wpAny_throw ?_));refine Qa (Je (T:="StopIteration") (b:=true) ⟨_,Qy _ rfl,rfl⟩ isSubtype_stop ?_);exact Qb (k _ (((QW ..).extBut.push _).push _))
end
theorem Tl(I:Inv X pins σ H s)(h:H a=some (bN a es ep)):
  ∃ raw:Array UC,lI s.heap a raw ep/\raw.size=es.length/\∀(i:Nat) (hi:i<raw.size) (e:fD),es[i]?=some e->raw[i].key=.ref e.2.1:=by
 obtain⟨⟨d,o,raw,k,j,g,c⟩,_⟩:=(show eH X.prog X.w H s.heap a (bN a es ep)from I.hok a _ h)
 refine⟨raw,⟨d,o,k,j,g⟩,?_,fun i hi e f=>?_⟩
 ·have:=Paired.length c
  simpa using this.symm
 ·obtain⟨r,b,_,q,_⟩:=Paired.at c f
  have:raw.toList[i]?=some raw[i]:=by simp [hi]
  rw [this]at b;cases b;exact q
theorem HA{K:PySem.W.Frag}{F:J8->Prop}{H:Hp}:∀{kss:List (List Int)}{bs:List J8},Paired (fun(ks:List Int) (b:J8)=>bL K H b (ks.map V.int)) kss bs->Reps K F H (kss.map fun ks=>.tuple (ks.map Zh)) (bs.map V.ref)
 | _,_,.nil=>.nil
 | _,_,.cons h t=>.cons (.tup h (p9 _)) (HA t)
theorem IC{K:PySem.W.Frag}{F:J8->Prop}{H:Hp}{k:eL}{b:J8}(h:eX K H k b):aS K F H (jY k) (.ref b):=by
 cases k with
 | inl c=>exact .tup h (p9 c)
 | inr a=>obtain⟨_,bs,e,d⟩:=h;exact .tup e (HA d)
end DC
namespace DC
open PySem.Spec L2 DL ST SL EL
end DC
namespace DL
open PySem.Spec L2
section
variable {X:Cx}{a b:Expr}{ga:aA->Option (List D)}{pos:Pos}
end
end DL
namespace TX
open PySem.Spec L2 DL
open Builtin Builtin.Str
section
variable {X:Cx}
end
end TX
namespace TX
open PySem.Spec L2 DL
open Builtin Builtin.Str
section
variable {X:Cx}{o e:Expr}{go ge:aA->Option D}{apos cpos:Pos}
end
end TX
namespace TX
open PySem.Spec L2 DL ZL EL
open Builtin Builtin.Str
end TX
namespace TB
open PySem.Spec L2 DL TX
section
variable {X:Cx}{e:Expr}{ga gb:aA->Option D}{p pos:Pos}
end
mutual
def uK:D->Bool
 | .none=>true
 | .bool _=>true
 | .int _=>true
 | .str _=>true
 | .tuple a=>noLs a
 | _=>false
def noLs:List D->Bool
 | []=>true
 | d::ds=>uK d && noLs ds
end
mutual
theorem Gz{K:PySem.W.Frag}{F a:J8->Prop}{H:Hp}{d:D}{v:V}(h:aS K F H d v)(q:uK d=true):aS K a H d v:=by
 cases h with
 | non=>exact .non
 | bl b=>exact .bl b
 | int i=>exact .int i
 | str x=>exact .str x
 | tup h r=>exact .tup h (noLs_rep r q)
 | lst h r=>cases q
 | dct f h n l r=>cases q
 | exn f h n=>cases q
theorem noLs_rep{K:PySem.W.Frag}{F a:J8->Prop}{H:Hp}{ds:List D}{vs:List V}(h:Reps K F H ds vs)(q:noLs ds=true):Reps K a H ds vs:=by
 cases h with
 | nil=>exact .nil
 | cons h r=>
  have q:=QO.mp q;exact .cons (Gz h q.1) (noLs_rep r q.2)
end
section
variable {X:Cx}{e:Expr}{ga:aA->Option D}{p pos:Pos}
end
end TB
namespace TX
open PySem.Spec L2 DL
open Builtin Builtin.Str
section
variable {X:Cx}
end
end TX
namespace CL
open PySem.Spec L2
section
variable {X:Cx}{N':List Str}{scope:Ul}{inner:List (Option Nat)}{x0:Str}{cl:List (Str × J8)}{C:J8}{fp:List J8}{s s4:J9}{H:Hp}{σ:L2.St}{pins:List (J8 × Obj)}
end
section
variable {X:Cx}{elt tg iter:Expr}{ifs:List Expr}{scope:Ul}{pos:Pos}{N':List Str}{inner:List (Option Nat)}{x0:Str}{wi:TI}{g:TG}{ti:TT}{te:TE}
end
end CL
namespace DL
open PySem.Spec PySem.SeqAt L2 CL
section
variable {X:Cx}{elt tg iter:Expr}{ifs:List Expr}{scope:Ul}{pos:Pos}{N':List Str}{inner:List (Option Nat)}{x0:Str}{gi:aA->Option (List D)}{s:D->aA->Option aA}{t:aA->Option Bool}{ge:aA->Option D}
end
end DL
namespace CL
open PySem.Spec L2
section
variable {X:Cx}{elt tg iter:Expr}{ifs:List Expr}{scope:Ul}{pos:Pos}{N':List Str}{inner:List (Option Nat)}{x0:Str}{wi:TI}{g:TG}{ti:TT}{te:TE}
end
end CL
namespace DL
open PySem.Spec PySem.SeqAt L2 CL
section
variable {X:Cx}{elt tg iter:Expr}{ifs:List Expr}{scope:Ul}{pos:Pos}{N':List Str}{inner:List (Option Nat)}{x0:Str}{gi:aA->Option (List D)}{s:D->aA->Option aA}{t:aA->Option Bool}{ge:aA->Option D}
end
end DL
namespace DC
open PySem.Spec L2 DL ST SL EL
section
variable {P:Zd}{w:Zf}{A:Around}{E:YP->J9->Prop}{s:J9}
end
section
variable {X:Cx}{e k v:Expr}{es:List Expr}{gr:aA->Option (List D)}{ge gk gv gd:aA->Option D}{p pos:Pos}
end
end DC
namespace DC
open PySem.Spec L2 DL ST SL EL
section
variable {X:Cx}{e k v o d:Expr}{es:List Expr}{gr:aA->Option (List D)}{ga ge gk gv gd:aA->Option D}{p pos:Pos}
def Nf(r:V->List V->Hp->VK->Prop)(to:TE)(t:TA):TE:=fun b H Q=>to b H fun x c=>(∃ a es ep,x=.ref a/\c a=some (bN a es ep))/\t b c fun d e=>r x d e Q
theorem R8{to:TE}{t:TA}{name:Str}{k c:Pos}{id:String}{r:V->List V->Hp->VK->Prop}(p:Slot "dict" name id)(ty:typeOf (.builtin id)=pure (.type "method_descriptor"))(K:yP X id r)(J:PE X o to)(R:PA X (e::es) t)
  (O:ZM o name X.env (Zr o X.env)=Zr o X.env)
  (N:((Zw c (Za (e::es) X.env)).all (fun x => !x.1) && (Um c (ZS [] X.env)).all (fun x=>x.1.isSome) && decide ((e::es).length+([]:List Uw).length+(if([]:List Uw).isEmpty then 0 else 1)<30))=true)
  (M:(k.endLine == c.line)=true) (hs:Za (e::es) X.env=(false,Zr e X.env)::Za es X.env) (G:(Zw c (Za es X.env)).any (·.1)=false):PE X (.Call (.Attribute o name k) (e::es) [] c) (Nf r to t):=fun b s d H Q I h=>by
 refine wpAny_Call_method_late O N M rfl (aW (J b s d H _ I h) fun v g ⟨x,l,I1,z,⟨a,f,T,S,E⟩,B⟩=>?_);subst S;cases z;obtain⟨⟨Z,i,u,g1,g2,g3,g4⟩,_⟩:=(show eH X.prog X.w l g.heap a (bN a f T)from I1.hok a _ E)
 refine⟨"dict",id,PySem.F.plainAttrs_dict,p,ty,⟨i,g1,g2.1⟩,fun a' U=>by cases U;exact⟨i,g1,g2.2.1⟩,?_⟩
 have j:=R c b g d l _ I1 B;rw [hs]at j ⊢;exact Calls.callWith_builtin (by show(false || (Zw c (Za es X.env)).any (·.1))=false;rw [G];rfl) (Calls.evalArgs_plain (aW j fun n q ⟨m,Y,W,y,A⟩=>K b q d Y (.ref a) m (.ref a) n Q W rfl y A))
end
end DC
namespace DC
open PySem.Spec L2 DL ST SL EL TB TX
section
variable {X:Cx}{e k v a b:Expr}{es:List Expr}{gr:aA->Option (List D)}{ga gb ge gk gv:aA->Option D}{p pos:Pos}
def KY(ds:List D):Option D:=(cX ds).bind fun a=>if a.length=2 then some (.int (if a.getD 1 0<a.getD 0 0 then a.getD 1 0 else a.getD 0 0))else none
def KW(ds:List D):Option D:=(cX ds).bind fun a=>if a.length=2 then some (.int (if a.getD 1 0 > a.getD 0 0 then a.getD 1 0 else a.getD 0 0))else none
theorem IW(h:is.length=2):∃ i j,is=[i,j]:=by
 rcases is with _ | ⟨i,_ | ⟨j,_ | ⟨k,r⟩⟩⟩
 ·cases h
 ·cases h
 ·exact⟨i,j,rfl⟩
 ·cases h
theorem cd_min2(e:X.calm=true):cU X (.builtin "min") (iR X.K KY):=mB (Ew e) fun g H Q b=>by
 obtain⟨F,h,q,z,R,a,k⟩:=b;obtain⟨d,f,a⟩:=aE a;by_cases c:d.length=2
 ·rw [if_pos c]at a;cases a;obtain⟨i,j,rfl⟩:=IW c
  have:=mG R f
  subst this
  exact⟨_,_,rfl,k F H _ (aI.refl F H) (.int _)⟩
 ·rw [if_neg c]at a;cases a
theorem cd_max2(e:X.calm=true):cU X (.builtin "max") (iR X.K KW):=mB (Ev e) fun g H Q b=>by
 obtain⟨F,h,q,z,R,a,k⟩:=b;obtain⟨d,f,a⟩:=aE a;by_cases c:d.length=2
 ·rw [if_pos c]at a;cases a;obtain⟨i,j,rfl⟩:=IW c
  have:=mG R f
  subst this
  exact⟨_,_,rfl,k F H _ (aI.refl F H) (.int _)⟩
 ·rw [if_neg c]at a;cases a
def Lb(ga gb:aA->Option D):aA->Option D:=fun a=>(ga a).bind fun x=>match x with
 | .none=>gb a
 | .str y=>if y.length<=1000000 then(if y.length=0 then gb a else some (.str y))else none
 | _=>none
theorem de_orS(B:DE X a ga)(z:DE X b gb):DE X (.BoolOp .Or [a,b] pos) (Lb ga gb):=fun e s i H Q I l=>by
 obtain⟨F,f,j,r,S,q,n⟩:=l;obtain⟨d,G,q⟩:=aE q;refine BoolOp_or (aW (B e s i H (fun x g=>∃ h,aI F h H g/\aS X.K h g d x) I ⟨F,f,j,d,S,G,fun h g v E1 k=>⟨h,E1,k⟩⟩) fun v u l=>?_);obtain⟨x,g,I1,m,h,E1,k⟩:=l;have o:∀ s2,Inv X e i g s2->gb j=some r->Zb (Zc X.prog X.w) X.A (Zr (.BoolOp .Or [b] pos) X.env) (EP X e i Q) X.xe s2:=fun s2 J E=>BoolOp_one (z e s2 i g Q J ⟨h,f,j,r,S.ext E1,E,fun N M w O R2=>n N M w (E1.trans O) R2⟩)
 cases d with
 | none=>
  cases k;cases m;exact truthy_none (o u I1 q)
 | str y=>
  cases k;obtain⟨t,rfl⟩:=m;have q:(if y.length<=1000000 then(if y.length=0 then gb j else some (.str y))else none)=some r:=q;by_cases p:y.length<=1000000
  ·rw [if_pos p]at q;refine PySem.P.truthy_str (by lia) ?_;by_cases c:y.length=0
   ·rw [if_pos c]at q;rw [show((y.length:Int) != 0)=false by rw [c];rfl];exact o _ (I1.tok _) q
   ·rw [if_neg c]at q;cases q;rw [show((y.length:Int) != 0)=true by simp;lia]
    exact⟨.str y,g,I1.tok _,⟨t,rfl⟩,n h g _ E1 (.str y)⟩
  ·rw [if_neg p]at q;cases q
 | _=>cases q
def MM(i:Nat)(g:aA->Option D):aA->Option bD:=fun a=>(g (a.map frz)).bind fun d=>if uK d=true then some (.nx (a.set i (.dat d)))else none
theorem ds_setN(n:X.N.Nodup)(m:DE X e ga)(j:X.N[i]?=some x:=by rfl)(h:hE X.env.scope x:=by first | exact Zx rfl | exact Zl rfl)(hs:ZI e (some (.Name x pos')) pos.line X.env=pure false:=by rfl)(l:X.fn x=true ∨ X.env.scope.names.lookup x=some .local:=by first | exact .inl rfl | exact .inr rfl | assumption):
  DS X (.Assign [.Name x pos'] e pos) (MM i ga):=ps_mono (lA n j h m hs l) fun W t H g=>by
 obtain⟨c,a,F,f,o,E,S,q,k⟩:=g;obtain⟨d,p,q⟩:=aE q;by_cases b:uK d=true
 ·rw [if_pos b]at q;cases q
  refine⟨_,a,f.map frz,d,S.frz,p,fun u s v E' r=>?_⟩
  have E2:=E'.lend S;exact k _ s _ (E.trans E2) E2.stay ((S.ext E2).put (Gz r b))
 ·rw [if_neg b]at q;cases q
def Tv(i:Nat)(e c:aA->Option D):aA->Option bD:=fun a=>(e a).bind fun kd=>(c a).bind fun d=>(eQ kd).bind fun b=>some (.nx (a.set i (.ownD [(m9 b,d)])))
theorem Rv(hu:X.A.units+65<Zi)(Z:DE X k gk)(Y:DE X v gv):PE X (.Dict [some k] [v] pos) (fun σ H Q=>∃ F H₀ ρ kd ks d,bF X.K F H H₀ σ ρ/\gk ρ=some kd/\eQ kd=some ks/\gv ρ=some d/\∀ F' H' p b w ep ep0,H p=none->aI F F' (aJ H p (bN p [] ep0)) H'->bL X.K H' b (ks.map V.int)->aS X.K F' H' d w->Q (.ref p) (aJ H' p (bN p [(.inl ks,b,w)] ep))):=fun a s σ H Q I l=>by
 obtain⟨F,H₀,ρ,kd,ks,d,S,e1,e2,e3,U⟩:=l;refine wpAny_Dict_any rfl rfl (by simp) (by simp) ?_;have J:H s.heap.objs.size=none:=I.hok.fresh (Qm _);have T:(s.heap.objs.size == ZT)=false:=beq_eq_false_iff_ne.mpr (Ua (Qz (Ba I)));have dd:(s.heap.push { cls:=.type "dict",data:=.dict #[] }).DictOfH (cI X.prog X.w) s.heap.objs.size []:=⟨_,_,_,Qy _ rfl,⟨rfl,rfl,rfl⟩,rfl,rfl,fun x W=>(nomatch W),.nil⟩;obtain⟨ep,oo⟩:=Az (H:=H) T dd .nil;have I0:Inv X a σ (aJ H s.heap.objs.size (bN s.heap.objs.size [] ep)) { s with heap:=s.heap.push { cls:=.type "dict",data:=.dict #[] } }:=I.laid (t':=s.toks) (fun b o q=>Qh _ q) (Qm _) oo;have E0:aI F F H (aJ H s.heap.objs.size (bN s.heap.objs.size [] ep)):=aI.fresh J;generalize s.heap.objs.size=f at *;have S0:=S.ext E0;refine pairTrees_cons_walk (aW (Z a _ σ _ (fun x i=>∃ h,aI F h (aJ H f (bN f [] ep)) i/\aS X.K h i kd x) I0 ⟨F,H₀,ρ,kd,S0,e1,fun h i v E1 E=>⟨h,E1,E⟩⟩) fun u1 N l=>?_);obtain⟨x1,i,I1,R,h,E1,E⟩:=l;have S1:=S0.ext E1;obtain⟨b,rfl,hb⟩:=tM E e2;cases R;refine aW (Y a N σ i (fun x g=>∃ j,aI h j i g/\aS X.K j g d x) I1 ⟨h,H₀,ρ,d,S1,e3,fun j g v E2 R2=>⟨j,E2,R2⟩⟩) fun u2 t l=>?_;obtain⟨G,g,I2,O,j,E2,R2⟩:=l;refine pairTrees_nil_walk ?_;have M:g f=some (bN f [] ep):=E2.same _ _ (E1.same _ _ cO);obtain⟨y,xs,d2,er⟩:=AA I2 M (fun e he=>(nomatch he)) .nil;cases er;have m:=dX.sqT E2.same hb;unfold storeAll;rw [List.forIn_cons];refine Qa (Qa (wpAny_dictSet_heap (knd:=cI X.prog X.w) (k:=ks) (show X.A.units<Zi from by lia) (kH I2 m) d2 (fun h' r B=>Qb ?_) (Q8 _)));obtain⟨n,u⟩:=Az (H:=g) y r (FY O .nil);have I4:Inv X a σ (aJ g f (bN f (oX [] ks b G) n)) { t with heap:=h',toks:=t.toks+(cI X.prog X.w).draws ks }:=I2.write (x:=f) (e:=f) (t':=t.toks+(cI X.prog X.w).draws ks) (by rw [M];exact Ud) (.inl rfl) (fun c ob hc z=>(B.2 c hc).trans z) (let⟨o2,_,_,hq,_⟩:=r;⟨o2,hq⟩) u
 show Zb _ _ (forIn [] PUnit.unit _) _ _ _
 rw [List.forIn_nil];exact Qb ⟨.ref f,_,I4,rfl,U j g f b G n ep J (E1.trans E2) m R2⟩
theorem zR1(hN:X.N.Nodup)(hu:X.A.units+65<Zi)(hk:DE X k gk)(hv:DE X v gv)(hi:X.N[i]?=some x:=by rfl)(hx:hE X.env.scope x:=by first | exact Zx rfl | exact Zl rfl)
  (hs:ZI (.Dict [some k] [v] pos'') (some (.Name x pos')) pos.line X.env=pure false:=by rfl) (hf:X.fn x=true ∨ X.env.scope.names.lookup x=some .local:=by first | exact .inl rfl | exact .inr rfl | assumption):
  DS X (.Assign [.Name x pos'] (.Dict [some k] [v] pos'') pos) (Tv i gk gv):=ps_mono (lA hN hi hx (Rv hu hk hv) hs hf) fun W σ H zz=>by
 obtain⟨a5,B,F,ρ,o,E,S,q,kk⟩:=zz;obtain⟨kd,e1,q⟩:=aE q;obtain⟨d,e3,q⟩:=aE q;obtain⟨J,e2,q⟩:=aE q;cases q
 refine⟨F,B,ρ,kd,J,d,S,e1,e2,e3,fun Y Z p b w I a0 hp E' hb R=>?_⟩
 have E0:aI F F H (aJ H p (bN p [] a0)):=aI.fresh hp;have S':=(S.ext E0).ext E';have h0:B p=none:=E.same.free hp;have hH:Z p=some (bN p [] a0):=E'.same _ _ cO
 have nf:¬ Y p:=fun f=>by
  rcases E'.new p f with f | ⟨f,_⟩
  ·exact S.fz p f hp
  ·rw [cO]at f;cases f
 have T:bJ X.K Y Y Z (aJ Z p (bN p [(.inl J,b,w)] I)):=⟨fun _ h=>h,fun a xs h=>by
   rcases h with(h | ⟨o,h⟩) | h
   ·exact .inl (.inl (by rw [aX (by intro z;subst z;rw [hH]at h;cases h)];exact h))
   ·exact .inl (.inr ⟨o,by rw [aX (by intro z;subst z;rw [hH]at h;cases h)];exact h⟩)
   ·exact .inr h,fun a xs f h=>by
   have na:a≠p:=fun z=>nf (by rw [<- z];exact f);rcases h with h | ⟨o,h⟩
   ·exact .inl (by rw [aX na];exact h)
   ·exact .inr ⟨o,by rw [aX na];exact h⟩,fun a φ f h=>by rw [aX (fun z=>nf (by rw [<- z];exact f))];exact h⟩
 have a2:∀(j:Nat) (s:Sl),ρ[j]?=some s->∃ o,σ[j]?=some o/\qR X.K Y (aJ Z p (bN p [(.inl J,b,w)] I)) B o s:=fun j s h=>by
  obtain⟨o,q,z⟩:=S.sl j s h
  have ne:∀(a:J8) (u:HO),H a=some u->a≠p:=fun a u t e=>by rw [e,hp]at t;cases t
  have up:∀(a:J8) (u:HO),H a=some u->aJ Z p (bN p [(.inl J,b,w)] I) a=some u:=fun a u t=>by rw [aX (ne a u t)];exact E'.same _ _ (E0.same _ _ t)
  have O:∀(a:J8) (u:HO),H a=some u->¬ F a->¬ Y a:=fun a u t nf f=>by
   rcases E'.new a f with f | ⟨f,_⟩
   ·exact nf f
   ·rw [E0.same _ _ t]at f;cases f
  have T2:bJ X.K F Y H (aJ Z p (bN p [(.inl J,b,w)] I)):=(E0.trans E').stay.trans T
  refine⟨o,q,?_⟩
  cases s with
  | no=>trivial
  | dat d=>obtain⟨v,M,r⟩:=z;exact⟨v,M,r.stay T2⟩
  | own ds=>obtain⟨a,vs,M,t,y,U,r⟩:=z;exact⟨a,vs,M,up a _ t,O a _ t y,U,r.stay T2⟩
  | ownD a3=>obtain⟨a,G,I,M,t,y,U,n,l,r⟩:=z;exact⟨a,G,I,M,up a _ t,O a _ t y,U,n,l,r.stay T2⟩
  | ownM a3=>obtain⟨a,G,I,M,m⟩:=z;exact⟨a,G,I,M,m.to T2 fun c φ hc y=>⟨up c _ hc,O c _ hc y⟩⟩
 refine kk Y _ _ ((E.trans (E0.trans E')).turn h0) ((E0.trans E').stay.trans T) ⟨by simp [S.len],fun j s h=>?_,fun j m a ds G a4 h1 h2 h3 h4=>?_,fun a f=>?_⟩
 ·by_cases Q:i=j
  ·subst Q
   have hl:i<ρ.length:=by simpa using(Qc.mp h).1
   rw [Qw hl]at h;cases h
   exact⟨some (.ref p),by rw [Qw (by rw [S.len];exact hl)],p,[(.inl J,b,w)],I,rfl,cO,nf,h0,by simp,by simp,.cons (k:=.inl J) (T.tp _ _ hb) (R.stay T) .nil⟩
  ·rw [Qq Q]at h;obtain⟨o,q,z⟩:=a2 j s h
   exact⟨o,by rw [Qq Q];exact q,z⟩
 ·have nm:∀(m:Nat) (G:List D),(ρ.set i (.ownD [(m9 J,d)]))[m]?=some (.own G)->i≠m:=fun m G g z=>by
   subst z
   have hl:i<ρ.length:=by simpa using(Qc.mp g).1
   rw [Qw hl]at g;cases g
  have nj:=nm j ds h1;have nk:=nm m G h2;rw [Qq nj]at h1 h3;rw [Qq nk]at h2 h4;exact S.sep j m a ds G a4 h1 h2 h3 h4
 ·by_cases t:a=p
  ·subst t;rw [cO];simp
  ·rw [aX t];exact S'.fz a f
end
end DC
namespace OB
open PySem.Spec L2 DL
structure c5(K:PySem.W.Frag)(φ F F':J8->Prop)(H H':Hp):Prop where
 st:bJ K F F' H H'
 out:∀ a o,H a=some o->¬ φ a->H' a=some o
 new:∀ a,F' a->F a ∨ H a=none
 fz:∀ a,F' a->H' a≠none
 lv:∀ a,H' a=none->H a=none
theorem c5.refl{K:PySem.W.Frag}{φ F:J8->Prop}{H:Hp}(z:∀ a,F a->H a≠none):c5 K φ F F H H:=⟨bJ.refl K F H,fun _ _ h _=>h,fun _ h=>.inl h,z,fun _ h=>h⟩
theorem c5.ext{K:PySem.W.Frag}{φ F b:J8->Prop}{H H':Hp}(z:∀ a,F a->H a≠none)(e:aI F b H H'):c5 K φ F b H H':=
 ⟨e.stay,fun a o h _=>e.same a o h,fun a f=>(e.new a f).imp_right fun h=>h.1,e.fz z,fun _ h=>e.same.free h⟩
theorem c5.trans{K:PySem.W.Frag}{φ c F g e:J8->Prop}{H d H2:Hp}(a:c5 K φ F g H d)(b:c5 K c g e d H2)(s:∀ x,c x->φ x ∨ H x=none):c5 K φ F e H H2:=
 ⟨a.st.trans b.st,fun x o h n=>b.out x o (a.out x o h n) (fun f=>(s x f).elim n fun z=>by rw [h]at z;cases z),
  fun x f=>(b.new x f).elim (a.new x) fun f=>.inr (a.lv x f),b.fz,fun x h=>a.lv x (b.lv x h)⟩
structure dS(K:PySem.W.Frag)(B:Type) where
 cl:B->J8
 fn:B->List Str
 At:(J8->Prop)->Hp->J8->B->(J8->Prop)->Prop
 own:∀{F:J8->Prop}{H:Hp}{p:J8}{b:B}{φ:J8->Prop},At F H p b φ->φ p/\∀ a,φ a->H a≠none/\¬ F a
 ins:∀{F:J8->Prop}{H:Hp}{p:J8}{b:B}{φ:J8->Prop},At F H p b φ->∃ dx fs,H p=some (.ins (cl b) dx fs)/\fs.map (·.1)=fn b
 keep:∀{F F':J8->Prop}{H H':Hp}{p:J8}{b:B}{φ:J8->Prop},At F H p b φ->bJ K F F' H H'->(∀ a o,φ a->H a=some o->H' a=some o)->(∀ a,φ a->¬ F' a)->At F' H' p b φ
abbrev Oa:=J8 × (J8->Prop)
def fG(os:List Oa)(a:J8):Prop:=∃ o,o∈os/\o.2 a
structure bM(K:PySem.W.Frag)(os os':List Oa)(F F':J8->Prop)(H H':Hp):Prop where
 k:c5 K (fG os) F F' H H'
 ft:∀ a,fG os' a->fG os a ∨ H a=none
 ad:∀(j:Nat) (o:Oa),os[j]?=some o->∃ φ,os'[j]?=some (o.1,φ)
theorem bM.refl{K:PySem.W.Frag}{os:List Oa}{F:J8->Prop}{H:Hp}(z:∀ a,F a->H a≠none):bM K os os F F H H:=⟨c5.refl z,fun _ h=>.inl h,fun _ o h=>⟨o.2,h⟩⟩
theorem bM.trans{K:PySem.W.Frag}{os d c:List Oa}{F i g:J8->Prop}{H e H2:Hp}(a:bM K os d F i H e)(b:bM K d c i g e H2):bM K os c F g H H2:=
 ⟨a.k.trans b.k a.ft,fun x f=>(b.ft x f).elim (a.ft x) fun f=>.inr (a.k.lv x f),fun j o h=>
  let⟨_,h1⟩:=a.ad j o h
  let⟨φ2,h2⟩:=b.ad j _ h1
  ⟨φ2,h2⟩⟩
theorem bM.ext{K:PySem.W.Frag}{os:List Oa}{F b:J8->Prop}{H H':Hp}(z:∀ a,F a->H a≠none)(e:aI F b H H'):bM K os os F b H H':=⟨c5.ext z e,fun _ h=>.inl h,fun _ o h=>⟨o.2,h⟩⟩
section
variable {K:PySem.W.Frag}{B:Type}(k:dS K B)
structure Os(F:J8->Prop)(H:Hp)(Ω:List B)(os:List Oa):Prop where
 at_:Paired (fun b (o:Oa)=>k.At F H o.1 b o.2) Ω os
 dj:∀(i j:Nat) (o u:Oa),i≠j->os[i]?=some o->os[j]?=some u->∀ a,o.2 a->¬ u.2 a
structure SO(τ:List (Nat × Nat))(F:J8->Prop)(H H₀:Hp)(σ:L2.St)(ρ:aA)(Ω:List B)(os:List Oa):Prop where
 S:bF K F H H₀ σ ρ
 o:Os k F H Ω os
 sep:∀ a,dM σ ρ a->¬ fG os a
 nm:∀(i:Nat) (kvs:List (List Int × List D)),ρ[i]?≠some (.ownM kvs)
 hd:∀ i j,(i,j)∈τ->∀ o,os[j]?=some o->σ[i]?=some (some (.ref o.1))
 lo:∀ a,H a=none->H₀ a=none
variable {k}
theorem qG{d c:Type}{R:d->c->Prop}:∀{l:List d}{m:List c}{i:Nat}{b:c},Paired R l m->m[i]?=some b->∃ a,l[i]?=some a/\R a b
 | _,_,_,_,.nil,e=>by simp at e
 | _,_,0,_,.cons r _,e=>by simp at e;subst e;exact⟨_,rfl,r⟩
 | _,_,i+1,b,.cons _ t,e=>by
  obtain⟨a,g,f⟩:=qG (i:=i) (b:=b) t (by simpa using e)
  exact⟨a,by simpa using g,f⟩
theorem iG{c d:Type}{R:c->d->Prop}:∀{l:List c}{m:List d}{i:Nat}{a:c},Paired R l m->l[i]?=some a->∃ b,m[i]?=some b/\R a b
 | _,_,_,_,.nil,e=>by simp at e
 | _,_,0,_,.cons r _,e=>by simp at e;subst e;exact⟨_,rfl,r⟩
 | _,_,i+1,b,.cons _ t,e=>by
  obtain⟨a,g,f⟩:=iG (i:=i) (a:=b) t (by simpa using e)
  exact⟨a,by simpa using g,f⟩
theorem BE{d c:Type}{R e:d->c->Prop}:∀{l:List d}{m:List c},Paired R l m->(∀(i:Nat) a b,m[i]?=some b->R a b->e a b)->Paired e l m
 | _,_,.nil,_=>.nil
 | _,_,.cons r t,f=>.cons (f 0 _ _ rfl r) (BE t fun i a b h q=>f (i+1) a b (by simpa using h) q)
theorem GN{d c:Type}{R e:d->c->Prop}{g:d}{b':c}:∀{l:List d}{m:List c} (j:Nat),Paired R l m->(∀(i:Nat) a b,i≠j->m[i]?=some b->R a b->e a b)->e g b'->Paired e (l.set j g) (m.set j b')
 | _,_,_,.nil,_,_=>.nil
 | _,_,0,.cons r t,f,q=>.cons q (BE t fun i a b h z=>f (i+1) a b (by lia) (by simpa using h) z)
 | _,_,j+1,.cons r t,f,q=>.cons (f 0 _ _ (by lia) rfl r) (GN j t (fun i a b n h z=>f (i+1) a b (by lia) (by simpa using h) z) q)
theorem jK{os:List Oa}{j:Nat}{o:Oa}{a:J8}(h:os[j]?=some o)(b:o.2 a):fG os a:=⟨o,QN h,b⟩
theorem Fg{os:List Oa}{a:J8}(h:fG os a):∃(j:Nat) (o:Oa),os[j]?=some o/\o.2 a:=by
 obtain⟨o,m,c⟩:=h;obtain⟨j,b⟩:=QQ m
 exact⟨j,o,b,c⟩
theorem Os.live{F:J8->Prop}{H:Hp}{Ω:List B}{os:List Oa}(h:Os k F H Ω os){a:J8}(f:fG os a):H a≠none/\¬ F a:=by
 obtain⟨j,o,c,d⟩:=Fg f;obtain⟨b,_,q⟩:=qG h.at_ c
 exact(k.own q).2 a d
theorem Os.keep{F d:J8->Prop}{H c:Hp}{Ω:List B}{os:List Oa}(h:Os k F H Ω os)(T:bJ K F d H c)(s:∀ a o,fG os a->H a=some o->c a=some o)(n:∀ a,fG os a->¬ d a):Os k d c Ω os:=
 ⟨BE h.at_ fun j b o g q=>k.keep q T (fun a u f e=>s a u (jK g f) e) fun a f=>n a (jK g f),h.dj⟩
theorem SO.ext{τ:List (Nat × Nat)}{F d:J8->Prop}{H c H₀:Hp}{b:L2.St}{ρ:aA}{Ω:List B}{os:List Oa}(S:SO k τ F H H₀ b ρ Ω os)(e:aI F d H c):SO k τ d c H₀ b ρ Ω os:=
 ⟨S.S.ext e,S.o.keep e.stay (fun a o _ h=>e.same a o h) (fun a f z=>by
  rcases e.new a z with z | ⟨z,_⟩
  ·exact(S.o.live f).2 z
  ·exact(S.o.live f).1 z),S.sep,S.nm,S.hd,fun a h=>S.lo a (e.same.free h)⟩
theorem bF.keep(S:bF K F H H₀ σ ρ)(n:∀ a,dM σ ρ a->¬ φ a)(p:∀(i:Nat) (kvs:List (List Int × List D)),ρ[i]?≠some (.ownM kvs))(q:c5 K φ F F' H H'):bF K F' H' H₀ σ ρ:=by
 refine⟨S.len,fun i s c=>?_,S.sep,q.fz⟩
 obtain⟨o,g,w⟩:=S.sl i s c
 refine⟨o,g,?_⟩
 have k:∀ a u,H a=some u->¬ F a->¬ F' a:=fun a u h f x=>by
  rcases q.new a x with z | z
  ·exact f z
  ·rw [h]at z;cases z
 cases s with
 | no=>trivial
 | dat d=>obtain⟨v,e,r⟩:=w;exact⟨v,e,r.stay q.st⟩
 | own B=>
  obtain⟨a,m,e,b,f,j,r⟩:=w
  exact⟨a,m,e,q.out a _ b (n a (.inl ⟨i,B,c,by rw [g,e]⟩)),k a _ b f,j,r.stay q.st⟩
 | ownD kvs=>
  obtain⟨a,y,A,e,b,f,j,t,l,r⟩:=w
  exact⟨a,y,A,e,q.out a _ b (n a (.inr ⟨i,kvs,c,by rw [g,e]⟩)),k a _ b f,j,t,l,r.stay q.st⟩
 | ownM kvs=>exact absurd c (p i kvs)
theorem x4(S:bF K F H H₀ σ ρ)(h:dM σ ρ a):H a≠none/\H₀ a=none/\¬ F a:=by
 rcases h with⟨i,k,d,c⟩ | ⟨i,g,d,c⟩
 ·obtain⟨b,f,g1,g2,g3,e,_⟩:=S.own d;rw [g1]at c;cases c
  exact⟨by rw [g2];simp,e,g3⟩
 ·obtain⟨b,f,j,g1,g2,g3,e,_⟩:=S.ownD d;rw [g1]at c;cases c
  exact⟨by rw [g2];simp,e,g3⟩
theorem SO.turn{τ:List (Nat × Nat)}{F E:J8->Prop}{H H' H₀:Hp}{G:L2.St}{ρ:aA}{Ω:List B}{os:List Oa}(S:SO k τ F H H₀ G ρ Ω os){j:Nat}{o:Oa}{b':B}{g:J8->Prop}(l:os[j]?=some o)(q:c5 K o.2 F E H H')(s:∀ a,g a->o.2 a ∨ H a=none)
  (N:k.At E H' o.1 b' g):SO k τ E H' H₀ G ρ (Ω.set j b') (os.set j (o.1,g))/\bM K os (os.set j (o.1,g)) F E H H':=by
 have t:j<os.length:=(Qc.mp l).1;have O:∀(i:Nat) (u:Oa),i≠j->os[i]?=some u->∀ a,u.2 a->¬ o.2 a:=fun i u n c a p z=>S.o.dj i j u o n c l a p z
 have M:∀ a,fG (os.set j (o.1,g)) a->fG os a ∨ H a=none:=fun a f=>by
  obtain⟨i,u,c,p⟩:=Fg f;by_cases z:j=i
  ·subst z;rw [Qw t]at c;cases c
   exact(s a p).imp_left fun h=>jK l h
  ·rw [Qq z]at c;exact .inl (jK c p)
 refine⟨⟨bF.keep S.S (fun a h f=>S.sep a h (jK l f)) S.nm q,⟨?_,?_⟩,fun a h f=>?_,S.nm,fun i r m u A=>?_,fun a h=>S.lo a (q.lv a h)⟩,⟨q.st,fun a u h n=>q.out a u h fun f=>n (jK l f),q.new,q.fz,q.lv⟩,M,fun i u c=>?_⟩
 ·refine GN j S.o.at_ (fun i b u n c w=>k.keep w q.st (fun a x f e=>q.out a x e (O i u n c a f)) fun a f Q=>?_) N;have J:=(k.own w).2 a f;rcases q.new a Q with z | z
  ·exact J.2 z
  ·exact J.1 z
 ·intro i r u v n c d a p y;by_cases z:j=i
  ·subst z;rw [Qw t]at c;cases c;rw [Qq n]at d;rcases s a p with f | f
   ·exact S.o.dj j r o v n l d a f y
   ·exact(S.o.live (jK d y)).1 f
  ·rw [Qq z]at c;by_cases I:j=r
   ·subst I;rw [Qw t]at d;cases d;rcases s a y with f | f
    ·exact S.o.dj i j u o n c l a p f
    ·exact(S.o.live (jK c p)).1 f
   ·rw [Qq I]at d;exact S.o.dj i r u v n c d a p y
 ·rcases M a f with f | f
  ·exact S.sep a h f
  ·exact(x4 S.S h).1 f
 ·by_cases z:j=r
  ·subst z;rw [Qw t]at A;cases A;exact S.hd i j m o l
  ·rw [Qq z]at A;exact S.hd i r m u A
 ·by_cases z:j=i
  ·subst z;rw [l]at c;cases c
   exact⟨g,Qw t⟩
  ·exact⟨u.2,by rw [Qq z];exact c⟩
end
end OB
namespace OB
open PySem.Spec L2 DL
abbrev GX(B α:Type):=aA->List B->Option (α × List B)
section
variable {K:PySem.W.Frag}{B:Type}(k:dS K B)(τ:List (Nat × Nat))
inductive iL(g:GX B D)(σ:L2.St)(H:Hp)(Q:VK):Prop
 | mk (F:J8->Prop) (H₀:Hp) (ρ:aA) (Ω:List B) (os:List Oa) (d:D) (Ω':List B) (S:SO k τ F H H₀ σ ρ Ω os) (q:g ρ Ω=some (d,Ω')) (c:∀ F' H' v os',bM K os os' F F' H H'->SO k τ F' H' H₀ σ ρ Ω' os'->aS K F' H' d v->Q v H'):iL g σ H Q
inductive oH(g:GX B Bool)(σ:L2.St)(H:Hp)(Q:Bool->Hp->Prop):Prop
 | mk (F:J8->Prop) (H₀:Hp) (ρ:aA) (Ω:List B) (os:List Oa) (d:Bool) (Ω':List B) (S:SO k τ F H H₀ σ ρ Ω os) (q:g ρ Ω=some (d,Ω')) (c:∀ F' H' os',bM K os os' F F' H H'->SO k τ F' H' H₀ σ ρ Ω' os'->Q d H'):oH g σ H Q
inductive Dl(g:GX B (List D))(σ:L2.St)(H:Hp)(Q:List V->Hp->Prop):Prop
 | mk (F:J8->Prop) (H₀:Hp) (ρ:aA) (Ω:List B) (os:List Oa) (ds:List D) (Ω':List B) (S:SO k τ F H H₀ σ ρ Ω os) (q:g ρ Ω=some (ds,Ω')) (c:∀ F' H' vs os',bM K os os' F F' H H'->SO k τ F' H' H₀ σ ρ Ω' os'->Reps K F' H' ds vs->Q vs H'):Dl g σ H Q
def oC(F:J8->Prop)(H:Hp)(p:J8):Option D->V->Prop
 | some d,v=>aS K F H d v
 | none,v=>v=.ref p
inductive Dm(j:Nat)(g:aA->Option (List (Option D)))(σ:L2.St)(H:Hp)(Q:List V->Hp->Prop):Prop
 | mk (F:J8->Prop) (H₀:Hp) (ρ:aA) (Ω:List B) (os:List Oa) (ds:List (Option D)) (o:Oa) (hj:os[j]?=some o) (S:SO k τ F H H₀ σ ρ Ω os) (q:g ρ=some ds) (c:∀ F' H' vs,aI F F' H H'->Paired (oC (K:=K) F' H' o.1) ds vs->Q vs H'):Dm j g σ H Q
end
section
variable {X:Cx}{B:Type}(k:dS X.K B)(τ:List (Nat × Nat))
def XE(e:Expr)(g:GX B D):Prop:=PE X e (iL k τ g)
def XT(e:Expr)(g:GX B Bool):Prop:=PT X e (oH k τ g)
def XW(e:Expr)(g:GX B Bool):Prop:=PW X e (oH k τ g)
def XA(es:List Expr)(g:GX B (List D)):Prop:=PA X es (Dl k τ g)
def XO(j:Nat)(es:List Expr)(g:aA->Option (List (Option D))):Prop:=PA X es (Dm k τ j g)
end
section
variable {B α:Type}
def xP(g:aA->Option α):GX B α:=fun a b=>(g a).bind fun d=>some (d,b)
def cM(h:D->D->Option D)(ga gb:GX B D):GX B D:=fun a b=>(ga a b).bind fun x=>(gb a x.2).bind fun y=>(h x.1 y.1).bind fun r=>some (r,y.2)
def xB(ga:GX B D):GX B Bool:=fun a c=>(ga a c).bind fun x=>(jC x.1).bind fun b=>some (b,x.2)
def jF(t u:GX B Bool):GX B Bool:=fun a b=>(t a b).bind fun x=>if x.1=true then some x else u a x.2
def o9(t:GX B Bool):GX B Bool:=fun a b=>(t a b).bind fun x=>some (!x.1,x.2)
def fQ:GX B (List D):=fun _ a=>some ([],a)
def cS(ga:GX B D)(gr:GX B (List D)):GX B (List D):=fun a b=>(ga a b).bind fun x=>(gr a x.2).bind fun y=>some (x.1::y.1,y.2)
abbrev GM(B:Type):=List (Option D)->B->Option (D × B)
def cZ(j:Nat)(G:GM B)(gr:aA->Option (List D)):GX B D:=fun c a=>(gr c).bind fun d=>(a[j]?).bind fun b=>(G (none::d.map some) b).bind fun r=>some (r.1,a.set j r.2)
def j8(j:Nat)(G:GM B)(gr:aA->Option (List (Option D))):GX B D:=fun c a=>(gr c).bind fun d=>(a[j]?).bind fun b=>(G d b).bind fun r=>some (r.1,a.set j r.2)
def j3:aA->Option (List (Option D)):=fun _=>some []
def j2(ga:aA->Option D)(gr:aA->Option (List (Option D))):aA->Option (List (Option D)):=fun a=>(ga a).bind fun x=>(gr a).bind fun b=>some (some x::b)
def j4(gr:aA->Option (List (Option D))):aA->Option (List (Option D)):=fun a=>(gr a).bind fun b=>some (none::b)
end
def cV{K:PySem.W.Frag}{B:Type}(k:dS K B)(n:Nat)(G:GM B):Sp:=fun c H Q _=>∃(F:J8->Prop) (p:J8) (b:B) (φ:J8->Prop) (ds:List (Option D)) (r:D) (b':B),ds.length=n/\(∀ a,F a->H a≠none)/\k.At F H p b φ/\Paired (oC (K:=K) F H p) ds c/\G ds b=some (r,b') /\
 ∀ F' H' v φ',c5 K φ F F' H H'->(∀ a,φ' a->φ a ∨ H a=none)->k.At F' H' p b' φ'->aS K F' H' r v->Q v H'
theorem xN{a:Type}:∀{fs:List (Str × a)},(fs.map (·.1)).contains m=false->fs.lookup m=none
 | [],_=>rfl
 | (x,v)::fs,h=>by
  rw [Qp,List.contains_cons,Bool.or_eq_false_iff]at h;rw [QT,h.1];exact xN h.2
theorem A8{K:PySem.W.Frag}{F:J8->Prop}{H:Hp}{p:J8}:∀{ds:List D}{vs:List V},Reps K F H ds vs->Paired (oC (K:=K) F H p) (ds.map some) vs
 | _,_,.nil=>.nil
 | _,_,.cons h r=>.cons h (A8 r)
section
variable {X:Cx}{B:Type}{k:dS X.K B}{τ:List (Nat × Nat)}{a b c e:Expr}{es rest:List Expr}{pos p:Pos}
theorem cD(h:DE X e g):XE k τ e (xP g):=cR h fun o H Q i=>by
 obtain⟨F,a,b,p,j,d,f,S,q,c⟩:=i;obtain⟨r,l,q⟩:=aE q;cases q
 exact⟨F,a,b,d,S.S,l,fun n m v E R=>c n m v j (bM.ext S.S.fz E) (S.ext E) R⟩
theorem II(h:DT X e g):XT k τ e (xP g):=lC h fun o H Q i=>by
 obtain⟨F,a,b,p,j,d,f,S,q,c⟩:=i;obtain⟨r,l,q⟩:=aE q;cases q
 exact⟨F,a,b,d,S.S,l,fun n m E=>c n m j (bM.ext S.S.fz E) (S.ext E)⟩
variable {ga gb:GX B D}{t u:GX B Bool}{gr:GX B (List D)}
theorem Cf(q:iL k τ (cM h ga gb) σ H Q):nG (cE X.K h) (iL k τ ga) (iL k τ gb) σ H Q:=by
 obtain⟨F,a,f,j,l,d,i,S,q,c⟩:=q;obtain⟨x,o,q⟩:=aE q;obtain⟨y,n,q⟩:=aE q;obtain⟨r,m,q⟩:=aE q;cases q
 exact⟨F,a,f,j,l,x.1,x.2,S,o,fun B G v e K1 p R1=>⟨B,a,f,x.2,e,y.1,y.2,p,n,fun A E w b K2 S2 R2=>⟨A,x.1,y.1,d,S2.S.fz,R1.stay K2.k.st,R2,m,fun u t z g s=>c u t z b ((K1.trans K2).trans (bM.ext S2.S.fz g)) (S2.ext g) s⟩⟩⟩
theorem Cg(m:∀ σ H Q,iL k τ g σ H Q->te σ H Q)(q:oH k τ (xB g) σ H Q):v7 te σ H Q:=by
 obtain⟨F,a,e,h,i,d,f,S,q,c⟩:=q;obtain⟨x,l,q⟩:=aE q;obtain⟨y,j,q⟩:=aE q;cases q;exact m σ H _ ⟨F,a,e,h,i,x.1,x.2,S,l,fun s r v b p n o=>⟨d,lD o j,c s r b p n⟩⟩
theorem lH(c:bH X (Zm op) (cE X.K h))(f:XE k τ a ga)(e:XE k τ b gb)(d:ZR op b=false):XT k τ (.Compare a [op] [b] pos) (xB (cM h ga gb)):=lC (BQ c f e d) fun _ _ _ q=>Cg (fun _ _ _=>Cf) q
theorem Wb(l:XE k τ a ga)(he:∀ whole,isTrue a X.env whole=(do let v <- whole;standAt a.pos;UE [v] (truthy v)):=by intro _;rfl):XT k τ a (xB ga):=lC (Im l he) fun u H Q i=>by
 obtain⟨F,b,f,h,j,d,g,S,q,c⟩:=i;obtain⟨x,n,q⟩:=aE q;obtain⟨y,m,q⟩:=aE q;cases q
 exact⟨F,b,f,h,j,x.1,x.2,S,n,fun t s v e r o p=>⟨d,lD p m,c t s e r o⟩⟩
theorem IJ(b:XT k τ a t):XW k τ (.BoolOp .Or [a] pos) t:=Is b
theorem yI(v:XT k τ a t)(s:XW k τ (.BoolOp .Or (b::rest) pos) u):XW k τ (.BoolOp .Or (a::b::rest) pos) (jF t u):=BR (Ir v s) fun G H Q o=>by
 obtain⟨F,e,j,n,p,d,h,S,q,c⟩:=o;obtain⟨x,w,q⟩:=aE q
 refine⟨F,e,j,n,p,x.1,x.2,S,w,fun m B f K1 l=>?_⟩
 obtain⟨r,g⟩:=x
 cases r with
 | false=>simp only [Qg,if_false]at q ⊢;exact⟨m,e,j,g,f,d,h,l,q,fun E A i z y=>c E A i (K1.trans z) y⟩
 | true=>simp only [if_true]at q ⊢;cases q;exact c m B f K1 l
theorem D1(h:XW k τ a t):XT k τ a t:=PW.pt h
theorem IH(l:XT k τ a t):XT k τ (.UnaryOp .Not a pos) (o9 t):=lC (Il l) fun s H Q i=>by
 obtain⟨F,b,f,h,j,d,g,S,q,c⟩:=i;obtain⟨x,m,q⟩:=aE q;cases q
 exact⟨F,b,f,h,j,x.1,x.2,S,m,fun r p e o n=>c r p e o n⟩
theorem lX:XA k τ [] (fQ (B:=B)):=n8 iV fun g H Q e=>by
 obtain⟨F,a,h,i,f,d,b,S,q,c⟩:=e;cases q;exact c F H [] f (bM.refl S.S.fz) S .nil
theorem gN(n:XE k τ e ga)(m:XA k τ es gr)(hs:Za (e::es) X.env=(false,Zr e X.env)::Za es X.env:=by rfl):XA k τ (e::es) (cS ga gr):=n8 (gY n m hs) fun z H Q j=>by
 obtain⟨F,a,g,i,l,d,h,S,q,c⟩:=j;obtain⟨x,p,q⟩:=aE q;obtain⟨y,o,q⟩:=aE q;cases q
 exact⟨F,a,g,i,l,x.1,x.2,S,p,fun w B v f K1 s R1=>⟨w,a,g,x.2,f,y.1,y.2,s,o,fun u t A b K2 r R2=>c u t _ b (K1.trans K2) r (.cons (R1.stay K2.k.st) R2)⟩⟩
theorem CF:XO k τ j [] j3:=n8 iV fun d H Q b=>by
 obtain⟨F,a,e,f,g,i,o,h,S,q,c⟩:=b;cases q;exact c F H [] (aI.refl F H) .nil
theorem NX{K:PySem.W.Frag}{F b:J8->Prop}{H a:Hp}{p:J8}(T:bJ K F b H a){od:Option D}{v:V}(h:oC (K:=K) F H p od v):oC (K:=K) b a p od v:=by
 cases od with
 | none=>exact h
 | some d=>exact aS.stay T h
theorem CD(n:DE X e g)(l:XO k τ j es gs)(hs:Za (e::es) X.env=(false,Zr e X.env)::Za es X.env:=by rfl):XO k τ j (e::es) (j2 g gs):=n8 (gY n l hs) fun y H Q f=>by
 obtain⟨F,a,b,d,i,A,o,m,S,q,c⟩:=f;obtain⟨x,r,q⟩:=aE q;obtain⟨h,p,q⟩:=aE q;cases q
 exact⟨F,a,b,x,S.S,r,fun w B v E1 s=>⟨w,a,b,d,i,h,o,m,S.ext E1,p,fun u t z E2 R2=>c u t _ (E1.trans E2) (.cons (NX (od:=some x) E2.stay s) R2)⟩⟩
theorem CG(m:(i,j)∈τ)(r:XO k τ j es gs)(t:X.N[i]?=some x:=by rfl)(n:fY X.env.scope x:=by first | exact Zx rfl | exact Zl (Zx rfl) | exact Zl (Zl rfl))(s:(x == ("__debug__":Str))=false:=by decide)
  (b:(x == ("__classdict__":Str))=false:=by decide) (hs:Za (.Name x p::es) X.env=(false,Zr (.Name x p) X.env)::Za es X.env:=by rfl):XO k τ j (.Name x p::es) (j4 gs):=n8 (gY (fS t n s b) r hs) fun z H Q g=>by
 obtain⟨F,a,e,f,l,B,o,d,S,q,c⟩:=g;obtain⟨h,u,q⟩:=aE q;cases q
 exact⟨_,S.hd i j m o d,F,a,e,f,l,h,o,d,S,u,fun w v A y R2=>c w v _ y (.cons rfl R2)⟩
theorem CA(F:aM X.prog X.w X.K X.mg X.base aO kk f fd ps (cV k n G))(U:cA kk X.A)(hg:Gl X x)(Y:X.mg x=some (.ref f))(Z:PySem.W.keepIn X.K (.ref f)=true)(hb:Binds X.K fd ps [])
  (ha:XO k τ j (e::es) gs) (h:∀ ρ ds,gs ρ=some ds->ds.length=n) (l:(x == ("__debug__":Str))=false:=by decide) (he:Za (e::es) X.env=(false,Zr e X.env)::Za es X.env:=by rfl) (hpl:(Zw pos (Za es X.env)).any (·.1)=false:=by rfl):
  XE k τ (.Call (.Name x p) (e::es) [] pos) (j8 j G gs):=cR (tG (E:=E0) F U hg Y Z hb .nil k9 ha l he hpl) fun σ H Q M=>by
 obtain⟨F,a,ρ,J,R,d,I,S,q,c⟩:=M;obtain⟨g,y,q⟩:=aE q;obtain⟨b,u,q⟩:=aE q;obtain⟨r,e3,q⟩:=aE q;cases q;obtain⟨o,i,_⟩:=iG S.o.at_ u
 refine⟨F,a,ρ,J,R,g,o,i,S,y,fun F1 H1 N z R1=>?_⟩
 show cV k n G (N++[]) H1 Q E0
 rw [QP];have S1:=S.ext z;obtain⟨b1,t,m⟩:=qG S1.o.at_ i;rw [u]at t;cases t
 refine⟨F1,o.1,b,o.2,g,r.1,r.2,h ρ g y,S1.S.fz,m,R1,e3,fun F' H' v B T O s R'=>?_⟩
 obtain⟨S2,K2⟩:=S1.turn i T O s;exact c F' H' v _ ((bM.ext S.S.fz z).trans K2) S2 R'
theorem yG(mm:(i,j)∈τ)(c:fC X.K C)(hm:kJ X.K C m f)(hf:∀ os b r,G os b=some r->k.cl b=C/\(k.fn b).contains m=false)(F:aM X.prog X.w X.K X.mg X.base aO kk f fd ps (cV k (n+1) G))(hr:cA kk X.A)(hb:Binds X.K fd ps [])
  (ha:DA X (e::es) gs) (l:∀ ρ ds,gs ρ=some ds->ds.length=n) (hN:X.N[i]?=some x:=by rfl) (hv:fY X.env.scope x:=by first | exact Zx rfl | exact Zl (Zx rfl) | exact Zl (Zl rfl)) (hd:(x == ("__debug__":Str))=false:=by decide)
  (u:(x == ("__classdict__":Str))=false:=by decide) (h:Za (e::es) X.env=(false,Zr e X.env)::Za es X.env:=by rfl) (hpl:(Zw pos (Za es X.env)).any (·.1)=false:=by rfl)
  (ht:Zr (.Call (.Attribute (.Name x p) m apos) (e::es) [] pos) X.env=(do
   let ov <- Zr (.Name x p) X.env
   standAt apos.atName
   let(f,first) <- UE [ov] (U8 ov m pl)
   callWith pos f first (Zw pos (Za (e::es) X.env)) (Um pos (ZS [] X.env))):=by rfl):
  XE k τ (.Call (.Attribute (.Name x p) m apos) (e::es) [] pos) (cZ j G gs):=cR (Gn (E:=E0) (fS hN hv hd u) c hm F hr hb .nil k9 ha h hpl ht) fun σ H Q W=>by
 obtain⟨F,a,ρ,Ω,os,d,U,S,q,c⟩:=W;obtain⟨g,O,q⟩:=aE q;obtain⟨b,M,q⟩:=aE q;obtain⟨r,J,q⟩:=aE q;cases q;obtain⟨o,s,at0⟩:=iG S.o.at_ M;obtain⟨dx,fs,B,t⟩:=k.ins at0;obtain⟨ec,ef⟩:=hf _ _ _ J;rw [ec]at B
 refine⟨_,S.hd i j mm o s,o.1,dx,fs,rfl,B,xN (by rw [t];exact ef),F,a,ρ,g,S.S,O,fun F1 H1 Y R R1=>?_⟩
 show cV k (n+1) G (.ref o.1::(Y++[])) H1 Q E0
 rw [QP];have S1:=S.ext R;obtain⟨b1,I,y⟩:=qG S1.o.at_ s;rw [M]at I;cases I
 refine⟨F1,o.1,b,o.2,none::g.map some,r.1,r.2,by rw [Qv,Qi,l ρ g O],S1.S.fz,y,.cons rfl (A8 R1),J,fun F' H' v T kp Z z R'=>?_⟩
 obtain⟨S2,K2⟩:=S1.turn s kp Z z;exact c F' H' v _ ((bM.ext S.S.fz R).trans K2) S2 R'
theorem lZ(B:(i,j)∈τ)(c:fC X.K C)(R:kJ X.K C m f)(T:∀ os b r,G os b=some r->k.cl b=C/\(k.fn b).contains m=false)(F:aM X.prog X.w X.K X.mg X.base aO kk f fd ps (cV k 1 G))(O:cA kk X.A)(W:Binds X.K fd ps [])
  (Y:X.N[i]?=some x:=by rfl) (J:fY X.env.scope x:=by first | exact Zx rfl | exact Zl (Zx rfl) | exact Zl (Zl rfl)) (U:(x == ("__debug__":Str))=false:=by decide)
  (e:(x == ("__classdict__":Str))=false:=by decide)
  (M:Zr (.Call (.Attribute (.Name x p) m apos) [] [] pos) X.env=(do
   let ov <- Zr (.Name x p) X.env
   standAt apos.atName
   let(f,first) <- UE [ov] (U8 ov m pl)
   callWith pos f first (Zw pos (Za [] X.env)) (Um pos (ZS [] X.env))):=by rfl):
  XE k τ (.Call (.Attribute (.Name x p) m apos) [] [] pos) (cZ j G aG):=cR (Ry (E:=E0) (fS Y J U e) c R F O W .nil k9 M) fun σ H Q y=>by
 obtain⟨F,s,ρ,Ω,os,d,u,S,q,c⟩:=y;obtain⟨xs,e1,q⟩:=aE q;cases e1;obtain⟨b,e2,q⟩:=aE q;obtain⟨r,n,q⟩:=aE q;cases q;obtain⟨o,l,at0⟩:=iG S.o.at_ e2;obtain⟨dx,fs,h,a⟩:=k.ins at0;obtain⟨ec,Z⟩:=T _ _ _ n;rw [ec]at h
 refine⟨_,S.hd i j B o l,o.1,dx,fs,rfl,h,xN (by rw [a];exact Z),?_⟩
 show cV k 1 G [.ref o.1] H Q E0
 refine⟨F,o.1,b,o.2,[none],r.1,r.2,rfl,S.S.fz,at0,.cons rfl .nil,n,fun F' H' v t I z g R'=>?_⟩
 obtain⟨S2,K2⟩:=S.turn l I z g;exact c F' H' v _ K2 S2 R'
end
end OB
namespace OB
open PySem.Spec L2 DL
inductive oF(B:Type) where
 | nx (ρ:aA) (Ω:List B)
 | rt (d:D) (Ω:List B)
abbrev GS(B:Type):=aA->List B->Option (oF B)
section
variable {X:Cx}{B:Type}(k:dS X.K B)(τ:List (Nat × Nat))
def uC(a:List Oa)(b:J8->Prop)(H₀:Hp)(F:J8->Prop)(H:Hp)(W:jS):oF B->Prop
 | .nx ρ Ω=>∀ F' H' σ os',bM X.K a os' b F' H₀ H'->bJ X.K F F' H H'->SO k τ F' H' H₀ σ ρ Ω os'->W.nx σ H'
 | .rt d Ω=>∀ F' H' v os',bM X.K a os' b F' H₀ H'->Os k F' H' Ω os'->aS X.K F' H' d v->W.rt v H'
inductive yZ(g:GS B)(W:jS)(σ:L2.St)(H:Hp):Prop
 | mk (os₀:List Oa) (F₀:J8->Prop) (H₀:Hp) (F:J8->Prop) (ρ:aA) (Ω:List B) (os:List Oa) (o:oF B) (K0:bM X.K os₀ os F₀ F H₀ H) (S:SO k τ F H H₀ σ ρ Ω os) (q:g ρ Ω=some o) (c:uC k τ os₀ F₀ H₀ F H W o):yZ g W σ H
def XS(a:ZE)(g:GS B):Prop:=PS X a (yZ k τ g)
def jB(a:List ZE)(g:GS B):Prop:=fE X a (yZ k τ g)
variable {k τ}
theorem uC.from(T:bJ X.K F F' H H')(c:uC k τ os₀ F₀ H₀ F H W o):uC k τ os₀ F₀ H₀ F' H' W o:=by
 cases o with
 | nx ρ Ω=>exact fun i h b a g e f=>c i h b a g (T.trans e) f
 | rt d Ω=>exact c
end
section
variable {B:Type}
def fU:GS B:=fun a b=>some (.nx a b)
def bZ(g1 g2:GS B):GS B:=fun a b=>(g1 a b).bind fun o=>match o with
 | .nx ρ' Ω'=>g2 ρ' Ω'
 | o=>some o
def eG(i:Nat)(g:GX B D):GS B:=fun a b=>(g a b).bind fun x=>some (.nx (a.set i (.dat x.1)) x.2)
def uZ(i:Nat)(g:GX B (List D)):GS B:=fun a b=>(g a b).bind fun x=>if x.1.length<=1000 then some (.nx (a.set i (.own x.1)) x.2)else none
def pC(i:Nat)(g:GX B D):GS B:=fun a b=>match a[i]? with
 | some (.own ds)=>(g a b).bind fun x=>if ds.length<1000 then some (.nx (a.set i (.own (ds++[x.1]))) x.2)else none
 | _=>none
def sR(g:GX B D):GS B:=fun a b=>(g a b).bind fun x=>some (.nx a x.2)
def e7(g:GX B D):GS B:=fun a b=>(g a b).bind fun x=>some (.rt x.1 x.2)
def dC(t:GX B Bool)(g1 g2:GS B):GS B:=fun a b=>(t a b).bind fun x=>if x.1=true then g1 a x.2 else g2 a x.2
def Am(i:Nat)(g:GS B):GS B:=fun a b=>g (Fj i a) b
def l4(i:Nat)(g:GS B):List D->GS B
 | [],ρ,Ω=>some (.nx ρ Ω)
 | d::ds,ρ,Ω=>(g (ρ.set i (.dat d)) Ω).bind fun o=>match o with
  | .nx ρ' Ω'=>l4 i g ds ρ' Ω'
  | o=>some o
def nI(gi:aA->Option (List D))(i:Nat)(g:GS B):GS B:=fun a b=>(gi a).bind fun c=>l4 i g c a b
end
theorem Lm{K:PySem.W.Frag}{F:J8->Prop}{H H₀:Hp}{J:L2.St}{ρ:List Sl}(S:bF K F H H₀ J ρ){i:Nat}{ds:List D}(R:ρ[i]?=some (.own ds)):
  ∃ a,J[i]?=some (some (.ref a))/\H₀ a=none/\bF K (fun b=>F b ∨ b=a) H H₀ J (ρ.set i (.dat (.list ds))):=by
 obtain⟨a,vs,M,A,nf,h0,r⟩:=S.own R;have T:bJ K F (fun b=>F b ∨ b=a) H H:=⟨fun _ h=>.inl h,fun _ _ h=>h,fun _ _ _ h=>h,fun _ _ _ h=>h⟩;have O:i<ρ.length:=(Qc.mp R).1
 refine⟨a,M,h0,by simp [S.len],fun j s h=>?_,fun j k b y es Q I G h3=>?_,fun b f=>f.elim (S.fz b) fun z=>by subst z;rw [A];simp⟩
 ·by_cases t:i=j
  ·subst t;rw [Qw O]at h;cases h
   exact⟨_,M,.ref a,rfl,.lst (.inl ⟨.inr rfl,.inl A⟩) (r.stay T)⟩
  ·rw [Qq t]at h;obtain⟨o,q,w⟩:=S.sl j s h
   refine⟨o,q,?_⟩
   cases s with
   | no=>trivial
   | ownM N=>
    obtain⟨b,x,U,p,m⟩:=w
    refine⟨b,x,U,p,m.to T fun c φ X g=>⟨X,fun f=>?_⟩⟩
    rcases f with f | f
    ·exact g f
    ·subst f;rw [X]at A;cases A
   | ownD N=>
    obtain⟨b,x,U,p,E,g,u,n,l,B⟩:=w
    refine⟨b,x,U,p,E,fun f=>?_,u,n,l,B.stay T⟩
    rcases f with f | f
    ·exact g f
    ·subst f;rw [E]at A;cases A
   | dat d=>obtain⟨v,p,B⟩:=w;exact⟨v,p,B.stay T⟩
   | own y=>
    obtain⟨b,Y,p,E,g,u,B⟩:=w
    refine⟨b,Y,p,E,fun f=>?_,u,B.stay T⟩
    rcases f with f | f
    ·exact g f
    ·subst f;exact S.sep i j b ds y t R h M (by rw [q,p])
 ·have nj:i≠j:=by intro e;subst e;rw [Qw O]at I;cases I
  have Z:i≠k:=by intro e;subst e;rw [Qw O]at G;cases G
  rw [Qq nj]at I;rw [Qq Z]at G;exact S.sep j k b y es Q I G h3
theorem GL(hs:∀ ds,s≠.own ds)(d:∀ ds,s≠.ownD ds)(h:dM (σ.set i o) (ρ.set i s) a):dM σ ρ a:=by
 rcases h with⟨j,ds,b,c⟩ | ⟨j,ds,b,c⟩
 ·by_cases z:i=j
  ·subst z;rw [YN]at b;rw [if_pos rfl]at b
   split at b
   ·exact absurd (QB b) (hs ds)
   ·cases b
  ·rw [Qq z]at b c;exact .inl ⟨j,ds,b,c⟩
 ·by_cases z:i=j
  ·subst z;rw [YN]at b;rw [if_pos rfl]at b
   split at b
   ·exact absurd (QB b) (d ds)
   ·cases b
  ·rw [Qq z]at b c;exact .inr ⟨j,ds,b,c⟩
theorem tF{ρ:aA}{i:Nat}{s:Sl}(hs:∀ kvs,s≠.ownM kvs)(h:∀(i:Nat) (kvs:List (List Int × List D)),ρ[i]?≠some (.ownM kvs)):∀(j:Nat) (kvs:List (List Int × List D)),(ρ.set i s)[j]?≠some (.ownM kvs):=fun j kvs q=>by
 rw [YN]at q
 split at q
 ·split at q
  ·exact hs kvs (QB q)
  ·cases q
 ·exact h j kvs q
section
variable {K:PySem.W.Frag}{B:Type}{k:dS K B}{τ:List (Nat × Nat)}{F:J8->Prop}{H H₀:Hp}{σ:L2.St}{ρ:aA}{Ω:List B}{os:List Oa}
theorem SO.put(S:SO k τ F H H₀ σ ρ Ω os){i:Nat}{d:D}{v:V}(e:∀ ij,ij∈τ->ij.1≠i)(R:aS K F H d v):SO k τ F H H₀ (σ.set i (some v)) (ρ.set i (.dat d)) Ω os:=
 ⟨S.S.put R,S.o,fun a h=>S.sep a (GL (by intro _ z;cases z) (by intro _ z;cases z) h),tF (by intro _ z;cases z) S.nm,fun b j m o c=>by
  rw [Qq (Ua (e _ m))]
  exact S.hd b j m o c,S.lo⟩
theorem SO.putOwn(S:SO k τ F H H₀ σ ρ Ω os){i:Nat}{ds:List D}{vs:List V}{p:J8}(q:∀ ij,ij∈τ->ij.1≠i)(d:H p=none)(r:Reps K F H ds vs):SO k τ F (aJ H p (.lst vs)) H₀ (σ.set i (some (.ref p))) (ρ.set i (.own ds)) Ω os:=by
 have S1:=S.ext (aI.fresh (o:=.lst vs) d)
 refine⟨S.S.putOwn d (S.lo p d) r,S1.o,fun a h f=>?_,tF (by intro _ z;cases z) S.nm,fun l j m o n=>?_,S1.lo⟩
 ·rcases h with⟨j,e,b,c⟩ | ⟨j,e,b,c⟩
  ·by_cases z:i=j
   ·subst z
    have g:i<ρ.length:=by
     have:=(Qc.mp b).1
     rwa [List.length_set]at this
    rw [Qw (by rw [S.S.len];exact g)]at c;cases c
    exact(S.o.live f).1 d
   ·rw [Qq z]at b c;exact S.sep a (.inl ⟨j,e,b,c⟩) f
  ·by_cases z:i=j
   ·subst z;rw [YN,if_pos rfl]at b
    split at b <;> cases b
   ·rw [Qq z]at b c;exact S.sep a (.inr ⟨j,e,b,c⟩) f
 ·rw [Qq (Ua (q _ m))];exact S.hd l j m o n
theorem SO.app(S:SO k τ F H H₀ σ ρ Ω os){i:Nat}{ds es:List D}{vs us:List V}{p:J8}(g:ρ[i]?=some (.own ds))(hs:σ[i]?=some (some (.ref p)))(n:H p=some (.lst vs))(r:Reps K F H es us):
  SO k τ F (aJ H p (.lst us)) H₀ σ (ρ.set i (.own es)) Ω os/\bJ K F F H (aJ H p (.lst us)):=by
 have e:dM σ ρ p:=.inl ⟨i,ds,g,hs⟩;have m:=x4 S.S e;obtain⟨q,T⟩:=S.S.turn g hs n m.2.2 r;have l:∀ a,fG os a->a≠p:=fun a f z=>S.sep p e (z ▸ f)
 refine⟨⟨q,S.o.keep T (fun a u f h=>by rw [aX (l a f)];exact h) (fun a f=>(S.o.live f).2),fun a h=>?_,tF (by intro _ z;cases z) S.nm,S.hd,fun a h=>S.lo a ?_⟩,T⟩
 ·rcases h with⟨j,c,b,d⟩ | ⟨j,c,b,d⟩
  ·by_cases z:i=j
   ·subst z;rw [hs]at d;cases d;exact S.sep p e
   ·rw [Qq z]at b;exact S.sep a (.inl ⟨j,c,b,d⟩)
  ·by_cases z:i=j
   ·subst z;rw [YN,if_pos rfl]at b
    split at b <;> cases b
   ·rw [Qq z]at b;exact S.sep a (.inr ⟨j,c,b,d⟩)
 ·by_cases z:a=p
  ·subst z;rw [cO]at h;cases h
  ·rwa [aX z]at h
end
section
variable {X:Cx}{B:Type}{k:dS X.K B}{τ:List (Nat × Nat)}{a b c e iter:Expr}{es:List Expr}{st:ZE}{rest body orelse:List ZE}{g g1 g2:GS B}{ga:GX B D}{t:GX B Bool}{gr:GX B (List D)}{pos p:Pos}
theorem l0:jB k τ [] (fU (B:=B)):=tI Ik fun W e H f=>by
 obtain⟨a,d,b,F,i,j,g,o,h,S,q,c⟩:=f;cases q;exact c F H e g h (bJ.refl _ F H) S
theorem dI(p:XS k τ st g1)(n:jB k τ rest g2):jB k τ (st::rest) (bZ g1 g2):=tI (yA p n) fun W x H l=>by
 obtain⟨a,e,b,F,i,j,m,o,u,S,q,c⟩:=l;obtain⟨g,r,q⟩:=aE q
 refine⟨a,e,b,F,i,j,m,g,u,S,r,?_⟩
 cases g with
 | nx ρ' Ω'=>exact fun w y h f v s t=>⟨a,e,b,w,ρ',Ω',f,o,v,t,q,c.from s⟩
 | rt d Ω'=>cases q;exact c
theorem dJ(a:XS k τ st g):jB k τ [st] g:=wG a
theorem jQ(u:X.N.Nodup)(p:∀ ij,ij∈τ->ij.1≠i)(t:XE k τ e ga)(r:X.N[i]?=some x:=by rfl)(n:hE X.env.scope x:=by first | exact Zx rfl | exact Zl rfl)(hs:ZI e (some (.Name x pos')) pos.line X.env=pure false:=by rfl)(s:X.fn x=true ∨ X.env.scope.names.lookup x=some .local:=by first | exact .inl rfl | exact .inr rfl | assumption):
  XS k τ (.Assign [.Name x pos'] e pos) (eG i ga):=ps_mono (lA u r n t hs s) fun W B H l=>by
 obtain⟨b,g,a,F,h,j,m,o,K0,S,q,c⟩:=l;obtain⟨d,w,q⟩:=aE q;cases q
 exact⟨F,a,h,j,m,d.1,d.2,S,w,fun A z v f K' S' y=>c A z _ f (K0.trans K') K'.k.st (S'.put p y)⟩
theorem V5(w:X.N.Nodup)(s:∀ ij,ij∈τ->ij.1≠i)(v:XA k τ es gr)(t:X.N[i]?=some x:=by rfl)(r:hE X.env.scope x:=by first | exact Zx rfl | exact Zl rfl)(hs:ZI (.List es pos'') (some (.Name x pos')) pos.line X.env=pure false:=by rfl)(u:X.fn x=true ∨ X.env.scope.names.lookup x=some .local:=by first | exact .inl rfl | exact .inr rfl | assumption):
  XS k τ (.Assign [.Name x pos'] (.List es pos'') pos) (uZ i gr):=ps_mono (lA w t r (BJ v) hs u) fun W A H n=>by
 obtain⟨d,j,b,F,l,m,os,o,K0,S,q,c⟩:=n;obtain⟨f,y,q⟩:=aE q;by_cases e:f.1.length<=1000
 ·rw [if_pos e]at q;cases q
  refine⟨F,b,l,m,os,f.1,f.2,S,y,fun g z p a K' S' R'=>⟨gJ (by rw [<- R'.length];exact e),fun B h=>?_⟩⟩
  have K2:bM X.K a a g g z _:=bM.ext (os:=a) S'.S.fz (aI.fresh (o:=.lst p) h);exact c g _ _ a (K0.trans (K'.trans K2)) (K'.k.st.trans K2.k.st) (S'.putOwn s h R')
 ·rw [if_neg e]at q;cases q
theorem IG(n:XE k τ e ga)(hs:ZI e none pos.line X.env=pure false:=by rfl):XS k τ (.Expr e pos) (sR ga):=ps_mono (qK n hs) fun W h H l=>by
 obtain⟨b,g,a,F,i,j,m,o,K0,S,q,c⟩:=l;obtain⟨d,p,q⟩:=aE q;cases q
 exact⟨F,a,i,j,m,d.1,d.2,S,p,fun t s v f K' r u=>c t s h f (K0.trans K') K'.k.st r⟩
theorem g8(m:XE k τ e ga):XS k τ (.Return (some e) pos) (e7 ga):=ps_mono (BP m) fun W u H j=>by
 obtain⟨b,g,a,F,h,i,l,o,K0,S,q,c⟩:=j;obtain⟨d,n,q⟩:=aE q;cases q
 exact⟨F,a,h,i,l,d.1,d.2,S,n,fun t s v f r S' p=>c t s v f (K0.trans r) S'.o p⟩
theorem lG(n:XT k τ c t)(s:jB k τ body g1)(p:jB k τ orelse g2):XS k τ (.If c body orelse pos) (dC t g1 g2):=ps_mono (Ij n s p) fun W v H l=>by
 obtain⟨a,d,b,F,g,j,m,o,K0,S,q,c⟩:=l;obtain⟨r,u,q⟩:=aE q;obtain⟨r,e⟩:=r
 refine⟨F,b,g,j,m,r,e,S,u,fun i w f K' h=>?_⟩
 cases r with
 | true=>simp only [if_true]at q ⊢;exact⟨a,d,b,i,g,e,f,o,K0.trans K',h,q,c.from K'.k.st⟩
 | false=>simp only [Qg,if_false]at q ⊢;exact⟨a,d,b,i,g,e,f,o,K0.trans K',h,q,c.from K'.k.st⟩
theorem V1(ha:XE k τ e ga)(hN:X.N[i]?=some x:=by rfl)(hv:fY X.env.scope x:=by first | exact Zx rfl | exact Zl (Zx rfl) | exact Zl (Zl rfl))(hd:(x == ("__debug__":Str))=false:=by decide)
  (B:(x == ("__classdict__":Str))=false:=by decide) (m:Za [e] X.env=(false,Zr e X.env)::Za [] X.env:=by rfl)
  (g:ZM (.Name x p) "append" X.env (Zr (.Name x p) X.env)=Zr (.Name x p) X.env:=by rfl)
  (r:((Zw pos' (Za [e] X.env)).all (fun x => !x.1) && (Um pos' (ZS [] X.env)).all (fun x=>x.1.isSome)
   && decide ([e].length+([]:List Uw).length+(if([]:List Uw).isEmpty then 0 else 1)<30))=true:=by rfl)
  (f:(apos.endLine == pos'.line)=true:=by rfl) (b:(Zw pos' (Za [] X.env)).any (·.1)=false:=by rfl) (A:ZI (.Call (.Attribute (.Name x p) "append" apos) [e] [] pos') none pos.line X.env=pure false:=by rfl):
  XS k τ (.Expr (.Call (.Attribute (.Name x p) "append" apos) [e] [] pos') pos) (pC i ga):=
 ps_mono (qK (BG PySem.F.plainAttrs_list PySem.F.slot_list_append PySem.F.type_list_append Ck (fS hN hv hd B) (gY ha iV m) g r f m b) A) fun W M H R=>by
 obtain⟨w,K,s,F,O,Q,Z,o,K0,S,q,c⟩:=R;unfold pC at q
 split at q
 ·rename_i ds E;obtain⟨d,e1,q⟩:=aE q;by_cases G:ds.length<1000
  ·rw [if_pos G]at q;cases q;obtain⟨l,vs,t,Y,q3,U,q5⟩:=S.S.own E
   refine⟨_,t,.inl ⟨rfl,_,bV.of Y⟩,F,s,O,Q,Z,d.1,d.2,S,e1,fun F' J v y K' S' R'=>?_⟩
   obtain⟨l',j,g1,g2,g3,g4,I⟩:=S'.S.own E;rw [t]at g1;cases g1
   refine⟨l,j,v,rfl,rfl,g2,tT (by rw [<- I.length];lia),?_⟩
   obtain⟨S2,T⟩:=S'.app E t g2 (I.append (.cons R' .nil));have K1:=K0.trans K';have nz:∀ a,a≠l->aJ J l (.lst (j++[v])) a=J a:=fun a h=>aX h;refine c F' _ M y ⟨⟨K1.k.st.trans T,fun a u h n=>?_,K1.k.new,S2.S.fz,fun a h=>?_⟩,K1.ft,K1.ad⟩ (K'.k.st.trans T) S2
   ·have:a≠l:=fun z=>by rw [z,U]at h;cases h
    rw [aX this];exact K1.k.out a u h n
   ·by_cases z:a=l
    ·subst z;rw [cO]at h;cases h
    ·rw [aX z]at h;exact K1.k.lv a h
  ·rw [if_neg G]at q;cases q
 ·cases q
theorem V8(i:Nat)(h:jB k τ rest g):jB k τ rest (Am i g):=tI h fun W I H v=>by
 obtain⟨e,m,l,F,u,s,r,o,K0,S,q,c⟩:=v;unfold Am Fj at q
 split at q
 ·rename_i G t;obtain⟨a,w,B,S'⟩:=Lm S.S t;have E:∀ x,(F x ∨ x=a)->H x≠none:=S'.fz;have y:¬ fG r a:=S.sep a (.inl ⟨i,G,t,w⟩);have T:bJ X.K F (fun b=>F b ∨ b=a) H H:=⟨fun _ f=>.inl f,fun _ _ f=>f,fun _ _ _ f=>f,fun _ _ _ f=>f⟩
  refine⟨e,m,l,_,_,s,r,o,⟨⟨K0.k.st.trans T,K0.k.out,fun x f=>f.elim (K0.k.new x) fun z=>.inr (z ▸ B),E,K0.k.lv⟩,K0.ft,K0.ad⟩,⟨S',S.o.keep T (fun _ _ _ h=>h) (fun x f z=>z.elim (S.o.live f).2 fun z=>y (z ▸ f)),fun x A=>S.sep x ?_,tF (by intro _ z;cases z) S.nm,S.hd,S.lo⟩,q,c.from T⟩
  rcases A with⟨j,p,d,n⟩ | ⟨j,p,d,n⟩
  ·by_cases z:i=j
   ·subst z;rw [YN,if_pos rfl]at d
    split at d <;> cases d
   ·rw [Qq z]at d;exact .inl ⟨j,p,d,n⟩
  ·by_cases z:i=j
   ·subst z;rw [YN,if_pos rfl]at d
    split at d <;> cases d
   ·rw [Qq z]at d;exact .inr ⟨j,p,d,n⟩
 ·exact⟨e,m,l,F,u,s,r,o,K0,S,q,c⟩
end
end OB
namespace OB
open PySem.Spec L2 DL
structure FX{K:PySem.W.Frag}{B:Type}(k:dS K B)(τ:List (Nat × Nat))(i:Nat)(g:GS B)(xs:List D)(o:oF B)(os₀:List Oa)(F₀ F F1:J8->Prop)(H₀ H H1:Hp)(n:Nat)(σ2:L2.St)(H2:Hp)(F2:J8->Prop)(ρ2:aA)(Ω2:List B)(os2:List Oa):Prop where
 K0:bM K os₀ os2 F₀ F2 H₀ H2
 T0:bJ K F F2 H H2
 T1:bJ K F1 F2 H1 H2
 S:SO k τ F2 H2 H₀ σ2 ρ2 Ω2 os2
 q:l4 i g (xs.drop n) ρ2 Ω2=some o
section
variable {X:Cx}{B:Type}{k:dS X.K B}{τ:List (Nat × Nat)}{iter e:Expr}{es:List Expr}{body:List ZE}{g:GS B}{pos p tp pos':Pos}
theorem yH(hp:PassesOwn (Zc X.prog X.w) X.A X.env X.xe)(hc:X.calm=true)(hN:X.N.Nodup)(ht:∀ ij,ij∈τ->ij.1≠i)(hi:DI X (.Name x tp) iter gi)(hb:jB k τ body g)
  (O:X.N[i]?=some x:=by rfl) (hx:hE X.env.scope x:=by first | exact Zx rfl | exact Zl rfl) (hf:X.fn x=true ∨ X.env.scope.names.lookup x=some .local:=by first | exact .inl rfl | exact .inr rfl | assumption)
  (hs:∀ x,ZX iter X.env x=pure x:=by intro _;rfl):XS k τ (.For (.Name x tp) iter body [] pos) (nI gi i g):=
 ps_mono (Ii hp hc hi (BK hN O hx hf) hb hs) fun W σ H zz=>by
  obtain⟨a,f,b,F,R,Ω,os,o,K0,S,q,c⟩:=zz;obtain⟨e,e1,q⟩:=aE q
  refine⟨F,b,R,e,S.S,e1,fun Q Z J E1 I1=>?_⟩
  refine⟨fun n m p B=>m=e.length-n/\n<=e.length/\∃ E r s j,FX k τ i g e o a f F Q b H Z n p B E r s j,
   ⟨e.length,rfl,Q8 _,Q,R,Ω,os,K0.trans (bM.ext S.S.fz E1),E1.stay,bJ.refl _ _ _,S.ext E1,q⟩,?_⟩
  rintro n m p B ⟨rfl,a2,E,r,s,j,K2,T0,T1,S2,t⟩;obtain⟨M,K⟩:=I1 E B T1 S2.S.fz n;by_cases l:n<e.length
  ·right
   have v:e[n]?=some e[n]:=by simp [l]
   obtain⟨go,G⟩:=M _ v;rw [Yl l]at t;obtain⟨T,e4,t⟩:=aE t
   refine⟨go,fun u Y=>∃ F4 ρ4 Ω4 os4,FX k τ i g e o a f F Q b H Z (n+1) u Y F4 ρ4 Ω4 os4,fun u Y h=>⟨e.length-(n+1),by lia,rfl,l,h⟩,fun x H3 y=>?_⟩
   obtain⟨F3,E3,R3⟩:=G x H3 y;have TT0:=T0.trans E3.stay;have TT1:=T1.trans E3.stay
   refine⟨a,f,b,F3,r.set i (.dat e[n]),s,j,T,K2.trans (bM.ext S2.S.fz E3),(S2.ext E3).put ht R3,e4,?_⟩
   cases T with
   | nx ρ6 Ω6=>exact fun F6 H6 a0 I K6 U S6=>⟨F6,ρ6,Ω6,I,K6,TT0.trans U,TT1.trans U,S6,t⟩
   | rt d Ω6=>cases t;exact c
  ·left
   have z:e.length<=n:=YY l
   refine⟨K z,?_⟩
   rw [Y4 z]at t;cases t;exact c E B p j K2 T0 S2
end
theorem Mu{K:PySem.W.Frag}{F:J8->Prop}{H H₀:Hp}{g:L2.St}{ρ:List Sl}(S:bF K F H H₀ g ρ){i:Nat}{o:Option V}:bF K F H H₀ (g.set i o) (ρ.set i .no):=by
 refine⟨by simp [S.len],fun j s h=>?_,fun j k a u t f d c m=>?_,S.fz⟩
 ·by_cases b:i=j
  ·subst b
   have l:i<ρ.length:=by
    have:=Qc.mp h
    simpa using this.1
   rw [Qw l]at h;cases h
   exact⟨o,by rw [Qw (by rw [S.len];exact l)],trivial⟩
  ·rw [Qq b]at h;obtain⟨n,q,w⟩:=S.sl j s h
   exact⟨n,by rw [Qq b];exact q,w⟩
 ·have r:i≠j:=by
   intro e;subst e;rw [YN,if_pos rfl]at d
   split at d <;> cases d
  have p:i≠k:=by
   intro e;subst e;rw [YN,if_pos rfl]at c
   split at c <;> cases c
  rw [Qq r]at d m;rw [Qq p]at c ⊢;exact S.sep j k a u t f d c m
theorem qH{b a:Type}{R:b->a->Prop}:∀{l:List b}{m:List a},Paired R l m->l.length=m.length
 | _,_,.nil=>rfl
 | _,_,.cons _ t=>by rw [Qv,Qv,qH t]
section
variable {K:PySem.W.Frag}{B:Type}{k:dS K B}{τ:List (Nat × Nat)}{F F':J8->Prop}{H H' H₀:Hp}{σ:L2.St}{ρ:aA}{Ω:List B}{os:List Oa}
theorem SO.more(S:SO k τ F H H₀ σ ρ Ω os){i:Nat}{x:J8}{b:B}{φ:J8->Prop}(r:∀ ij,ij∈τ->(ij.1=i ↔ ij.2=Ω.length))(E:i<ρ.length)(q:c5 K (fun _=>False) F F' H H')(p:k.At F' H' x b φ)(fr:∀ a,φ a->H a=none):
  SO k τ F' H' H₀ (σ.set i (some (.ref x))) (ρ.set i .no) (Ω++[b]) (os++[(x,φ)])/\bM K os (os++[(x,φ)]) F F' H H':=by
 have A:=qH S.o.at_
 have s:∀ a,fG (os++[(x,φ)]) a->fG os a ∨ H a=none:=fun a t=>by
  obtain⟨o,m,h⟩:=t;rcases QC.mp m with m | m
  ·exact .inl ⟨o,m,h⟩
  ·rw [QF.mp m]at h;exact .inr (fr a h)
 have J:bF K F' H' H₀ σ ρ:=bF.keep S.S (fun a _ f=>f) S.nm q
 have y:Os k F' H' Ω os:=S.o.keep q.st (fun a u _ h=>q.out a u h id) (fun a f I=>by
  rcases q.new a I with z | z
  ·exact(S.o.live f).2 z
  ·exact(S.o.live f).1 z)
 have e:∀(j:Nat) (u:Oa),(os++[(x,φ)])[j]?=some u->os[j]?=some u ∨ j=os.length/\u=(x,φ):=fun j u h=>by
  by_cases z:j<os.length
  ·rw [QR z]at h;exact .inl h
  ·rw [QI (YY z)]at h
   have:j-os.length=0:=by
    cases w:j-os.length with
    | zero=>rfl
    | succ n=>rw [w]at h;simp at h
   rw [this]at h;exact .inr ⟨by lia,(QB h).symm⟩
 refine⟨⟨Mu J,⟨y.at_.snoc p,fun i' j u v n c d a l g=>?_⟩,fun a h f=>?_,tF (by intro _ z;cases z) S.nm,fun i' j m u c=>?_,fun a h=>S.lo a (q.lv a h)⟩,⟨q.st,fun a u h n=>q.out a u h id,q.new,q.fz,q.lv⟩,s,fun j u h=>⟨u.2,by rw [QR (Qc.mp h).1];exact h⟩⟩
 ·rcases e i' u c with c | ⟨c,rfl⟩
  ·rcases e j v d with d | ⟨d,rfl⟩
   ·exact S.o.dj i' j u v n c d a l g
   ·exact(S.o.live (jK c l)).1 (fr a g)
  ·rcases e j v d with d | ⟨d,rfl⟩
   ·exact(S.o.live (jK d g)).1 (fr a l)
   ·lia
 ·have h:=GL (by intro _ z;cases z) (by intro _ z;cases z) h;rcases s a f with f | f
  ·exact S.sep a h f
  ·exact(x4 S.S h).1 f
 ·rcases e j u c with c | ⟨G,rfl⟩
  ·have:i≠i':=fun z=>by
    have:=((r _ m).mp z.symm)
    have:=(Qc.mp c).1
    lia
   rw [Qq this];exact S.hd i' j m u c
  ·have z:i'=i:=(r _ m).mpr (by rw [A];exact G);rw [z,Qw (by rw [S.S.len];exact E)]
end
section
variable {B:Type}
def An(i n:Nat)(G:List D->Option B)(gr:aA->Option (List D)):GS B:=fun a c=>(gr a).bind fun d=>(G d).bind fun b=>if c.length=n/\i<a.length then some (.nx (a.set i .no) (c++[b]))else none
end
def uU{K:PySem.W.Frag}{B:Type}(k:dS K B)(C:J8)(n:Nat)(G:List D->Option B):Sp:=fun c H Q _=>∃(F:J8->Prop) (x dx:J8) (us:List V) (ds:List D) (b:B),c=.ref x::us/\ds.length=n/\(∀ a,F a->H a≠none)/\H x=some (.ins C dx [])/\¬ F x/\Reps K F H ds us/\G ds=some b /\
 ∀ F' H' φ',c5 K (fun a=>a=x) F F' H H'->(∀ a,φ' a->a=x ∨ H a=none)->k.At F' H' x b φ'->Q .non H'
section
variable {X:Cx}{B:Type}{k:dS X.K B}{τ:List (Nat × Nat)}{e:Expr}{es:List Expr}{pos p tp pos':Pos}
theorem V3(hN:X.N.Nodup)(ht:∀ ij,ij∈τ->(ij.1=i ↔ ij.2=n))(M:Mk X.K C f)(F:aM X.prog X.w X.K X.mg X.base aO kk f fd ps (uU k C m G))(hr:cA (kk+1) X.A)(hg:Gl X y)(hm:X.mg y=some (.ref C))(hb:Binds X.K fd ps [])
  (ha:DA X (e::es) gr) (I:∀ ρ ds,gr ρ=some ds->ds.length=m) (O:(y == ("__debug__":Str))=false:=by decide) (he:Za (e::es) X.env=(false,Zr e X.env)::Za es X.env:=by rfl) (hpl:(Zw pos' (Za es X.env)).any (·.1)=false:=by rfl)
  (hi:X.N[i]?=some x:=by rfl) (hx:hE X.env.scope x:=by first | exact Zx rfl | exact Zl rfl) (hs:ZI (.Call (.Name y p) (e::es) [] pos') (some (.Name x tp)) pos.line X.env=pure false:=by rfl) (hf:X.fn x=true ∨ X.env.scope.names.lookup x=some .local:=by first | exact .inl rfl | exact .inr rfl | assumption):
  XS k τ (.Assign [.Name x tp] (.Call (.Name y p) (e::es) [] pos') pos) (An i n G gr):=
 ps_mono (lA hN hi hx (Rx (E:=E0) M F hr hg hm hb .nil k9 ha O he hpl) hs hf) fun W σ H zz=>by
  obtain⟨v,U,r,F,ρ,Ω,os,o,K0,S,q,c⟩:=zz;obtain⟨ds,T,q⟩:=aE q;obtain⟨b,e2,q⟩:=aE q;by_cases t:Ω.length=n/\i<ρ.length
  ·rw [if_pos t]at q;cases q
   refine⟨F,r,ρ,ds,S.S,T,fun j g R E1 R1=>fun z d s J ne=>?_⟩
   show uU k C m G (.ref z::(R++[])) _ _ E0
   rw [QP];have S1:=S.ext E1;have Ea:aI j j g (aJ g d (.own z)):=aI.fresh J
   have B:aJ g d (.own z) z=none:=by rw [aX ne.symm];exact s
   have Eb:aI j j (aJ g d (.own z)) (aJ (aJ g d (.own z)) z (.ins C d [])):=aI.fresh B;have Ec:=Ea.trans Eb
   refine⟨j,z,d,R,ds,b,rfl,I ρ ds T,Ec.fz S1.S.fz,cO,fun f=>S1.S.fz z f s,R1.stay Ec.stay,e2,fun Y H' Z l fr Q=>⟨rfl,?_⟩⟩
   have q1:c5 X.K (fun _=>False) j Y g H':=⟨Ec.stay.trans l.st,fun a u h _=>l.out a u (Ec.same a u h) (fun w=>by rw [w,s]at h;cases h),fun a f=>(l.new a f).imp_right fun w=>Ec.same.free w,l.fz,fun a h=>Ec.same.free (l.lv a h)⟩
   obtain⟨S2,K2⟩:=S1.more (i:=i) (by rw [t.1];exact ht) t.2 q1 Q fun a h=>by
    rcases fr a h with w | w
    ·rw [w];exact s
    ·exact Ec.same.free w
   exact c Y H' _ _ (K0.trans ((bM.ext S.S.fz E1).trans K2)) (E1.stay.trans K2.k.st) S2
  ·rw [if_neg t]at q;cases q
end
def MJ:Option D->Sl
 | some d=>.dat d
 | none=>.no
def gM(n:Nat)(ds:List (Option D)):aA:=ds.map MJ++List.replicate (n-ds.length) .no
def gD{B:Type}(j n:Nat)(g:GS B):GM B:=fun a b=>match a[j]? with
 | some none=>match g (gM n a) [b]with
  | some (.rt d (b'::_))=>some (d,b')
  | some (.nx _ (b'::_))=>some (.none,b')
  | _=>none
 | _=>none
def uH{B:Type}(n:Nat)(g:GS B):List D->Option D:=fun a=>match g (cY n a) []with
 | some (.rt d _)=>some d
 | some (.nx _ _)=>some .none
 | _=>none
theorem Cr{n:Nat}{ds:List (Option D)}{i:Nat}{s:Sl}(h:(gM n ds)[i]?=some s):(∃ d,s=.dat d) ∨ s=.no:=by
 unfold gM at h;have m:=QN h;rcases QC.mp m with m | m
 ·obtain⟨a,_,rfl⟩:=QM.mp m
  cases a with
  | none=>exact .inr rfl
  | some d=>exact .inl ⟨d,rfl⟩
 ·exact .inr (List.eq_of_mem_replicate m)
theorem Wj{K:PySem.W.Frag}{F:J8->Prop}{H:Hp}{p:J8}{N:List Str}{ds:List (Option D)}{vs:List V}(z:∀ a,F a->H a≠none)(r:Paired (oC (K:=K) F H p) ds vs):bF K F H H (L2.start N vs) (gM N.length ds):=by
 have k:=qH r
 refine⟨by simp [L2.start,gM,k],fun i s h=>?_,fun i j a t n l m=>?_,z⟩
 ·unfold gM at h;by_cases c:i<ds.length
  ·rw [QR (by simpa using c),QE]at h
   cases e:ds[i]? with
   | none=>rw [e]at h;cases h
   | some g=>
    rw [e]at h;cases h;obtain⟨v,o,f⟩:=iG r e
    refine⟨some v,?_,?_⟩
    ·unfold L2.start;rw [QR (by simpa using(by lia:i<vs.length)),QE,o];rfl
    ·cases g with
     | none=>trivial
     | some d=>exact⟨v,rfl,f⟩
  ·rw [QI (by simpa using c),YX]at h
   split at h
   ·rename_i b;cases h
    refine⟨none,?_,trivial⟩
    unfold L2.start;rw [QI (by simpa using(by lia:vs.length<=i)),YX,if_pos (by simp at b ⊢;lia)]
   ·cases h
 ·rcases Cr m with⟨d,q⟩ | q <;> cases q
section
variable {P:Zd}{w:Zf}{K:PySem.W.Frag}{mg:Str->Option YP}{base:Heap}{x qual:Str}{st:ZE}{f:J8}{fd:Zp}{N ps:List Str}{kk:Nat}{B:Type}{k:dS K B}{g:GS B}
theorem kN{j n m:Nat}{G:GM B}(hG:G=gD j m g)(hn:ps.length=n)(hm:N.length=m)(F:eP K x qual st f fd)(S:bQ N ps (aV st))
  (hb:∀(cdv:YP) (A:Around) (outer:List Env) (s:J9) (H:Hp) (E:XK),cA kk (A.deeper (U2 qual (aV st) s.heap.objs.size f cdv))->
   jB (X:=(jV aO P w K mg base N qual (aV st) f cdv A outer s H E).nox) k [(j,0)] (c8 st) g):aM P w K mg base aO (kk+1) f fd ps (cV k n G):=by
 subst hG hn hm;refine F.ok S (fun R H Q E h=>?_) (fun cdv A outer s H R Q E hr h=>?_)
 ·obtain⟨F,p,b,y,ds,r,b',hl,_,_,J,_⟩:=h;rw [<- qH J,hl]
 ·obtain⟨F,p,b,y,ds,r,b',hl,z,at0,J,q,c⟩:=h
  refine⟨_,hb cdv A outer s H E hr,?_⟩
  unfold gD at q
  split at q
  ·rename_i ej;obtain⟨v,ev,T⟩:=iG J ej;have jl:j<R.length:=(Qc.mp ev).1;have T:v=.ref p:=T
   have SS:SO k [(j,0)] F H H (L2.start N R) (gM N.length ds) [b] [(p,y)]:=by
    refine⟨Wj z J,⟨.cons at0 .nil,fun i i' o u n h1 h2=>?_⟩,fun a h=>?_,fun i a4 I=>?_,fun i i' m o ho=>?_,fun _ h=>h⟩
    ·have a1:i<1:=(Qc.mp h1).1;have a2:i'<1:=(Qc.mp h2).1;lia
    ·rcases h with⟨i,W,I,_⟩ | ⟨i,W,I,_⟩ <;> rcases Cr I with⟨d,q⟩ | q <;> cases q
    ·rcases Cr I with⟨d,q⟩ | q <;> cases q
    ·rw [QF]at m;cases m;cases ho;unfold L2.start;rw [QR (by simpa using jl),QE,ev,T];rfl
   have fin:∀{t:J8->Prop}{H':Hp}{l:List Oa}{Ω':List B}{v:V},bM K [(p,y)] l F t H H'->Os k t H' (b'::Ω') l->aS K t H' r v->Q v H':=fun{t H' l Ω' v} K' U Z=>by
    obtain⟨M,h0⟩:=K'.ad 0 (p,y) rfl;obtain⟨b1,e1,Y⟩:=qG U.at_ h0;cases e1;refine c t H' v M ⟨K'.k.st,fun a u h n=>K'.k.out a u h fun⟨o,m,h'⟩=>n ?_,K'.k.new,K'.k.fz,K'.k.lv⟩ (fun a h=>(K'.ft a (jK h0 h)).imp_left fun⟨o,m,h'⟩=>?_) Y Z
    ·rw [QF.mp m]at h';exact h'
    ·rw [QF.mp m]at h';exact h'
   split at q
   ·rename_i d b1 O e;cases q
    exact⟨[(p,y)],F,H,F,_,_,_,_,bM.refl z,SS,e,fun t H' v l K' U Z=>fin K' U Z⟩
   ·rename_i a3 b1 O e;cases q
    exact⟨[(p,y)],F,H,F,_,_,_,_,bM.refl z,SS,e,fun t H' a0 l K' T' S'=>fin K' S'.o .non⟩
   ·cases q
  ·cases q
theorem Lk(hG:G=uH m g)(Z:ps.length=n)(hm:N.length=m)(F:eP K x qual st f fd)(S:bQ N ps (aV st))
  (hb:∀(cdv:YP) (A:Around) (outer:List Env) (s:J9) (H:Hp) (E:XK),cA kk (A.deeper (U2 qual (aV st) s.heap.objs.size f cdv))->
   jB (X:=(jV aO P w K mg base N qual (aV st) f cdv A outer s H E).nox) k τ (c8 st) g):aM P w K mg base aO (kk+1) f fd ps (aY K n G):=by
 subst hG Z hm;refine F.ok S (fun I H Q E h=>?_) (fun cdv A outer s H I Q E W h=>?_)
 ·obtain⟨F,y,d,J,_,r,_⟩:=h;rw [<- r.length,J]
 ·obtain⟨F,y,d,J,z,r,q,c⟩:=h
  refine⟨_,hb cdv A outer s H E W,?_⟩
  have no:∀(i:Nat) (s:Sl),(cY N.length y)[i]?=some s->(∃ d,s=.dat d) ∨ s=.no:=fun i s h=>by
   have m:=QN h;rcases QC.mp m with m | m
   ·obtain⟨d,_,rfl⟩:=QM.mp m;exact .inl ⟨d,rfl⟩
   ·exact .inr (List.eq_of_mem_replicate m)
  have M:SO k τ F H H (L2.start N I) (cY N.length y) [] []:=by
   refine⟨xE z r,⟨.nil,fun i U o u n h1 h2=>?_⟩,fun a h=>?_,fun i T l=>?_,fun i U m o Y=>?_,fun _ h=>h⟩
   ·simp at h1
   ·rcases h with⟨i,t,l,_⟩ | ⟨i,t,l,_⟩ <;> rcases no i _ l with⟨d,q⟩ | q <;> cases q
   ·rcases no i _ l with⟨d,q⟩ | q <;> cases q
   ·simp at Y
  have fin:∀{j:J8->Prop}{H':Hp}{b:List Oa}{v:V},bM K [] b F j H H'->aS K j H' d v->Q v H':=fun{j H' b v} K' B=>
   c j H' v ⟨fun a u h=>K'.k.out a u h (fun⟨o,m,_⟩=>by cases m),K'.k.st.up,fun a f=>(K'.k.new a f).imp_right fun h=>⟨h,K'.k.fz a f⟩⟩ B
  unfold uH at q
  split at q
  ·rename_i d' p e;cases q
   exact⟨[],F,H,F,_,_,_,_,bM.refl z,M,e,fun j H' v b K' o' B=>fin K' B⟩
  ·rename_i R p e;cases q
   exact⟨[],F,H,F,_,_,_,_,bM.refl z,M,e,fun j H' O b K' T' S'=>fin K' .non⟩
  ·cases q
end
end OB
namespace OB
open PySem.Spec L2 DL
section
variable {X:Cx}{tg:Expr}
end
end OB
namespace OB
open PySem.Spec L2 DL
theorem qA{K:PySem.W.Frag}{φ F:J8->Prop}{H:Hp}{p:J8}{b o:HO}(z:∀ a,F a->H a≠none)(d:H p=some b)(i:∀ xs,b≠.tup xs)(g:∀ ob xs,b≠.frz ob (.tup xs))(e:¬ F p)(m:φ p):c5 K φ F F H (aJ H p o):=by
 have c:∀ a,F a->a≠p:=fun a f h=>e (h ▸ f)
 refine⟨⟨fun _ h=>h,fun a xs h=>?_,fun a xs f h=>?_,fun a φ f h=>by rw [aX (c a f)];exact h⟩,fun a u h n=>by rw [aX (fun w=>n (by rw [w];exact m))];exact h,fun _ h=>.inl h,fun a f=>by rw [aX (c a f)];exact z a f,fun a h=>?_⟩
 ·rcases h with(h | ⟨ob,h⟩) | h
  ·exact .inl (.inl (by rw [aX (by intro w;subst w;rw [d]at h;exact i xs (QB h))];exact h))
  ·exact .inl (.inr ⟨ob,by rw [aX (by intro w;subst w;rw [d]at h;exact g ob xs (QB h))];exact h⟩)
  ·exact .inr h
 ·rcases h with h | ⟨ob,h⟩
  ·exact .inl (by rw [aX (c a f)];exact h)
  ·exact .inr ⟨ob,by rw [aX (c a f)];exact h⟩
 ·by_cases w:a=p
  ·subst w;rw [cO]at h;cases h
  ·rwa [aX w]at h
theorem kG:(∀ ys,HO.ins C dx fs≠.tup ys)/\∀ ob ys,HO.ins C dx fs≠.frz ob (.tup ys):=⟨(by intro _ h;cases h),(by intro _ _ h;cases h)⟩
theorem GB:(∀ ys,HO.ext φ≠.tup ys)/\∀ ob ys,HO.ext φ≠.frz ob (.tup ys):=⟨(by intro _ h;cases h),(by intro _ _ h;cases h)⟩
section
variable {B:Type}
def fT(j:Nat)(get:B->Option D):GX B D:=fun _ a=>(a[j]?).bind fun b=>(get b).bind fun d=>some (d,a)
def iY(G:List D->Option D)(gr:GX B (List D)):GX B D:=fun a b=>(gr a b).bind fun x=>(G x.1).bind fun d=>some (d,x.2)
def tX(j:Nat)(G:GM B)(gr:GX B (List D)):GX B D:=fun c a=>(a[j]?).bind fun _=>(gr c a).bind fun x=>(x.2[j]?).bind fun b=>(G (none::x.1.map some) b).bind fun r=>some (r.1,x.2.set j r.2)
def pT(j:Nat)(d:B->D->Option B)(ga:GX B D):GS B:=fun a c=>(ga a c).bind fun x=>(x.2[j]?).bind fun b=>(d b x.1).bind fun e=>some (.nx a (x.2.set j e))
end
def A0{K:PySem.W.Frag}{B:Type}(k:dS K B)(C:J8)(f:Str)(get:B->Option D):Prop:=∀{F:J8->Prop}{H:Hp}{p:J8}{b:B}{φ:J8->Prop}{d:D},k.At F H p b φ->get b=some d->∃ dx fs v,H p=some (.ins C dx fs)/\fs.lookup f=some v/\aS K F H d v
def A7{K:PySem.W.Frag}{B:Type}(k:dS K B)(C:J8)(f:Str)(c:B->D->Option B):Prop:=∀{F:J8->Prop}{H:Hp}{p:J8}{b b':B}{φ:J8->Prop}{d:D}{v:V},k.At F H p b φ->aS K F H d v->c b d=some b'->(∀ a,F a->H a≠none)->∃ dx fs,H p=some (.ins C dx fs)/\fs.length<1000/\k.At F (aJ H p (.ins C dx (cP f v fs))) p b' φ
section
variable {X:Cx}{B:Type}{k:dS X.K B}{τ:List (Nat × Nat)}{a b c e:Expr}{es:List Expr}{ga gb:GX B D}{gr:GX B (List D)}{pos p:Pos}
theorem lY{i j:Nat}{x f:Str}{C:J8}{get:B->Option D}(s:(i,j)∈τ)(M:fC X.K C)(n:iC X.K C f)(g:A0 k C f get)(E:X.N[i]?=some x:=by rfl)(t:fY X.env.scope x:=by first | exact Zx rfl | exact Zl (Zx rfl) | exact Zl (Zl rfl))(z:(x == ("__debug__":Str))=false:=by decide)
  (a:(x == ("__classdict__":Str))=false:=by decide) (A:ZM (.Name x p) f X.env (Zr (.Name x p) X.env)=Zr (.Name x p) X.env:=by rfl):XE k τ (.Attribute (.Name x p) f pos) (fT j get):=cR (qJ (fS E t z a) A) fun O H Q l=>by
 obtain⟨F,e,R,T,m,d,h,S,q,c⟩:=l;obtain⟨b,I,q⟩:=aE q;obtain⟨U,G,q⟩:=aE q;cases q;obtain⟨o,y,at0⟩:=iG S.o.at_ I;obtain⟨J,fs,v,u,w,r⟩:=g at0 G
 exact⟨_,S.hd i j s o y,o.1,C,J,fs,v,rfl,u,M,n,w,c F H v m (bM.refl S.S.fz) S r⟩
theorem IF(Q:(i,j)∈τ)(cl:fC X.K C)(O:iC X.K C f)(g:A7 k C f up)(Z:XE k τ e ga)(hN:X.N[i]?=some x:=by rfl)(T:fY X.env.scope x:=by first | exact Zx rfl | exact Zl (Zx rfl) | exact Zl (Zl rfl))(Y:(x == ("__debug__":Str))=false:=by decide)
  (n:(x == ("__classdict__":Str))=false:=by decide) (hs:ZI e (some (.Attribute (.Name x p) f ap)) pos.line X.env=pure false:=by rfl):XS k τ (.Assign [.Attribute (.Name x p) f ap] e pos) (pT j up ga):=ps_mono (x9 (fS hN T Y n) Z hs) fun W B H I=>by
 obtain⟨m,A,d,F,E,G,M,o,K0,S,q,c⟩:=I;obtain⟨t,e1,q⟩:=aE q;obtain⟨b,e2,q⟩:=aE q;obtain⟨b',e3,q⟩:=aE q;cases q
 refine⟨F,d,E,G,M,t.1,t.2,S,e1,fun s z v J K1 S1 R1=>?_⟩
 obtain⟨o,w,at0⟩:=iG S1.o.at_ e2;obtain⟨y,fs,u,U,r⟩:=g at0 R1 e3 S1.S.fz
 refine⟨_,S1.hd i j Q o w,o.1,C,y,fs,rfl,u,cl,O,U,?_⟩
 have l:=k.own at0;have R:c5 X.K o.2 s s z (aJ z o.1 (.ins C y (cP f v fs))):=qA S1.S.fz u kG.1 kG.2 (l.2 _ l.1).2 l.1;obtain⟨S2,K2⟩:=S1.turn w R (fun a h=>.inl h) r;exact c s _ B _ (K0.trans (K1.trans K2)) (K1.k.st.trans K2.k.st) S2
theorem IE(c:bH X (ZH op) (cE X.K h))(e:XE k τ a ga)(d:XE k τ b gb):XE k τ (.BinOp a op b pos) (cM h ga gb):=cR (Go c e d) fun _ _ _ q=>Cf q
theorem NJ(c:iK X (cE X.K h))(e:XE k τ a ga)(d:XE k τ b gb)(hs:A6 b:=by exact fun _ _=>rfl):XE k τ (.Subscript a b pos) (cM h ga gb):=cR (Gm c e d hs) fun _ _ _ q=>Cf q
theorem sQ(F:aM X.prog X.w X.K X.mg X.base aO kk f fd ps (aY X.K n G))(t:cA kk X.A)(z:Gl X x)(u:X.mg x=some (.ref f))(y:PySem.W.keepIn X.K (.ref f)=true)(B:Binds X.K fd ps [])
  (I:XA k τ (e::es) gr) (h:∀ ρ Ω x,gr ρ Ω=some x->x.1.length=n) (i:(x == ("__debug__":Str))=false:=by decide) (he:Za (e::es) X.env=(false,Zr e X.env)::Za es X.env:=by rfl) (hpl:(Zw pos (Za es X.env)).any (·.1)=false:=by rfl):
  XE k τ (.Call (.Name x p) (e::es) [] pos) (iY G gr):=cR (tG (E:=E0) F t z u y B .nil k9 I i he hpl) fun U H Q o=>by
 obtain⟨F,a,ρ,Ω,s,d,m,S,q,c⟩:=o;obtain⟨b,j,q⟩:=aE q;obtain⟨Y,J,q⟩:=aE q;cases q
 refine⟨F,a,ρ,Ω,s,b.1,b.2,S,j,fun T O r g K1 S1 M=>?_⟩
 show aY X.K n G (r++[]) O Q E0
 rw [QP]
 exact⟨T,b.1,d,h ρ Ω b j,S1.S.fz,M,J,fun R N v l R2=>c R N v g (K1.trans (bM.ext S1.S.fz l)) (S1.ext l) R2⟩
theorem ID(mm:(i,j)∈τ)(c:fC X.K C)(hm:kJ X.K C m f)(hf:∀ b,k.cl b=C/\(k.fn b).contains m=false)(F:aM X.prog X.w X.K X.mg X.base aO kk f fd ps (cV k (n+1) G))(hr:cA kk X.A)(hb:Binds X.K fd ps [])
  (ha:XA k τ (e::es) gr) (t:∀ ρ Ω x,gr ρ Ω=some x->x.1.length=n) (hN:X.N[i]?=some x:=by rfl) (hv:fY X.env.scope x:=by first | exact Zx rfl | exact Zl (Zx rfl) | exact Zl (Zl rfl)) (hd:(x == ("__debug__":Str))=false:=by decide)
  (y:(x == ("__classdict__":Str))=false:=by decide) (s:Za (e::es) X.env=(false,Zr e X.env)::Za es X.env:=by rfl) (hpl:(Zw pos (Za es X.env)).any (·.1)=false:=by rfl)
  (ht:Zr (.Call (.Attribute (.Name x p) m apos) (e::es) [] pos) X.env=(do
   let ov <- Zr (.Name x p) X.env
   standAt apos.atName
   let(f,first) <- UE [ov] (U8 ov m pl)
   callWith pos f first (Zw pos (Za (e::es) X.env)) (Um pos (ZS [] X.env))):=by rfl):
  XE k τ (.Call (.Attribute (.Name x p) m apos) (e::es) [] pos) (tX j G gr):=cR (Gn (E:=E0) (fS hN hv hd y) c hm F hr hb .nil k9 ha s hpl ht) fun σ H Q U=>by
 obtain⟨F,g,ρ,Ω,os,d,T,S,q,c⟩:=U;obtain⟨b0,e0,q⟩:=aE q;obtain⟨h,O,q⟩:=aE q;obtain⟨b,e2,q⟩:=aE q;obtain⟨r,e3,q⟩:=aE q;cases q;obtain⟨o,J,at0⟩:=iG S.o.at_ e0;obtain⟨dx,fs,I,u⟩:=k.ins at0;obtain⟨ec,ef⟩:=hf b0;rw [ec]at I
 refine⟨_,S.hd i j mm o J,o.1,dx,fs,rfl,I,xN (by rw [u];exact ef),F,g,ρ,Ω,os,h.1,h.2,S,O,fun F1 H1 W Z K1 S1 R1=>?_⟩
 show cV k (n+1) G (.ref o.1::(W++[])) H1 Q E0
 rw [QP];obtain⟨l,a⟩:=K1.ad j o J;obtain⟨b1,M,z⟩:=qG S1.o.at_ a;rw [e2]at M;cases M
 refine⟨F1,o.1,b,l,none::h.1.map some,r.1,r.2,by rw [Qv,Qi,t ρ Ω h O],S1.S.fz,z,.cons rfl (A8 R1),e3,fun F' H' v R kp Y B R'=>?_⟩
 obtain⟨S2,K2⟩:=S1.turn a kp Y B;exact c F' H' v _ (K1.trans K2) S2 R'
end
end OB
namespace KP
open PySem.Spec L2 DL DC
section
variable {P:Zd}{w:Zf}
abbrev CK:=List (List Int)
def bS(P:Zd)(w:Zf)(h:Heap)(c:CK)(a:J8):Prop:=∃ o items n,h.get? a=some o/\o.cls=.type "tuple"/\o.data=.seq items n/\∃ bs:List J8,items.toList=bs.map Ze/\Paired (fun d b=>(cI P w).is h d b) c bs
theorem Id:∀{x y:CK}{bs:List J8},Paired (fun ks b=>(cI P w).is h ks b) x bs->Paired (fun ks b=>(cI P w).is h ks b) y bs->x=y
 | _,_,_,.nil,.nil=>rfl
 | _,_,_,.cons a r,.cons b t=>by rw [(cI P w).inj a b,Id r t]
theorem IA:∀{x y:List J8},x.map Ze=y.map Ze->x=y
 | [],[],_=>rfl
 | [],_::_,h=>by cases h
 | _::_,[],h=>by cases h
 | a::x,b::y,h=>by
  injection h with h1 h2
  injection h1 with h1
  rw [h1,IA h2]
theorem bS.inj(k:bS P w h x a)(j:bS P w h y a):x=y:=by
 obtain⟨o,d,n,l,_,m,bs,e,r⟩:=k;obtain⟨o',c,q,f,_,b,p,g,i⟩:=j
 obtain rfl:o=o':=QB (l.symm.trans f)
 rw [m]at b
 injection b with h1 _
 subst h1;rw [e]at g;rw [IA g]at r;exact Id r i
theorem bS.keeps{es ep}(x:bS P w h k a)(j:h.get? d=some o)(l:o.data=.dict es ep)(hs:Zk d h h'):bS P w h' k a:=by
 obtain⟨i,b,n,f,m,c,bs,e,r⟩:=x
 have g:a≠d:=by
  rintro rfl
  obtain rfl:i=o:=QB (f.symm.trans j)
  rw [l]at c;exact nomatch c
 exact⟨i,b,n,(hs.2 a g).trans f,m,c,bs,e,Paired.mapP r fun _ _ q=>(cI P w).keeps q j l hs⟩
theorem bS.typeIs{s:J9}{k:CK}{a:J8}(x:bS P w s.heap k a):s.TypeIs (.ref a) "tuple":=let⟨o,_,_,ho,hc,_⟩:=x;⟨o,ho,hc⟩
def aZ(P:Zd)(w:Zf)(a:CK):Int:=reduceHash (Zt (a.map (cI P w).hash))
def i7:CK->Nat
 | []=>0
 | k::r=>(k.length+1)+i7 r
theorem FO:∀(l:CK) (k:List Int),i7 (l++[k])=i7 l+(k.length+1)
 | [],k=>by simp [i7]
 | x::l,k=>by show(x.length+1)+i7 (l++[k])=(x.length+1)+i7 l+(k.length+1);rw [FO l k];lia
variable {A:Around}{E:YP->J9->Prop}{s:J9}
theorem EB{f:CK}{a:J8}{Q:Int->J9->Prop}(B:A.units+4<Zi)(r:bS P w s.heap f a)(h:Q (aZ P w f) { s with toks:=s.toks+(i7 f+1) }):
  Zb (Zc P w) A (pyHash (.ref a)) Q E s:=by
 have l:=r.typeIs;obtain⟨o,p,n,u,_,y,bs,z,v⟩:=r;unfold pyHash
 first | unfold pyHashByItsType | skip
 first | refine Qa (wpAny_cRoomFor_or (.inr (by lia)) ?_) | skip
 refine Qa (Jv l F.slot_tuple_hash.lookup ?_)
 show Zb _ _ (if(some (Value.builtin "tuple.__hash__") == some Zz)=true then _ else _) Q E s
 rw [if_neg (by rw [beq_builtin_none];exact Qr)];refine Qa (Jv l F.slot_tuple_hash.lookup ?_)
 show Zb _ _ (callSpecialIfBoundUnlessNone? (.ref a) "__hash__" _ >>= _) Q E s
 refine Qa (wpAny_callSpecialIfBoundUnlessNone?_slot l F.slot_tuple_hash (Yh F.slot_tuple_hash l F.entry_tuple_hash ?_ (F.args_tuple_hash_1 _)))
 show Zb _ _ (Ue (.ref a) >>= _) _ _ s
 refine Qa (wpAny_tupleItemsOf u y ?_);refine Qa ?_;rw [<- YG,z]
 refine Yo _
  (fun e (b:Array Int) m=>∃(done c:CK) (d:List J8),f=done++c/\e=d.map Ze/\Paired (fun f b=>(cI P w).is s.heap f b) c d/\b.toList=done.map (cI P w).hash/\m={ s with toks:=s.toks+i7 done })
  _ ?_ ?_ _ _ ⟨[],f,bs,rfl,rfl,v,rfl,rfl⟩
 ·rintro x e b m ⟨done,c,d,rfl,g,q,j,rfl⟩
  cases q with
  | nil=>cases g
  | @cons k b0 ks' bs'' h1 hl'=>
   rw [Qp]at g
   injection g with er1 er2
   subst er1;refine Qa ((cI P w).pyHash (show Around.units _<Zi from by first | (show A.units+1<Zi;lia) | (show A.units+2<Zi;lia)) h1 ?_);have t:i7 (done++[k])=i7 done+(k.length+1):=FO done k
   first
    | exact Qb ⟨done++[k],ks',bs'',by simp,er2,hl',by simp [j],by rw [t];simp [JP,tupleKind]⟩
    | exact Qa (Qb (Qb ⟨done++[k],ks',bs'',by simp,er2,hl',by simp [j],by rw [t];simp [JP,tupleKind]⟩))
 ·rintro b m ⟨done,c,d,rfl,g,q,j,rfl⟩
  cases q with
  | cons _ _=>cases g
  | nil=>
  rw [QP]at h
  show Zb _ _ (retInt (Zt b.toList)) _ _ _
  rw [j];refine wpAny_ret_mkInt ?_
  show Zb _ _ (if(decide (-(2:Int) ^ 63<=Zt (done.map (cI P w).hash)) && decide (Zt (done.map (cI P w).hash)<2 ^ 63))=true then _ else _) Q E _
  unfold aZ reduceHash at h;by_cases i:(decide (-(2:Int) ^ 63<=Zt (done.map (cI P w).hash)) && decide (Zt (done.map (cI P w).hash)<2 ^ 63))=true
  ·rw [if_pos i];rw [if_pos i]at h;exact Qb (by simpa [JP]using h)
  ·rw [if_neg i];rw [if_neg i]at h;exact Qa (Jm (Qb (by simpa [JP]using h)))
theorem OY{x y:CK}{a b:J8}{R:Fin->J9->Prop}(hu:A.units+4<Zi)(W:bS P w s.heap x a)(T:bS P w s.heap y b)(h:R (.done (.ret (.bool (decide (x=y))))) s):
  Zb (Zc P w) A (Builtin.«tuple.__eq__» ⟨[.ref a,.ref b],[]⟩) R E s:=by
 have S:=T.typeIs;obtain⟨oa,q,na,J,_,Q,U,m,N⟩:=W;obtain⟨ob,o,nb,I,_,O,n,l,M⟩:=T
 show Zb _ _ (isInstance (.ref b) (.type "tuple") >>= _) _ _ s
 refine Qa (Je S UQ ?_);simp only [Q0,Qg,if_false];refine Qa (wpAny_tupleItemsOf J Q ?_);refine Qa (wpAny_tupleItemsOf I O ?_);refine Qa ?_
 refine Yo _
  (fun f r z=>r.1=none/\z=s/\∃(t p:CK) (bx' by'':List J8),f=List.zip (bx'.map Ze) (by''.map Ze)/\Paired (fun G b=>(cI P w).is s.heap G b) t bx'/\Paired (fun G b=>(cI P w).is s.heap G b) p by''/\decide (t=p)=decide (x=y)/\(bx'.length == by''.length)=(q.size == o.size))
  _ ?_ ?_ _ _ ⟨rfl,rfl,x,y,U,n,by rw [m,l],N,M,rfl,by
   have Z:q.size=U.length:=by rw [<- Qd,m,Qi]
   have Y:o.size=n.length:=by rw [<- Qd,l,Qi]
   rw [Z,Y]⟩
 ·rintro⟨u,v⟩ f r z ⟨H,rfl,t,p,F,B,i,g,e,c,d⟩
  cases g with
  | nil=>simp at i
  | @cons k1 u' x'' xs'' h1 hx''=>
   cases e with
   | nil=>simp at i
   | @cons k2 v' y'' ys'' h2 hy''=>
    simp only [Qp,JI,List.cons.injEq,Prod.mk.injEq]at i;obtain⟨⟨rfl,rfl⟩,rfl⟩:=i;refine Qa ((cI P w).eqBool (x:=k1) (y:=k2) (show Around.units _<Zi from by first | (show A.units<Zi;lia) | (show A.units+1<Zi;lia) | (show A.units+2<Zi;lia)) h1 h2 ?_);by_cases K:k1=k2
    ·subst K;rw [decide_eq_true rfl];simp only [Q0,Qg,if_false];refine Qb ⟨rfl,rfl,x'',y'',xs'',ys'',rfl,hx'',hy'',?_,by simpa using d⟩;rw [<- c];by_cases j:x''=y''
     ·simp [j]
     ·simp [j]
    ·rw [decide_eq_false K];simp only [Jr,if_true]
     have X:decide (x=y)=false:=by rw [<- c];simp [K]
     rw [X]at h;exact Qa (Qb (Qb (Qb h)))
 ·rintro⟨r1,r2⟩ z ⟨H,rfl,t,p,F,B,i,g,e,c,d⟩
  simp only at H
  subst H;refine Qb ?_
  have k:(q.size == o.size)=decide (x=y):=by
   rw [<- c,<- d]
   cases g with
   | nil=>
    cases e with
    | nil=>simp
    | cons _ _=>simp
   | cons _ _=>
    cases e with
    | nil=>simp
    | cons _ _=>simp at i
  show R (.done (.ret (.bool (q.size == o.size)))) z
  rw [k];exact h
theorem EA{x y:CK}{a b:J8}{Q:Bool->J9->Prop}(g:A.units+6<Zi)(d:bS P w s.heap x a)(f:bS P w s.heap y b)(h:Q (decide (x=y)) s):
  Zb (Zc P w) A (eqBool (.ref a) (.ref b)) Q E s:=by
 unfold eqBool
 try with_reducible refine Q7 ?_
 show Zb _ _ (if(Ze a == Ze b)=true then _ else _) Q E s
 by_cases c:(Ze a == Ze b)=true
 ·rw [if_pos c]
  have e:a=b:=by have:=Yz c;injection this
  subst e
  obtain rfl:=d.inj f
  exact Qa (Jm (Qb (by simpa using h)))
 ·rw [if_neg c]
  exact Qa (wpAny_richCompare_same_room (op:=.Eq) d.typeIs f.typeIs F.slot_tuple_eq
   (Yh F.slot_tuple_eq d.typeIs F.entry_tuple_eq (OY (by first | (show A.units+4<Zi;lia) | (show A.units+1+4<Zi;lia) | (show A.units+2+4<Zi;lia)) d f ⟨_,rfl,(fun e=>nomatch e),YB h⟩) (F.args_tuple_eq_2 _ _)) (by lia))
theorem Ww(n:Nat)(e:(cI P w).is s.heap ks a)(h:Q true s):Zb (Zc P w) A (eqIsQuiet (n+1) (.ref a)) Q E s:=by
 have e:IsTupleKey (Vh P w) s.heap ks a:=e;have j:=e.typeIs;obtain⟨o,d,t,k,_,m,l⟩:=e;unfold eqIsQuiet;refine Qa (Jv j F.slot_tuple_eq.lookup ?_)
 show Zb _ _ (isInstance (.ref a) (.type "tuple") >>= _) _ _ s
 refine Qa (Je j UQ ?_);simp only [Q0,Qg,if_false];refine Qa (Ji k m ?_);refine Qa ?_
 show Zb _ _ (forIn d _ _) _ _ s
 rw [<- YG];refine Yo _ (fun b r f=>r.1=none/\f=s/\∀ v∈b,carriedByValue v=true) _ ?_ ?_ _ _ ⟨rfl,rfl,l.byValue⟩
 ·rintro v b r f ⟨i,rfl,c⟩;rw [eqIsQuiet_byValue _ (c v Qk)];refine Qa (Qb ?_);simp only [Q0,Qg,if_false];exact Qb ⟨rfl,rfl,fun u g=>c u (Qf _ g)⟩
 ·rintro⟨q,p⟩ f ⟨i,rfl,_⟩
  simp only at i
  subst i;exact Qb h
theorem Bg{g:CK}{a:J8}{Q:Bool->J9->Prop}(m:bS P w s.heap g a)(h:Q true s):Zb (Zc P w) A (eqIsQuiet 8 (.ref a)) Q E s:=by
 have p:=m.typeIs;obtain⟨o,d,n,q,_,x,bs,y,u⟩:=m;unfold eqIsQuiet;refine Qa (Jv p F.slot_tuple_eq.lookup ?_)
 show Zb _ _ (isInstance (.ref a) (.type "tuple") >>= _) _ _ s
 refine Qa (Je p UQ ?_);simp only [Q0,Qg,if_false];refine Qa (Ji q x ?_);refine Qa ?_
 show Zb _ _ (forIn d _ _) _ _ s
 rw [<- YG,y];refine Yo _ (fun c r i=>r.1=none/\i=s/\∃(f:CK) (e:List J8),c=e.map Ze/\Paired (fun g b=>(cI P w).is s.heap g b) f e) _ ?_ ?_ _ _ ⟨rfl,rfl,g,bs,rfl,u⟩
 ·rintro v c r i ⟨j,rfl,f,e,l,t⟩
  cases t with
  | nil=>cases l
  | @cons k b0 ks'' bs'' h1 hl'=>
   rw [Qp]at l
   injection l with er1 er2
   subst er1;refine Qa (Ww 6 h1 ?_);simp only [Q0,Qg,if_false];exact Qb ⟨rfl,rfl,ks'',bs'',er2,hl'⟩
 ·rintro⟨B,z⟩ i ⟨j,rfl,_⟩
  simp only at j
  subst j;exact Qb h
end
def fX(P:Zd)(w:Zf):HeapKind P w CK where
 is:=bS P w
 hash:=aZ P w
 draws:=fun e=>i7 e+1
 room:=fun A=>A.units+6<Zi
 inj:=fun b a=>b.inj a
 keeps:=fun x g i f=>x.keeps g i f
 pyHash:=fun d c h=>EB (by lia) c h
 eqBool:=fun d b a h=>EA d b a h
 quiet:=fun c h=>Bg c h
end KP
namespace KP
open PySem.Spec L2 DL DC ST SL
theorem v5{a b:Type}(f:a->b):∀(l:List a) (j:Nat),(l.map f).eraseIdx j=(l.eraseIdx j).map f
 | [],_=>rfl
 | _::_,0=>rfl
 | x::l,j+1=>by
  show f x::(l.map f).eraseIdx j=f x::(l.eraseIdx j).map f
  rw [v5 f l j]
section
variable {P:Zd}{w:Zf}{κ:Type}[DecidableEq κ]{knd:HeapKind P w κ}{A:Around}{E:YP->J9->Prop}{s:J9}{d b:J8}{k:κ}{xs:List (κ × J8 × YP)}
theorem Wq(y:knd.room A)(a:knd.is s.heap k b)(F:s.heap.DictOfH knd d xs)(n:xs[j]?=some (k,p))(hsz:xs.length<=sizeLine)
  (h:∀ e h',e.val=p.2->h'.DictOfH knd d (xs.eraseIdx j)->Zk d s.heap h'->Q (some e) { s with heap:=h',toks:=s.toks+knd.draws k }):Zb (Zc P w) A (Builtin.Dict.takeOut d (.ref b)) Q E s:=by
 obtain⟨o,u,J,g,I,f,c,m,t⟩:=F
 have H:u.size=xs.length:=by rw [<- Qd,c,Qi]
 unfold Builtin.Dict.takeOut
 try with_reducible refine Q7 ?_
 refine Qa (knd.pyHash y a ?_);refine Qa (wpAny_dictFind_heap (s:={ s with toks:=s.toks+knd.draws k }) y a g f c m t (fun q=>absurd n (q j p)) fun r K i=>?_)
 have v:r=j:=by
  have M:=(Qc.mp n).1;have z:=(Qc.mp i).1
  have g1:(xs.map (·.1))[j]?=some k:=by rw [QE,n];rfl
  have g2:(xs.map (·.1))[r]?=some k:=by rw [QE,i];rfl
  exact(List.getElem?_inj (by simpa using z) t).mp (g2.trans g1.symm)
 subst v;refine Qa (JV (s:={ s with toks:=s.toks+knd.draws k }) g f ?_)
 have G:u[r]?=some (U9 knd (k,p)):=by rw [<- QA,c,QE,n];rfl
 rw [G];refine Qa (wpAny_updateDictKeys (hz:=by lia) (s:={ s with toks:=s.toks+knd.draws k }) g f (Qb (h (U9 knd (k,p)) _ rfl ⟨_,_,J+1,Ya _ g (Obj.isFreed_of_dict (Obj.data_mapDictKeys f _)),I.mapDictKeys _,Obj.data_mapDictKeys f _,?_,fun x B=>?_,?_⟩ (QW ..))))
 ·obtain⟨l⟩:=u;simp only [List.eraseIdxIfInBounds_toArray];have c:l=xs.map (U9 knd):=c;rw [c,v5]
 ·exact knd.keeps (m x (List.mem_of_mem_eraseIdx B)) g f (QW ..)
 ·rw [<- v5];exact t.eraseIdx _
theorem Vt{j:Nat}{p:J8 × YP}{Q:YP->J9->Prop}(n:∀ B:Around,B.units<=A.units+2->knd.room B)(a:knd.is s.heap k b)(c:s.heap.DictOfH knd d xs)(g:xs[j]?=some (k,p))(hsz:xs.length<=sizeLine)
  (h:∀ h',h'.DictOfH knd d (xs.eraseIdx j)->Zk d s.heap h'->Q p.2 { s with heap:=h',toks:=s.toks+knd.draws k }):Zb (Zc P w) A (call (.builtin "dict.pop") [.ref d,.ref b]) Q E s:=by
 have i:=c.typeIs;refine Yh PySem.F.slot_dict_pop i PySem.F.entry_dict_pop ?_ (PySem.F.args_dict_pop_2 _ _);unfold Builtin.«dict.pop»;refine Qa ?_;unfold Builtin.Dict.keyAndDefault;refine Qa (UP i ?_)
 show Zb _ _ (pure (d,Ze b,none)) _ _ s
 refine Qb ?_;obtain⟨o,l,H,q,G,u,t,r,y⟩:=id c
 have f:l.isEmpty=false:=by
  have:l.size=xs.length:=by rw [<- Qd,t,Qi]
  have x:=(Qc.mp g).1;rw [Array.isEmpty_eq_false_iff];intro z;rw [z]at this
  simp at this
  lia
 simp only [show(keyPart (Ze b)).isSome=false from rfl,Qg,if_false];refine Qa (JV q u ?_);refine Qa (Qb ?_);rw [f];simp only [Qg,if_false];refine Qa (Wq (n _ (by first | (show A.units+1<=_;lia) | (show A.units<=_;lia) | (show A.units+2<=_;lia))) a c g hsz fun e h' v dd m=>?_);simp only [Option.isNone_some,Qg,if_false];exact Qa (wpAny_letGo (Qb ⟨e.val,rfl,by rw [v];exact h h' dd m⟩))
end
abbrev CB:=CK × J8
def c7(l:List CB):List fD:=l.map fun p=>(.inr p.1,p.2,.bl true)
def dW(l:List CB):List (CK × J8 × YP):=l.map fun p=>(p.1,p.2,.bool true)
structure Cd(K:PySem.W.Frag)(H:Hp)(a:J8)(l:List CB)(ep:Nat):Prop where
 at_:H a=some (bN a (c7 l) ep)
 ky:∀ p∈l,eX K H (.inr p.1) p.2
 nd:(l.map (·.1)).Nodup
 ln:l.length<=1000
section
variable {X:Cx}{pins:List (J8 × Obj)}{σ:L2.St}{H:Hp}{s:J9}
theorem nU{k:CK}{b:J8}(I:L2.Inv X pins σ H s)(h:eX X.K H (.inr k) b):(fX X.prog X.w).is s.heap k b:=by
 obtain⟨_,bs,g,f⟩:=h;obtain⟨c,a,⟨o,g1,g2,n,g3⟩,_⟩:=I.tuple g
 have e:∀{l:List J8}{m:List YP},Vals (l.map V.ref) m->m=l.map Ze:=by
  intro l
  induction l with
  | nil=>intro m h;cases h;rfl
  | cons x l d=>
   intro m h
   cases h with
   | cons r t=>cases r;rw [d t];rfl
 exact⟨o,_,n,g1,g2,g3,bs,by simpa using e a,Paired.mapP f fun i b q=>kH I q⟩
theorem Be{a:J8}{l:List CB}{ep:Nat}(I:L2.Inv X pins σ H s)(h:Cd X.K H a l ep):(a == ZT)=false/\s.heap.DictOfH (fX X.prog X.w) a (dW l):=by
 obtain⟨⟨i,o,c,y,v,u,n⟩,_⟩:=(show eH X.prog X.w H s.heap a (bN a (c7 l) ep)from I.hok a _ h.at_)
 have mk:∀{l:List CB}{r:List UC},Paired (fun(e:eL × J8 × V) (r:UC)=>r.hash=B4 e.1/\r.key=.ref e.2.1/\RelV e.2.2 r.val) (c7 l) r->r=(dW l).map (U9 (fX X.prog X.w)):=by
  intro l
  induction l with
  | nil=>intro r q;cases q;rfl
  | cons p l j=>
   intro r q
   cases q with
   | @cons _ x _ xs z t=>
    rw [j t];obtain⟨f,d,b⟩:=z;obtain⟨B,A,g⟩:=x;have b:g=Z3 true:=b;dsimp only at f d;subst f d b;rfl
 refine⟨i,o,c,ep,y,v,u,mk n,fun x k=>?_,?_⟩
 ·obtain⟨p,m,rfl⟩:=QM.mp k;exact nU I (h.ky p m)
 ·unfold dW;rw [YE];exact h.nd
theorem Bd{P:Zd}{w:Zf}{h:Heap}{a:J8}{l:List CB}(c:(a == ZT)=false)(d:h.DictOfH (fX P w) a (dW l)):∃ ep,eH P w H h a (bN a (c7 l) ep):=by
 obtain⟨o,b,ep,e,i,g,f,h5,m⟩:=d;clear h5 m
 refine⟨ep,⟨c,o,b,e,i,g,?_⟩,⟨o,e⟩,fun q n ⟨c,o,b,g1,g2⟩ k=>⟨c,o,b,k _ g1,g2⟩⟩
 rw [f];clear e i g f
 induction l with
 | nil=>exact .nil
 | cons p l j=>exact .cons ⟨rfl,rfl,rfl⟩ j
theorem vG:∀{l:List CB},(Vs (dW l) k).isSome=decide (k∈l.map (·.1))
 | []=>rfl
 | p::l=>by
  have a:=vG (k:=k) (l:=l);by_cases c:p.1=k
  ·have:Vs (dW (p::l)) k=some (p.2,.bool true):=by simp [Vs,dW,List.find?_cons,c]
   rw [this]
   simp [c]
  ·have:Vs (dW (p::l)) k=Vs (dW l) k:=by simp [Vs,dW,List.find?_cons,c]
   rw [this,a]
   simp [Ua c]
def DN(K:PySem.W.Frag):R2:=fun x y H Q=>∃(a b:J8) (l:List CB) (ep:Nat) (k:CK),x=.ref b/\y=.ref a/\eX K H (.inr k) b/\Cd K H a l ep/\Q (.bl (decide (k∈l.map (·.1)))) H
theorem GF(o:X.A.units+65<Zi):bH X (Zm .In) (DN X.K):=fun c s n H x y v u Q I f e d=>by
 obtain⟨a,b,l,p,k,m,j,h,i,q⟩:=d;subst m j;cases f;cases e;obtain⟨g,dd⟩:=Be I i;refine wpAny_in_heap (knd:=fX X.prog X.w) (k:=k) (show X.A.in1.units+6<Zi from by show X.A.units+1+6<Zi;lia) (nU I h) g dd ?_;rw [vG]
 exact⟨.bl _,H,I.tok _,rfl,q⟩
def ME(K:PySem.W.Frag):V->List V->Hp->VK->Prop:=fun x d H Q=>∃(a b:J8) (l:List CB) (ep:Nat) (k:CK) (j:Nat) (c:J8),x=.ref a/\d=[.ref b]/\eX K H (.inr k) b/\Cd K H a l ep/\l[j]?=some (k,c)/\∀ ep',Q (.bl true) (aJ H a (bN a (c7 (l.eraseIdx j)) ep'))
theorem Pr(U:X.A.units+65<Zi):yP X "dict.pop" (ME X.K):=fun f s n H x R v S Q I r t o=>by
 obtain⟨a,b,l,Y,k,j,c,N,m,F,i,G,q⟩:=o;subst N m;cases r;obtain⟨u,rfl,y⟩:=g7 t;cases y;obtain⟨E,dd⟩:=Be I i
 have h:(dW l)[j]?=some (k,c,Z3 true):=by unfold dW;rw [QE,G];rfl
 refine Vt (knd:=fX X.prog X.w) (fun B W=>show B.units+6<Zi by lia) (nU I F) dd h (by unfold dW;rw [Qi];exact QJ i.ln (by rw [Q5];lia)) fun M d p=>?_
 have e:(dW l).eraseIdx j=dW (l.eraseIdx j):=by unfold dW;rw [v5]
 rw [e]at d;obtain⟨g,oo⟩:=Bd (H:=H) E d;have O:L2.Inv X f n (aJ H a (bN a (c7 (l.eraseIdx j)) g)) { s with heap:=M,toks:=s.toks+(fX X.prog X.w).draws k }:=I.write (x:=a) (e:=a) (t':=s.toks+(fX X.prog X.w).draws k) (by rw [i.at_];exact Ud) (.inl rfl) (fun c T J z=>(p.2 c J).trans z) (let⟨o2,_,_,hq,_⟩:=d;⟨o2,hq⟩) oo
 exact⟨.bl true,_,O,rfl,q g⟩
def MK(K:PySem.W.Frag)(e tk:TE):TS:=fun W c H=>e c H fun x f=>tk c f fun y d=>∃(a b:J8) (l:List CB) (ep:Nat) (k:CK),x=.ref a/\y=.ref b/\eX K d (.inr k) b/\Cd K d a l ep/\k∉l.map (·.1)/\∀ ep',W.nx c (aJ d a (bN a (c7 (l++[(k,b)])) ep'))
theorem Vv{o k:Expr}{j:Nat}{G tk:TE}{m F pos:Pos}(hu:X.A.units+65<Zi)(U:PE X o G)(Z:PE X k tk)(hs:ZI (.Constant (.bool true) j m) (some (.Subscript o k F)) pos.line X.env=pure false:=by rfl):
  PS X (.Assign [.Subscript o k F] (.Constant (.bool true) j m) pos) (MK X.K G tk):=by
 intro d s g H W I q;refine wpAny_Assign_Subscript (aW (GV (X:=X) (b:=true) (j:=j) (pos:=m) d s g H (fun v E=>v=.bl true/\E=H) I ⟨rfl,rfl⟩) fun u N ⟨z,E,I1,p,ez,eh⟩=>?_) hs;subst ez eh;have p:u=Z3 true:=p;subst p;refine aW (U d N g E _ I1 q) fun u2 M i=>?_;obtain⟨x,H2,I2,Q,S⟩:=i;refine aW (Z d M g H2 _ I2 S) fun u3 n i=>?_;obtain⟨y,J,I3,O,R⟩:=i;obtain⟨a,b,l,ep,k,ex,ey,t,B,Y,q⟩:=R;subst ex ey;cases Q;cases O;obtain⟨T,dd⟩:=Be I3 B;refine wpAny_setItem_heap (knd:=fX X.prog X.w) (k:=k) (show X.A.in1.units+6<Zi from by show X.A.units+1+6<Zi;lia) (nU I3 t) dd (fun h' f r=>?_) (by unfold dW;rw [Qi];exact QJ B.ln (by rw [Q5];lia))
 have e:Vn (dW l) k b (Z3 true)=dW (l++[(k,b)]):=by
  unfold Vn;rw [vG,decide_eq_false Y,if_neg Qr];unfold dW;rw [Yd];rfl
 rw [e]at f;obtain⟨h,oo⟩:=Bd (H:=J) T f;have I4:L2.Inv X d g (aJ J a (bN a (c7 (l++[(k,b)])) h)) { n with heap:=h',toks:=n.toks+(fX X.prog X.w).draws k }:=I3.write (x:=a) (e:=a) (t':=n.toks+(fX X.prog X.w).draws k) (by rw [B.at_];exact Ud) (.inl rfl) (fun c ob hc z=>(r.2 c hc).trans z) (let⟨o2,_,_,hq,_⟩:=f;⟨o2,hq⟩) oo
 exact⟨g,_,I4,q h⟩
end
end KP
namespace KP
open PySem.Spec L2 DL DC ST SL
section
variable {P:Zd}{w:Zf}
theorem Rs:PySem.W.KdlSrc P w "dict" d d raw.size (fun i v=>∃ h:i<raw.size,v=raw[i].key) (fun h=>lI h d raw ep) where
 type:=fun s h=>h.ty
 there:=fun h ⟨f,o,a,g⟩=>⟨Qs a,Qs a⟩
 keep:=fun h p ⟨f,o,a,g⟩ r=>⟨f,o,r d (.inl rfl) o a,g⟩
 notList:=by decide
 notTuple:=by decide
 hint:=fun _ _ _ _ m u=>PySem.W.kdl_hint_dict m.ty u
 iter:=fun A s F m=>by
  have x:d<s.heap.objs.size:=let⟨_,o,a,_⟩:=m;Qs a
  refine⟨_,fun i h=>h.IsKeyIter s.heap.objs.size d i raw.size ep/\lI h d raw ep,fun _ _ u=>Rn m u,⟨?_,?_,?_,?_,?_⟩,⟨_,Qy _ rfl,rfl,by simp [UR]⟩,?_⟩
  ·intro b k;simp at k;simp [k]
  ·rintro i h p ⟨⟨o,e,c⟩,f,j,a,g⟩ r
   exact⟨⟨o,r _ (by simp) o e,c⟩,f,j,r d (by simp) j a,g⟩
  ·rintro i q Q E B ⟨l,rd⟩ n;refine Sw l rd B fun p t z=>n _ p q.toks ⟨B,rfl⟩ ⟨t,?_⟩ fun b o k e=>(z.2 b (fun h=>k (by simp [h]))).trans e;obtain⟨f,j,a,g⟩:=rd
   exact⟨f,j,(z.2 d (Qz x)).trans a,g⟩
  ·rintro q Q E ⟨l,rd⟩ n;exact Od F l rd (Qm _) fun p y=>n p q.toks fun b o k e=>y b o (fun h=>k (by simp [h])) e
  ·rintro i q Q E ⟨l,rd⟩ n;exact wpAny_pyIter_keyiter l n
  ·obtain⟨f,j,a,g⟩:=m
   exact⟨f,j,Qh _ a,g⟩
end
section
variable {X:Cx}
def Th:List V->Hp->VK->Prop:=fun b H Q=>∃(a:J8) (es:List fD) (ep:Nat),b=[.ref a]/\H a=some (bN a es ep)/\es.length<=1000/\∀ p,H p=none->Q (.ref p) (aJ H p (.lst (es.map fun e=>V.ref e.2.1)))
theorem Oc(B:X.calm=true):cU X (.type "list") Th:=fun j s M H N O Q I r p=>by
 obtain⟨a,f,ep,G,h,g,k⟩:=p;subst G;obtain⟨u,rfl,t⟩:=g7 r;cases t;obtain⟨v,rd,sz,l⟩:=Tl I h;refine PySem.W.kdl_call (Rs (ep:=ep)) (I.ok.hd B) rd (by rw [sz];exact QJ g (by rw [Q5];lia)) fun F R b K keep E d=>?_;have A:H s.heap.objs.size=none:=I.hok.fresh (Qm _)
 have q:Vals (f.map fun e=>V.ref e.2.1) b.toList:=by
  have:b.toList=f.map fun e=>Ze e.2.1:=by
   refine List.ext_getElem? fun i=>?_;rw [QE];by_cases c:i<f.length
   ·have m:i<b.size:=by rw [d.1,sz];exact c
    have J:b.toList[i]?=some b[i]:=by simp [m]
    obtain⟨y,x⟩:=d.2 i b[i] (by simp [m])
    have n:f[i]?=some f[i]:=by simp [c]
    rw [J,n,x,l i y _ n];rfl
   ·rw [Jb (by rw [Qd,d.1,sz];lia),Jb (YY c)];rfl
  rw [this];clear this l sz k h g
  induction f with
  | nil=>exact .nil
  | cons e f z=>exact .cons rfl z
 refine⟨.ref s.heap.objs.size,_,I.laid (o:=.lst (f.map fun e=>V.ref e.2.1)) keep (Qm _) ?_,rfl,k _ A⟩
 exact(show eH X.prog X.w _ F _ (.lst (f.map fun e=>V.ref e.2.1))from⟨by rw [Qi];exact QJ g (by rw [Q5];lia),b.toList,K,q,by rw [Array.toArray_toList];exact E⟩)
end
end KP
namespace KP
open PySem.Spec L2 DL DC ST SL
def uF:List D->Option CK
 | []=>some []
 | d::r=>(eQ d).bind fun k=>(uF r).bind fun a=>some (k::a)
def jX:D->Option CK
 | .tuple (d::r)=>uF (d::r)
 | _=>none
theorem FL{K:PySem.W.Frag}{F:J8->Prop}{H:Hp}:∀{ds:List D}{vs:List V}{ks:CK},Reps K F H ds vs->uF ds=some ks->∃ bs:List J8,vs=bs.map V.ref/\Paired (fun(ks:List Int) (b:J8)=>bL K H b (ks.map V.int)) ks bs
 | _,_,_,.nil,h=>by cases h;exact⟨[],rfl,.nil⟩
 | _,_,_,.cons r t,h=>by
  obtain⟨k,e,h⟩:=aE h;obtain⟨ks,d,h⟩:=aE h;cases h;obtain⟨b,rfl,c⟩:=tM r e;obtain⟨bs,rfl,a⟩:=FL t d
  exact⟨b::bs,rfl,.cons c a⟩
theorem sO{K:PySem.W.Frag}{F:J8->Prop}{H:Hp}{d:D}{v:V}{ks:CK}(r:aS K F H d v)(h:jX d=some ks):∃ b,v=.ref b/\eX K H (.inr ks) b:=by
 cases r with
 | @tup a vs c h1 r1=>
  cases c with
  | nil=>cases h
  | cons d c=>
   have h:uF (d::c)=some ks:=h;obtain⟨bs,rfl,e⟩:=FL r1 h
   refine⟨a,rfl,?_,bs,h1,e⟩
   intro z;subst z;cases e;cases r1
 | _=>cases h
theorem OZ{P:Zd}{w:Zf}(h h':Heap)(k:CK)(b:J8)(x:(fX P w).is h k b)(e:∀ b o,h.get? b=some o->h'.get? b=some o):(fX P w).is h' k b:=by
 obtain⟨o,a,n,d,g,f,bs,i,r⟩:=x
 exact⟨o,a,n,e _ _ d,g,f,bs,i,Paired.mapP r fun c b q=>IN h h' c b q e⟩
theorem Et{l:List CB}{b:Nat->CK}{d:Nat->J8}{a:Nat->YP}(k:(l.map (·.1)).Nodup)(m:∀ i p,l[i]?=some p->b i=p.1/\d i=p.2/\a i=.bool true):∀ i,i<=l.length->gT b d a i=dW (l.take i)
 | 0,_=>rfl
 | i+1,hi=>by
  have g:i<l.length:=hi
  have e:l[i]?=some l[i]:=by simp [g]
  obtain⟨g1,g2,g3⟩:=m i _ e;unfold gT;rw [Et k m i (by lia),g1,g2,g3];unfold Vn
  have n:l[i].1∉(l.take i).map (·.1):=fun o=>by
   obtain⟨j,f⟩:=QQ o;rw [QE]at f
   have h:j<i:=by
    by_cases c:j<i
    ·exact c
    ·rw [Jb (by simp;lia)]at f;cases f
   rw [JK,if_pos h]at f
   have q:(l.map (·.1))[j]?=(l.map (·.1))[i]?:=by
    rw [QE,QE,f,e];rfl
   have:=(List.getElem?_inj (by simp;lia) k).mp q
   lia
  rw [vG,decide_eq_false n,if_neg Qr,List.take_succ,e];unfold dW;rw [Yd];rfl
def MD(K:PySem.W.Frag):List V->Hp->VK->Prop:=fun b H Q=>∃(F:J8->Prop) (ds:List D) (cs:List CK),(∀ a,F a->H a≠none)/\Reps K F H [.list (ds.map fun d=>.tuple [d,.bool true])] b/\Paired (fun d k=>jX d=some k) ds cs/\cs.Nodup/\cs.length<=1000 /\
 ∀ p l ep,H p=none->l.map (·.1)=cs->(∀ q∈l,eX K H (.inr q.1) q.2)->Q (.ref p) (aJ H p (bN p (c7 l) ep))
theorem GQ{K:PySem.W.Frag}{F:J8->Prop}{H:Hp}:∀{ds:List D}{cs:List CK}{vs:List V},Paired (fun d k=>jX d=some k) ds cs->Reps K F H (ds.map fun d=>.tuple [d,.bool true]) vs->∃ l:List CB,l.map (·.1)=cs/\Paired (fun(p:CB) (v:V)=>∃ t,v=.ref t/\bL K H t [.ref p.2,.bl true]/\eX K H (.inr p.1) p.2) l vs
 | _,_,_,.nil,h=>by cases h;exact⟨[],rfl,.nil⟩
 | _,_,_,.cons e t,h=>by
  cases h with
  | cons r f=>
   obtain⟨l,n,m⟩:=GQ t f
   cases r with
   | @tup a us _ sq c=>
    cases c with
    | cons i c=>
     cases c with
     | cons g c=>
      cases c;cases g;obtain⟨b,rfl,j⟩:=sO i e
      exact⟨(_,b)::l,by rw [Qp,n],.cons ⟨a,rfl,sq,j⟩ m⟩
section
variable {X:Cx}
theorem O9(hc:X.calm=true)(hu:X.A.units+66<Zi):cU X (.type "dict") (MD X.K):=fun W s σ H xs us Q I rv zz=>by
 obtain⟨F,ds,cs,z,R,pd,hn,hl,k⟩:=zz
 cases R with
 | cons R1 R2=>
  cases R2
  cases R1 with
  | @lst a vs _ h1 y=>
   obtain⟨u,rfl,ru⟩:=g7 rv;cases ru;obtain⟨c,e,⟨o,nl,g1,g2,g3,Y⟩,_⟩:=I.list h1.sq;obtain⟨l,U,j⟩:=GQ pd y
   have ll:l.length=cs.length:=by rw [<- U,Qi]
   have b:c.length=l.length:=by rw [<- e.length];exact(Paired.length j).symm
   obtain⟨oc,od,a0,E⟩:=o
   have O:s.heap.get? a=some { cls:=.type "list",dict:=none,data:=.seq c.toArray nl,slots:=E }:=by
    rw [g1];simp only at g2 g3 Y;rw [g2,g3,Y]
   refine Eu (knd:=fX X.prog X.w) (fun i=>(l.getD i ([],0)).1) (fun i=>(l.getD i ([],0)).2) (fun _=>.bool true) OZ (I.ok.hd hc) (fun B hB=>show B.units+6<Zi by lia) O (fun i v hv=>?_) (fun i d=>?_) (by rw [QH,b,ll];exact hl) fun h' tk dd keep=>?_
   ·have f:c[i]?=some v:=by simpa using hv
    have d:i<l.length:=by rw [<- b];exact(Qc.mp f).1
    have S:l[i]?=some l[i]:=by simp [d]
    have T:l.getD i ([],0)=l[i]:=by simp [List.getD,d]
    obtain⟨x,J,t,rfl,m,h⟩:=Paired.at j S;obtain⟨a2,rj,G,_⟩:=I.tuple m;obtain⟨u1,u2,rfl,y,r⟩:=Vals.two rj;cases y;have r:u2=Z3 true:=r;subst r;obtain⟨w',Z,n⟩:=e.get J;rw [f]at Z;cases Z;cases n
    exact⟨t,rfl,by rw [T];exact G⟩
   ·have g:i<l.length:=by rw [<- b];simpa using d
    have S:l[i]?=some l[i]:=by simp [g]
    have T:l.getD i ([],0)=l[i]:=by simp [List.getD,g]
    obtain⟨x,J,t,_,m,h⟩:=Paired.at j S
    show(fX X.prog X.w).is s.heap (l.getD i ([],0)).1 (l.getD i ([],0)).2
    rw [T];exact nU I h
   ·have M:c.toArray.size=l.length:=by rw [QH,b]
    rw [M,Et (by rw [U];exact hn) (fun i p N=>by
     have:l.getD i ([],0)=p:=by simp [List.getD,N]
     rw [this]
     exact⟨rfl,rfl,rfl⟩) l.length (Qm _),Y5 (Qm _)]at dd
    have lo:(s.heap.objs.size == ZT)=false:=beq_eq_false_iff_ne.mpr (Ua (Qz (Ba I)));have N:H s.heap.objs.size=none:=I.hok.fresh (Qm _);obtain⟨ep,oo⟩:=Bd (H:=H) lo dd
    refine⟨.ref s.heap.objs.size,aJ H s.heap.objs.size (bN s.heap.objs.size (c7 l) ep),I.laid keep (Qm _) ?_,rfl,k _ l ep N U fun q hq=>?_⟩
    ·exact oo
    ·obtain⟨i,d⟩:=List.mem_iff_getElem?.mp hq;obtain⟨x,J,t,_,m,h⟩:=Paired.at j d;exact h
end
end KP
namespace KP
open PySem.Spec L2 DL DC ST SL OB SD EL
abbrev K3:=D × List CK × Int
def fP(b:V)(a:J8)(n:Int):List (Str × V):=[("floor",b),("sights",.ref a),("looks",.int n)]
structure KA(K:PySem.W.Frag)(C:J8)(F:J8->Prop)(H:Hp)(p a dx:J8)(vf:V)(l:List CB)(ep:Nat)(b:K3):Prop where
 hp:H p=some (.ins C dx (fP vf a b.2.2))
 rf:aS K F H b.1 vf
 cd:Cd K H a l ep
 el:l.map (·.1)=b.2.1
 np:¬ F p
 na:¬ F a
def Kv(K:PySem.W.Frag)(C:J8)(F:J8->Prop)(H:Hp)(p:J8)(b:K3)(φ:J8->Prop):Prop:=∃ a dx vf l ep,KA K C F H p a dx vf l ep b/\∀ x,φ x ↔ x=p ∨ x=a
theorem Cd.stay{K:PySem.W.Frag}{F d:J8->Prop}{H b:Hp}{a:J8}{l:List CB}{ep:Nat}(h:Cd K H a l ep)(T:bJ K F d H b)(s:b a=some (bN a (c7 l) ep)):Cd K b a l ep:=⟨s,fun p c=>(h.ky p c).stay T,h.nd,h.ln⟩
def kK(K:PySem.W.Frag)(C:J8):dS K K3 where
 cl:=fun _=>C
 fn:=fun _=>["floor","sights","looks"]
 At:=Kv K C
 own:=fun⟨a,dx,vf,l,ep,h,hφ⟩=>⟨(hφ _).mpr (.inl rfl),fun x b=>by
  rcases(hφ x).mp b with rfl | rfl
  ·exact⟨by rw [h.hp];simp,h.np⟩
  ·exact⟨by rw [h.cd.at_];simp,h.na⟩⟩
 ins:=fun⟨a,dx,vf,l,ep,h,hφ⟩=>⟨dx,_,h.hp,rfl⟩
 keep:=fun⟨a,dx,vf,l,ep,h,hφ⟩ T s n=>⟨a,dx,vf,l,ep,⟨s _ _ ((hφ _).mpr (.inl rfl)) h.hp,h.rf.stay T,h.cd.stay T (s _ _ ((hφ _).mpr (.inr rfl)) h.cd.at_),h.el,n _ ((hφ _).mpr (.inl rfl)),n _ ((hφ _).mpr (.inr rfl))⟩,hφ⟩
section
variable {K:PySem.W.Frag}{C:J8}
theorem LG(vf:V)(a:J8)(n:Int):(fP vf a n).lookup ("floor":Str)=some vf:=rfl
theorem uJ(b:V)(a:J8)(n:Int):(fP b a n).lookup ("sights":Str)=some (.ref a):=by
 unfold fP;rw [QT,show(("sights":Str) == ("floor":Str))=false from by decide,QT,show(("sights":Str) == ("sights":Str))=true from by decide]
theorem LH(b:V)(a:J8)(n:Int):(fP b a n).lookup ("looks":Str)=some (.int n):=by
 unfold fP;rw [QT,show(("looks":Str) == ("floor":Str))=false from by decide,QT,show(("looks":Str) == ("sights":Str))=false from by decide,QT,show(("looks":Str) == ("looks":Str))=true from by decide]
theorem Ms(b v:V)(a:J8)(n:Int):cP "floor" v (fP b a n)=fP v a n:=by
 unfold fP cP;rw [if_pos rfl]
theorem Mt(b:V)(a:J8)(n m:Int):cP "looks" (.int m) (fP b a n)=fP b a m:=by
 unfold fP cP;rw [if_neg (by decide)];unfold cP;rw [if_neg (by decide)];unfold cP;rw [if_pos rfl]
def jL:K3->Option D:=fun b=>some b.1
def xG:K3->Option D:=fun b=>some (.int b.2.2)
def Fc:K3->D->Option K3:=fun b d=>some (d,b.2)
def B9:K3->D->Option K3:=fun b d=>match d with
 | .int n=>some (b.1,b.2.1,n)
 | _=>none
theorem p8:A0 (kK K C) C "floor" jL:=fun b q=>by
 obtain⟨a,e,c,l,f,h,d⟩:=b;cases q
 exact⟨e,_,c,h.hp,LG _ _ _,h.rf⟩
theorem Fq:A0 (kK K C) C "looks" xG:=fun b q=>by
 obtain⟨a,d,e,l,f,h,c⟩:=b;cases q
 exact⟨d,_,_,h.hp,LH _ _ _,.int _⟩
theorem G0{F:J8->Prop}{H:Hp}{p a d:J8}{f c:V}{l:List CB}{ep:Nat}{b b':K3}(h:KA K C F H p a d f l ep b)(z:∀ a,F a->H a≠none)(e:b'.2.1=b.2.1)(r:aS K F H b'.1 c):KA K C F (aJ H p (.ins C d (fP c a b'.2.2))) p a d c l ep b':=by
 have T:bJ K F F H (aJ H p (.ins C d (fP c a b'.2.2))):=(qA (φ:=fun _=>True) z h.hp kG.1 kG.2 h.np trivial).st;have g:a≠p:=Cn h.cd.at_ h.hp (by intro w;cases w)
 exact⟨cO,r.stay T,h.cd.stay T (by rw [aX g];exact h.cd.at_),h.el.trans e.symm,h.np,h.na⟩
theorem M5:A7 (kK K C) C "floor" Fc:=fun{F H p b b' φ d v} zz r q z=>by
 obtain⟨a,e,g,l,f,h,c⟩:=zz;cases q
 exact⟨e,_,h.hp,(show 3<1000 by decide),a,e,_,l,f,by rw [Ms];exact G0 (b':=(d,b.2)) h z rfl r,c⟩
theorem M6:A7 (kK K C) C "looks" B9:=fun{F H p b b' φ d v} zz r q z=>by
 obtain⟨a,e,f,l,g,h,c⟩:=zz
 cases d with
 | int n=>
  cases q;cases r
  exact⟨e,_,h.hp,(show 3<1000 by decide),a,e,f,l,g,by rw [Mt];exact G0 (b':=(b.1,b.2.1,n)) h z rfl h.rf,c⟩
 | _=>cases q
end
def kR(j:Nat)(ge:aA->Option D):GX K3 D:=fun c a=>(ge c).bind fun d=>(jX d).bind fun k=>(a[j]?).bind fun b=>some (.bool (decide (k∈b.2.1)),a)
def CH(j:Nat)(ge:aA->Option D):GS K3:=fun a c=>(ge a).bind fun d=>(jX d).bind fun k=>(c[j]?).bind fun b=>if k∈b.2.1 then some (.nx a (c.set j (b.1,b.2.1.erase k,b.2.2)))else none
def CI(j:Nat)(ge:aA->Option D):GS K3:=fun a c=>(ge a).bind fun d=>(jX d).bind fun k=>(c[j]?).bind fun b=>if k∉b.2.1/\b.2.1.length<1000 then some (.nx a (c.set j (b.1,b.2.1++[k],b.2.2)))else none
def Km(j:Nat):GX K3 D:=fun _ a=>(a[j]?).bind fun b=>(jG [.list (b.2.1.map fun k=>jY (.inr k))]).bind fun d=>some (d,a)
theorem Og{l:List CB}{k:CK}(b:(l.map (·.1)).Nodup)(h:k∈l.map (·.1)):∃ j c,l[j]?=some (k,c)/\(l.eraseIdx j).map (·.1)=(l.map (·.1)).erase k:=by
 induction l with
 | nil=>cases h
 | cons p l a=>
  by_cases e:p.1=k
  ·refine⟨0,p.2,by rw [<- e];rfl,?_⟩
   rw [Qp,e,List.erase_cons_head];rfl
  ·have g:k∈l.map (·.1):=by
    rcases Ql.mp h with h | h
    ·exact absurd h.symm e
    ·exact h
   obtain⟨j,c,f,d⟩:=a (Yc.mp b).2 g
   refine⟨j+1,c,f,?_⟩
   rw [Qp,List.erase_cons_tail (by simpa using e),List.eraseIdx_cons_succ,Qp,d]
section
variable {X:Cx}{C:J8}{τ:List (Nat × Nat)}{e:Expr}{ge:aA->Option D}{pos p:Pos}
theorem Hd(r:(i,j)∈τ)(G:fC X.K C)(p:iC X.K C "sights")(q:iL (kK X.K C) τ (kR j ge) σ H Q):nG (DN X.K) (tD X.K ge) (DV X.K (Ai i) "sights") σ H Q:=by
 obtain⟨F,e,g,N,n,d,m,S,q,c⟩:=q;obtain⟨E,A,q⟩:=aE q;obtain⟨k,z,q⟩:=aE q;obtain⟨b,y,q⟩:=aE q;cases q
 refine⟨F,e,g,E,S.S,A,fun M J v f I=>?_⟩
 have S1:=S.ext f;obtain⟨o,w,a,B,O,l,x,h,t⟩:=iG S1.o.at_ y;obtain⟨s,rfl,u⟩:=sO I z
 refine⟨_,S1.hd i j r o w,o.1,C,B,_,_,rfl,h.hp,G,p,uJ _ _ _,a,s,l,x,k,rfl,rfl,u,h.cd,?_⟩
 rw [h.el];exact c M J _ n (bM.ext S.S.fz f) S1 (.bl _)
variable {i j:Nat}{x:Str}{ap:Pos}(hu:X.A.units+65<Zi)(mm:(i,j)∈τ)(cl:fC X.K C)(nf:iC X.K C "sights")(he:DE X e ge)(hN:X.N[i]?=some x)(hv:fY X.env.scope x)(hd:(x == ("__debug__":Str))=false)(hcd:(x == ("__classdict__":Str))=false)(hb:ZM (.Name x p) "sights" X.env (Zr (.Name x p) X.env)=Zr (.Name x p) X.env)
include hu mm cl nf he hN hv hd hcd hb
theorem VZ(a:ZR .In (.Attribute (.Name x p) "sights" ap)=false):XE (kK X.K C) τ (.Compare e [.In] [.Attribute (.Name x p) "sights" ap] pos) (kR j ge):=
 cR (GW (GF hu) he (qJ (fS hN hv hd hcd) hb) a) fun _ _ _ q=>Hd mm cl nf q
theorem Wa(a:ZR .In (.Attribute (.Name x p) "sights" ap)=false):XT (kK X.K C) τ (.Compare e [.In] [.Attribute (.Name x p) "sights" ap] pos) (xB (kR j ge)):=
 lC (BQ (GF hu) he (qJ (fS hN hv hd hcd) hb) a) fun _ _ _ q=>Cg (fun _ _ _=>Hd mm cl nf) q
omit hu he hN hv hd hcd hb in
theorem GZ{F:J8->Prop}{H H₀:Hp}{e:L2.St}{ρ:aA}{Ω:List K3}{os:List Oa}{o:Oa}{a g:J8}{f:V}{l l':List CB}{ep ep':Nat}{b:K3}(S:SO (kK X.K C) τ F H H₀ e ρ Ω os)(s:os[j]?=some o)(h:KA X.K C F H o.1 a g f l ep b)(c:∀ x,o.2 x ↔ x=o.1 ∨ x=a)
  (n:∀ p∈l',eX X.K H (.inr p.1) p.2) (k:(l'.map (·.1)).Nodup) (m:l'.length<=1000):SO (kK X.K C) τ F (aJ H a (bN a (c7 l') ep')) H₀ e ρ (Ω.set j (b.1,l'.map (·.1),b.2.2)) (os.set j (o.1,o.2))/\bM X.K os (os.set j (o.1,o.2)) F F H (aJ H a (bN a (c7 l') ep')):=by
 have d:c5 X.K o.2 F F H (aJ H a (bN a (c7 l') ep')):=qA S.S.fz h.cd.at_ GB.1 GB.2 h.na ((c a).mpr (.inr rfl));have i:o.1≠a:=Cn h.hp h.cd.at_ (by intro w;cases w);exact S.turn s d (fun x q=>.inl q) ⟨a,g,f,l',ep',⟨by rw [aX i];exact h.hp,h.rf.stay d.st,⟨cO,fun p r=>(n p r).stay d.st,k,m⟩,rfl,h.np,h.na⟩,c⟩
theorem V6(hs:Za [e] X.env=(false,Zr e X.env)::Za [] X.env)(y:ZM (.Attribute (.Name x p) "sights" ap) "pop" X.env (Zr (.Attribute (.Name x p) "sights" ap) X.env)=Zr (.Attribute (.Name x p) "sights" ap) X.env)
  (g:((Zw cp (Za [e] X.env)).all (fun x => !x.1) && (Um cp (ZS [] X.env)).all (fun x=>x.1.isSome) && decide ([e].length+([]:List Uw).length+(if([]:List Uw).isEmpty then 0 else 1)<30))=true)
  (U:(mp.endLine == cp.line)=true) (t:(Zw cp (Za [] X.env)).any (·.1)=false) (s:ZI (.Call (.Attribute (.Attribute (.Name x p) "sights" ap) "pop" mp) [e] [] cp) none pos.line X.env=pure false):
  XS (kK X.K C) τ (.Expr (.Call (.Attribute (.Attribute (.Name x p) "sights" ap) "pop" mp) [e] [] cp) pos) (CH j ge):=
 ps_mono (qK (R8 PySem.F.slot_dict_pop PySem.F.type_dict_pop (Pr hu) (qJ (fS hN hv hd hcd) hb) (gY he iV hs) y g U hs t) s) fun W N H Q=>by
  obtain⟨n,J,m,F,O,Ω,os,o,K0,S,q,c⟩:=Q;obtain⟨d1,e1,q⟩:=aE q;obtain⟨k,Z,q⟩:=aE q;obtain⟨b,Y,q⟩:=aE q;by_cases w:k∈b.2.1
  ·rw [if_pos w]at q;cases q;obtain⟨o,E,a,G,R,l,A,h,r⟩:=iG S.o.at_ Y
   refine⟨_,S.hd i j mm o E,o.1,C,G,_,_,rfl,h.hp,cl,nf,uJ _ _ _,⟨a,_,A,rfl,h.cd.at_⟩,F,m,O,d1,S.S,e1,fun M H1 v E1 R1=>?_⟩
   have S1:=S.ext E1;have d:KA X.K C M H1 o.1 a G R l A b:=⟨E1.same _ _ h.hp,h.rf.stay E1.stay,h.cd.stay E1.stay (E1.same _ _ h.cd.at_),h.el,(fun f=>(E1.new _ f).elim h.np fun z=>by rw [h.hp]at z;cases z.1),(fun f=>(E1.new _ f).elim h.na fun z=>by rw [h.cd.at_]at z;cases z.1)⟩;obtain⟨T,rfl,u⟩:=sO R1 Z;obtain⟨B,cc,g1,g2⟩:=Og d.cd.nd (by rw [d.el];exact w)
   refine⟨a,T,l,A,k,B,cc,rfl,rfl,u,d.cd,g1,fun ep'=>?_⟩
   obtain⟨I,K2⟩:=GZ (X:=X) mm cl nf (ep':=ep') (l':=l.eraseIdx B) S1 E d r (fun p t=>d.cd.ky p (List.mem_of_mem_eraseIdx t)) (by rw [g2];exact d.cd.nd.erase _) (QJ (List.length_eraseIdx_le _ _) d.cd.ln);rw [g2,d.el]at I;exact c M _ N _ (K0.trans ((bM.ext S.S.fz E1).trans K2)) (E1.stay.trans K2.k.st) I
  ·rw [if_neg w]at q;cases q
theorem V7(hs:ZI (.Constant (.bool true) jj vp) (some (.Subscript (.Attribute (.Name x p) "sights" ap) e tp)) pos.line X.env=pure false):
  XS (kK X.K C) τ (.Assign [.Subscript (.Attribute (.Name x p) "sights" ap) e tp] (.Constant (.bool true) jj vp) pos) (CI j ge):=
 ps_mono (Vv hu (qJ (fS hN hv hd hcd) hb) he hs) fun W M H O=>by
  obtain⟨s,I,n,F,N,Ω,os,o,K0,S,q,c⟩:=O;obtain⟨d1,Z,q⟩:=aE q;obtain⟨k,Y,q⟩:=aE q;obtain⟨b,U,q⟩:=aE q;by_cases r:k∉b.2.1/\b.2.1.length<1000
  ·rw [if_pos r]at q;cases q;obtain⟨o,w,a,E,Q,l,A,h,u⟩:=iG S.o.at_ U
   refine⟨_,S.hd i j mm o w,o.1,C,E,_,_,rfl,h.hp,cl,nf,uJ _ _ _,F,n,N,d1,S.S,Z,fun J H1 v E1 R1=>?_⟩
   have S1:=S.ext E1;have d:KA X.K C J H1 o.1 a E Q l A b:=⟨E1.same _ _ h.hp,h.rf.stay E1.stay,h.cd.stay E1.stay (E1.same _ _ h.cd.at_),h.el,(fun f=>(E1.new _ f).elim h.np fun z=>by rw [h.hp]at z;cases z.1),(fun f=>(E1.new _ f).elim h.na fun z=>by rw [h.cd.at_]at z;cases z.1)⟩;obtain⟨t,rfl,m⟩:=sO R1 Y
   refine⟨a,t,l,A,k,rfl,rfl,m,d.cd,by rw [d.el];exact r.1,fun ep'=>?_⟩
   have B:(l++[(k,t)]).map (·.1)=b.2.1++[k]:=by rw [Yd,d.el];rfl
   obtain⟨G,K2⟩:=GZ (X:=X) mm cl nf (ep':=ep') (l':=l++[(k,t)]) S1 w d u (fun p g=>by
    rcases QC.mp g with g | g
    ·exact d.cd.ky p g
    ·rw [QF.mp g];exact m) (by
    rw [B,List.nodup_append]
    refine⟨by rw [<- d.el];exact d.cd.nd,by simp,fun x T y R z=>?_⟩
    rw [QF.mp R]at z
    exact r.1 (z ▸ T)) (by
    rw [Qo,Yk,<- Qi (f:=(·.1)),d.el]
    lia)
   rw [B]at G;exact c J _ M _ (K0.trans ((bM.ext S.S.fz E1).trans K2)) (E1.stay.trans K2.k.st) G
  ·rw [if_neg r]at q;cases q
omit he in
theorem V0(U:X.calm=true)(n:X.A.units+66<Zi)(u:Gl X "sorted")(s:X.mg "sorted"=none)(w:Gl X "list")(t:X.mg "list"=none)
  (B:Za [.Call (.Name "list" lp) [.Attribute (.Name x p) "sights" ap] [] cp] X.env=(false,Zr (.Call (.Name "list" lp) [.Attribute (.Name x p) "sights" ap] [] cp) X.env)::Za [] X.env) (z:Za [.Attribute (.Name x p) "sights" ap] X.env=(false,Zr (.Attribute (.Name x p) "sights" ap) X.env)::Za [] X.env)
  (Y:(Zw pos (Za [] X.env)).any (·.1)=false) (W:(Zw cp (Za [] X.env)).any (·.1)=false):
  XE (kK X.K C) τ (.Call (.Name "sorted" sp) [.Call (.Name "list" lp) [.Attribute (.Name x p) "sights" ap] [] cp] [] pos) (Km j):=
 cR (BH (Ex n) u s Vo (gY (BI (Oc U) w t boot_list (gY (qJ (fS hN hv hd hcd) hb) iV z) (by decide) (by decide) z W) iV B) (by decide) (by decide) B Y) fun σ H Q J=>by
  obtain⟨F,E,ρ,Ω,N,d,I,S,q,c⟩:=J;obtain⟨b,e1,q⟩:=aE q;obtain⟨d',e2,q⟩:=aE q;cases q;obtain⟨o,T,a,dx,vf,l,Z,h,m⟩:=iG S.o.at_ e1
  refine⟨_,S.hd i j mm o T,o.1,C,dx,_,_,rfl,h.hp,cl,nf,uJ _ _ _,a,_,Z,rfl,h.cd.at_,by unfold c7;rw [Qi];exact h.cd.ln,fun f R=>?_⟩
  have E1:aI F (fun y=>F y ∨ y=f) H (aJ H f (.lst ((c7 l).map fun e=>V.ref e.2.1))):=aI.frozen R;have S1:=S.ext E1
  have M:Reps X.K (fun y=>F y ∨ y=f) (aJ H f (.lst ((c7 l).map fun e=>V.ref e.2.1))) (b.2.1.map fun k=>jY (.inr k)) ((c7 l).map fun e=>V.ref e.2.1):=by
   rw [<- h.el];have g:=fun q r=>(h.cd.ky q r).stay E1.stay
   revert g
   generalize (fun y=>F y ∨ y=f)=F1;generalize aJ H f (.lst ((c7 l).map fun e=>V.ref e.2.1))=H1;intro g;clear h m S1 E1
   induction l with
   | nil=>exact .nil
   | cons p l O=>exact .cons (IC (g p Qk)) (O fun q r=>g q (Qf _ r))
  refine⟨fun y=>F y ∨ y=f,[.list (b.2.1.map fun k=>jY (.inr k))],d,S1.S.fz,.cons (.lst (.inl ⟨.inr rfl,.inl cO⟩) M) .nil,e2,fun F2 H2 v G R2=>?_⟩
  exact c F2 H2 v N (bM.ext S.S.fz (E1.trans G)) (S1.ext G) R2
end
end KP
namespace SC
open PySem.SetTable L2 DL DC KP
section
variable {prog:Zd}{w:Zf}{A:Around}{E:YP->J9->Prop}{s:J9}
theorem GA(m:bS prog w s.heap k a)(h:Q false s):Zb (Zc prog w) A (Ub 8 (.ref a)) Q E s:=by
 have y:=m.typeIs;obtain⟨o,i,n,q,_,x,bs,z,u⟩:=m;unfold Ub;refine Qa (Jg y ?_)
 show Zb _ _ (do let c <- (if("tuple" == "tuple")=true then pure true else isSubtype (.type "tuple") (.type "tuple"));_) Q E s
 refine Qa ?_;rw [if_pos (by decide)];refine Qb ?_;simp only [Q0,Qg,if_false];refine Qa (Ji q x ?_);dsimp only;refine Qa ?_;rw [<- YG,z];refine Yo _ (fun d r g=>r.1=none/\g=s/\∃(f:CK) (e:List J8),d=e.map Ze/\Paired (fun p b=>(cI prog w).is s.heap p b) f e) _ ?_ ?_ _ _ ⟨rfl,rfl,k,bs,rfl,u⟩
 ·rintro v d r g ⟨j,rfl,f,e,l,t⟩
  cases t with
  | nil=>cases l
  | @cons k b0 ks'' bs'' h1 hl'=>
   rw [Qp]at l
   injection l with er1 er2
   subst er1;refine Qa (ST.no_classN 5 h1 ?_);simp only [Q0,Qg,if_false];exact Qb ⟨rfl,rfl,ks'',bs'',er2,hl'⟩
 ·rintro⟨F,B⟩ g ⟨j,rfl,_⟩
  simp only at j
  subst j;exact Qb h
theorem N6(l:bS prog w s.heap k a)(h:Q true s):Zb (Zc prog w) A (Vl 8 (.ref a)) Q E s:=by
 have x:=l.typeIs;obtain⟨o,d,n,p,_,u,bs,y,t⟩:=l;unfold Vl;refine Qa (Jv x F.slot_tuple_hash.lookup ?_);dsimp only;refine Qa (Ji p u ?_);refine Qa ?_
 show Zb _ _ (forIn d _ _) _ _ s
 rw [<- YG,y];refine Yo _ (fun c r g=>r.1=none/\g=s/\∃(f:CK) (e:List J8),c=e.map Ze/\Paired (fun m b=>(cI prog w).is s.heap m b) f e) _ ?_ ?_ _ _ ⟨rfl,rfl,k,bs,rfl,t⟩
 ·rintro v c r g ⟨i,rfl,f,e,j,q⟩
  cases q with
  | nil=>cases j
  | @cons k b0 ks'' bs'' h1 hl'=>
   rw [Qp]at j
   injection j with er1 er2
   subst er1;refine Qa (ST.by_valueN 5 h1 ?_);simp only [Q0,Qg,if_false];exact Qb ⟨rfl,rfl,ks'',bs'',er2,hl'⟩
 ·rintro⟨B,z⟩ g ⟨i,rfl,_⟩
  simp only at i
  subst i;exact Qb h
theorem xY{k:CK}{a:J8}{d:List YP}{Q:Bool->J9->Prop}(m:bS prog w s.heap k a)(hs:∀ y∈d,∃ k' b,y=.ref b/\bS prog w s.heap k' b)(h:Q false s):
  Zb (Zc prog w) A (UI (.ref a) d) Q E s:=by
 unfold UI;refine Qa ?_;refine Yo _ (fun e r i=>r.1=none/\i=s/\∀ y∈e,∃ k' b,y=.ref b/\bS prog w s.heap k' b) _ ?_ ?_ _ _ ⟨rfl,rfl,hs⟩
 ·rintro v e r i ⟨l,rfl,g⟩;have f:∀ y∈e,∃ k' b,y=.ref b/\bS prog w i.heap k' b:=fun u j=>g u (Qf _ j);obtain⟨k',b,rfl,n⟩:=g v Qk;dsimp only;by_cases c:(a == b)=true
  ·rw [c];simp only [Bool.true_or,if_true];exact Qb ⟨rfl,rfl,f⟩
  ·rw [if_neg (by simp [carriedByValue,c])];refine Qa (Bg m ?_);simp only [Q0,Qg,if_false];refine Qa (Bg n ?_);simp only [Q0,Qg,if_false];refine Qa (GA m ?_);simp only [Qg,if_false];refine Qa (GA n ?_);simp only [Qg,if_false];exact Qb ⟨rfl,rfl,f⟩
 ·rintro⟨p,o⟩ i ⟨l,rfl,_⟩
  simp only at l
  subst l;exact Qb h
end
end SC
namespace SC
open PySem.SetTable L2 DL DC KP
open ST (P TOk go_probe slot_live slot_spec met)
section
variable {prog:Zd}{w:Zf}{A:Around}{E:YP->J9->Prop}{s:J9}
inductive Ents(prog:Zd)(w:Zf)(h:Heap):List (Int × YP)->List CK->Prop
 | nil:Ents prog w h [] []
 | cons {k:CK}{b:J8}{es:List (Int × YP)}{ks:List CK}:bS prog w h k b->Ents prog w h es ks->Ents prog w h ((aZ prog w k,.ref b)::es) (k::ks)
theorem Ents.at(X:Ents prog w h es ks):∀{i:Nat}{e:Int × YP},es[i]?=some e->∃ k b,ks[i]?=some k/\e=(aZ prog w k,.ref b)/\bS prog w h k b:=by
 induction X with
 | nil=>intro i e h;simp at h
 | @cons k b es ks h1 _ ih=>
  intro i e h
  cases i with
  | zero=>cases h;exact⟨k,b,rfl,rfl,h1⟩
  | succ i=>exact ih (i:=i) (by simpa using h)
theorem Ents.length(X:Ents prog w h es ks):es.length=ks.length:=by
 induction X with
 | nil=>rfl
 | cons _ _ a=>simp [a]
theorem Ents.append(X:Ents prog w h es ks)(Y:Ents prog w h es' ks'):Ents prog w h (es++es') (ks++ks'):=by
 induction X with
 | nil=>exact Y
 | cons b _ a=>exact .cons b a
theorem Ents.take(X:Ents prog w h es ks):∀ n,Ents prog w h (es.take n) (ks.take n):=by
 induction X with
 | nil=>intro n;simpa using Ents.nil
 | cons b _ a=>
  intro n
  cases n with
  | zero=>exact .nil
  | succ n=>exact .cons b (a n)
theorem Ents.drop(X:Ents prog w h es ks):∀ n,Ents prog w h (es.drop n) (ks.drop n):=by
 induction X with
 | nil=>intro n;simpa using Ents.nil
 | @cons k b es ks h1 hr ih=>
  intro n
  cases n with
  | zero=>exact .cons h1 hr
  | succ n=>exact ih n
theorem Ents.mono(X:Ents prog w h es ks)(m:∀ k b,bS prog w h k b->bS prog w h' k b):Ents prog w h' es ks:=by
 induction X with
 | nil=>exact .nil
 | cons c _ a=>exact .cons (m _ _ c) a
theorem Ents.pick(X:Ents prog w h es ks):∀(l:List Nat),(∀ i∈l,i<es.length)->Ents prog w h (l.filterMap (es[·]?)) (l.filterMap (ks[·]?)):=by
 intro l
 induction l with
 | nil=>intro _;exact .nil
 | cons i l d=>
  intro a;have c:=a i Qk;obtain⟨k,b,m,g,f⟩:=X.at (Qe c);rw [Jh (b:=(aZ prog w k,Ze b)) (by rw [Qe c,g]),Jh (b:=k) m];exact .cons f (d fun j e=>a j (Qf _ e))
theorem tQ
  (hu:A.units+6<Zi) (U:s.heap.get? a=some o) (hd:o.data=.set es ep t) (T:TOk t (es.toList.map (·.1))) (X:Ents prog w s.heap es.toList ks) (Z:bS prog w s.heap k x)
  (h1:(P t.mask (aZ prog w k) n).j∉t.place.toList) (h2:∀ m,m<n->(P t.mask (aZ prog w k) m).j∈t.place.toList)
  (q1:k∈ks->Q (.there none) s) (q2:k∉ks->Q (.free (P t.mask (aZ prog w k) n).j false) s):
  ∀ fuel c,c<=n->n<10 * Ve t.mask->n-c<fuel->(∀ m,m<c->∀ i,t.slot (P t.mask (aZ prog w k) m).j=.live i->ks[i]?≠some k)->∀ stand:Option Probe,stand.getD (t.probeStart (aZ prog w k))=P t.mask (aZ prog w k) c->
  Zb (Zc prog w) A (Ut a (.ref x) (aZ prog w k) true fuel stand) Q E s
 | 0,c,_,_,hf,_,_,_=>absurd hf (Yy _)
 | fuel+1,c,hc,hN,hf,inv,stand,hst=>by
  have r:t.fits es.size=true:=T.fits (by simp);unfold Ut;refine Qa (QK U hd r ?_);dsimp only;rw [hst,if_neg (by rw [T.odd];exact Qr)];refine Qa (Qb ?_);generalize N:t.probe _ (aZ prog w k) (P t.mask (aZ prog w k) c)=met;obtain⟨f,a4,N⟩:∃ f:Nat->Int,(∀ i,f i=(es[i]?.map (·.1)).getD 0)/\t.probe f (aZ prog w k) (P t.mask (aZ prog w k) c)=met:=⟨_,fun _=>rfl,N⟩
  have H:∀ m i,t.slot (P t.mask (aZ prog w k) m).j=.live i->f i≠aZ prog w k->ks[i]?≠some k:=fun m i F W Y=>by
   have S:=slot_live T.dum T.up F
   have q:i<es.toList.length:=by
    have:=(Qc.mp S).1
    rw [T.len]at this
    simpa using this
   obtain⟨B,b,u,M,e3⟩:=X.at (Qe q);rw [Y]at u;cases u;apply W;rw [a4,<- QA,Qe q,M];rfl
  have a3:=go_probe (hashAt:=f) T h1 h2 (10 * Ve t.mask) c hc (by lia);rcases a3 with⟨g1,g2⟩ | ⟨m,i,g1,g2,g3,g4,g5,g6⟩
  ·have:met=some (.empty (P t.mask (aZ prog w k) n).j none):=N.symm.trans g1
   subst this;dsimp only;refine Qb (q2 fun J=>?_);obtain⟨i,F⟩:=QQ J
   have q:i<es.toList.length:=by rw [X.length];exact(Qc.mp F).1
   obtain⟨B,b,u,M,e3⟩:=X.at (Qe q);rw [F]at u;cases u
   have I:i<t.place.toList.length:=by rw [T.len];simpa using q
   obtain⟨m,hm,hj⟩:=met T h1 (Qe I) (h:=aZ prog w k) (by rw [QE,Qe q,M];rfl);obtain⟨p,z,d⟩ | ⟨_,d⟩:=slot_spec T.dum T.up (P t.mask (aZ prog w k) m).j
   ·have a0:p=i:=by
     rw [hj]at d;have a1:=Qe I;by_cases R:p<i
     ·have:=T.up.at d a1 R;lia
     ·by_cases O:i<p
      ·have:=T.up.at a1 d O;lia
      ·lia
    subst a0;by_cases cm:m<c
    ·exact inv m cm p z F
    ·exact H m p z (g2 m (by lia) hm p z) F
   ·rw [hj]at d;exact d (YJ _)
  ·have:met=some (.candidate (P t.mask (aZ prog w k) m).j i (P t.mask (aZ prog w k) (m+1))):=N.symm.trans g6
   subst this;have S:=slot_live T.dum T.up g3
   have q:i<es.toList.length:=by
    have:=(Qc.mp S).1
    rw [T.len]at this
    simpa using this
   obtain⟨B,b,u,M,e3⟩:=X.at (Qe q)
   have K:es[i]?=some (aZ prog w B,.ref b):=by rw [<- QA,Qe q,M]
   dsimp only
   have v:∀ y∈(es.filter (fun x=>x.1 == aZ prog w k)).toList.map (fun x=>x.2),∃ B b,y=.ref b/\bS prog w s.heap B b:=fun y hy=>by
    obtain⟨e,he,rfl⟩:=QM.mp hy
    have a5:e∈es.toList:=by
     rw [Array.toList_filter]at he
     exact(Ym.mp he).1
    obtain⟨i2,a2⟩:=QQ a5;obtain⟨k2,b2,_,z2,z3⟩:=X.at a2
    exact⟨k2,b2,by rw [z2],z3⟩
   split
   all_goals try (refine Qa (xY Z v ?_);rw [if_neg Qr])
   all_goals
    rw [K];dsimp only;refine Qa (Q7 (EA hu e3 Z ?_));refine Qa (QK U hd r ?_);dsimp only;by_cases g:B=k
    ·rw [if_pos (by simp [g])];exact Qb (q1 (g ▸ QN u))
    ·rw [if_neg (by simp [g]),show t.sameMemory t.moves t.mask=some true by unfold sameMemory;simp];dsimp only;rw [if_pos rfl,g3];dsimp only;rw [K];dsimp only;refine Qa (UM ?_);simp only [if_true];refine Qa (Qb ?_);dsimp only;rw [if_neg (by simp [g])];refine tQ hu U hd T X Z h1 h2 q1 q2 fuel (m+1) (by lia) hN (by lia) (fun G a6 p l=>?_) _ rfl;by_cases R:G<c
     ·exact inv G R p l
     ·by_cases O:G=m
      ·subst O;rw [g3]at l;cases l;rw [u];exact fun e=>g (QB e)
      ·exact H G p l (g5 G (by lia) (by lia) p l)
end
end SC
namespace SC
open PySem.SetTable L2 DL DC KP
open ST (P TOk Good ledW hs_pick relaid_ok free_at put_ok insertAt_list)
section
variable {prog:Zd}{w:Zf}{A:Around}{E:YP->J9->Prop}{s:J9}
theorem EC(j:h.get? a=some o)(l:o.data=.set es ep t)(hs:Zk a h h')(x:bS prog w h k b):bS prog w h' k b:=by
 obtain⟨i,c,n,f,m,d,bs,e,r⟩:=x
 have g:b≠a:=by
  rintro rfl
  obtain rfl:i=o:=QB (f.symm.trans j)
  rw [l]at d;exact nomatch d
 exact⟨i,c,n,(hs.2 b g).trans f,m,d,bs,e,Paired.mapP r fun _ _ q=>ST.TK.keep j l hs q⟩
def SetT(prog:Zd)(w:Zf)(V:YP->Prop)(h:Heap)(a:J8)(b:List CK):Prop:=
 ∃ o es ep t,h.get? a=some o/\o.ExactSet/\o.data=.set es ep t/\TOk t (es.toList.map (·.1))/\(t.plain=true/\t.led=ledW w)/\Ents prog w h es.toList b/\b.Nodup/\∀ e∈es.toList,V e.2
theorem BW(T:TOk t hs)(b:(t.place.toList.length+1) * 5 >= t.mask * 3)(c:t.place.toList.length+1<=152):
  ∃ M,Zo (Vq (t.place.toList.length+1))-1=M/\Good M/\(t.place.toList.length+1) * 5<M * 3/\¬ Zo (Vq (t.place.toList.length+1)) > sizeLine:=by
 have a:=T.room;rcases T.good with g | g | g | g | g | g | g
 ·rw [g]at a b
  have e:t.place.toList.length+1=5:=by lia
  rw [e]
  exact⟨31,by decide,.inr (.inl rfl),by decide,by rw [Q5];decide⟩
 ·rw [g]at a b
  have e:t.place.toList.length+1=19:=by lia
  rw [e]
  exact⟨127,by decide,.inr (.inr (.inl rfl)),by decide,by rw [Q5];decide⟩
 ·rw [g]at a b
  have e:t.place.toList.length+1=77:=by lia
  rw [e]
  exact⟨511,by decide,.inr (.inr (.inr (.inr (.inr (.inr rfl))))),by decide,by rw [Q5];decide⟩
 ·rw [g]at a b
  have e:t.place.toList.length+1=9:=by lia
  rw [e]
  exact⟨63,by decide,.inr (.inr (.inr (.inr (.inl rfl)))),by decide,by rw [Q5];decide⟩
 ·rw [g]at a b
  have e:t.place.toList.length+1=38:=by lia
  rw [e]
  exact⟨255,by decide,.inr (.inr (.inr (.inr (.inr (.inl rfl))))),by decide,by rw [Q5];decide⟩
 ·rw [g]at a b;lia
 ·rw [g]at a b;lia
theorem wR{V:YP->Prop}{a:J8}{o:Obj}{es:Array (Int × YP)}{ep:Nat}{t:SetTable}{ks:List CK}{d M:Nat}{Q:Unit->J9->Prop}
  (v:s.heap.get? a=some o) (y:o.ExactSet) (r:o.data=.set es ep t) (p:t.fits es.size=true) (z:t.plain=true/\t.led=ledW w) (X:Ents prog w s.heap es.toList ks) (x:ks.Nodup) (O:∀ e∈es.toList,V e.2)
  (R:Zo d-1=M) (g:Good M) (I:es.size * 5<M * 3) (hz:¬ Zo d > sizeLine) (hsz:es.size<=sizeLine)
  (h:∀ h' ks',Zk a s.heap h'->SetT prog w V h' a ks'->List.Perm ks' ks->Q () { s with heap:=h' }):
  Zb (Zc prog w) A (setRelay a d) Q E s:=by
 obtain⟨l,c,H,u,G,F,B⟩:=relaid_ok (t:=t) (hs:=es.map (·.1)) R g (by simpa using I)
 have n:∀ i∈c.toList,i<es.toList.length:=fun i J=>by
  have:=QY.mp (u.mem_iff.mp J)
  simpa using this
 have q:(c.filterMap (es[·]?)).toList=c.toList.filterMap (es.toList[·]?):=by
  rw [Y6];congr 1
  funext i
  rw [QA]
 have j:List.Perm (c.filterMap (es[·]?)).toList es.toList:=by
  rw [Y6]
  refine(u.filterMap _).trans ?_
  rw [YO,Uu]
 have f:(c.filterMap (es[·]?)).size=es.size:=by rw [<- Qd,j.length_eq,Qd]
 unfold setRelay;refine Qa (QK v r p ?_);dsimp only;rw [if_neg hz];rw [H];refine Qa ?_
 show Zb _ _ (if((c.filterMap (es[·]?)).size != es.size)=true then _ else pure (c.filterMap (es[·]?),l)) _ _ s
 rw [if_neg (by simp [f])];refine Qb ?_;dsimp only;refine Y7 v r ?_ (by rw [f];exact hsz)
 have K:(s.heap.update a (ZA (c.filterMap (es[·]?)) l)).get? a=some { o with data:=.set (c.filterMap (es[·]?)) (ep+1) l }:=by
  have:=Ya (ZA (c.filterMap (es[·]?)) l) v (by rw [Jd _ l r];rfl)
  rw [Jd _ l r]at this;exact this
 have m:=QW s.heap a (ZA (c.filterMap (es[·]?)) l);refine h _ (c.toList.filterMap (ks[·]?)) m ⟨_,_,_,l,K,y,rfl,?_,⟨by rw [B];exact z.1,by rw [F];exact z.2⟩,?_,?_,fun e N=>O e (j.mem_iff.mp N)⟩ ?_
 ·rw [q,hs_pick _ _ n]
  simpa using G
 ·rw [q]
  exact(X.pick _ n).mono fun k b=>EC v r m
 ·have:List.Perm (c.toList.filterMap (ks[·]?)) ks:=by
   refine(u.filterMap _).trans ?_
   rw [YO,<- Qd,X.length,Yq]
  exact this.nodup_iff.mpr x
 ·refine(u.filterMap _).trans ?_
  rw [YO,<- Qd,X.length,Yq]
theorem vF{V:YP->Prop}{a x:J8}{i:List CK}{k:CK}{Q:Bool->J9->Prop}(hu:A.units+6<Zi)(S:SetT prog w V s.heap a i)(W:bS prog w s.heap k x)(hx:V (.ref x))(a0:i.length+1<=152)
  (q1:k∈i->Q false s) (Y:k∉i->∀ h' ks',Zk a s.heap h'->SetT prog w V h' a ks'->List.Perm ks' (k::i)->Q true { s with heap:=h' }):
  Zb (Zc prog w) A (setAddHashed a (.ref x) (aZ prog w k)) Q E s:=by
 obtain⟨o,r,ep,t,I,K,H,T,R,X,U,hV⟩:=S;have y:t.fits r.size=true:=T.fits (by simp)
 have p:t.place.toList.length=i.length:=by rw [T.len,Qi,X.length]
 have u:r.size=i.length:=by rw [<- X.length,Qd]
 have O:=T.room;obtain⟨n,n1,n2,Z⟩:=free_at (l:=t.place.toList) T.good (by lia) (aZ prog w k)
 have hM:t.mask<=511:=by rcases T.good with g | g | g | g | g | g | g <;> lia
 unfold setAddHashed setAddHashedIn;refine Q7 (Qa (QK I H y ?_));dsimp only;rw [if_neg (by simp [byScan,Value.scannable])];refine Qa ?_;unfold setSearch;refine tQ hu I H T X W n2 Z ?_ ?_ 100000 0 (Q8 _) n1 (by unfold Ve at n1;lia) (fun m hm=>absurd hm (Yy _)) none rfl
 ·intro d;exact Qb (q1 d)
 ·intro d;dsimp only;refine Qa (QK I H y ?_);dsimp only;rw [if_pos (show(t.put (P t.mask (aZ prog w k) n).j).1.plain=true from R.1)];refine Qa (N6 W ?_);rw [if_pos rfl]
  have q:(Zn r (t.put (P t.mask (aZ prog w k) n).j).2 (aZ prog w k,Ze x)).size=r.size+1:=by
   rw [<- Qd,(Yp _ _ _).length_eq];simp
  refine Qa (Y7 I H ?_ (by rw [q,Q5];lia))
  have hg:(s.heap.update a (ZA (Zn r (t.put (P t.mask (aZ prog w k) n).j).2 (aZ prog w k,Ze x)) (t.put (P t.mask (aZ prog w k) n).j).1)).get? a=some { o with data:=.set (Zn r (t.put (P t.mask (aZ prog w k) n).j).2 (aZ prog w k,Ze x)) (ep+1) (t.put (P t.mask (aZ prog w k) n).j).1 }:=by
   have:=Ya (ZA (Zn r (t.put (P t.mask (aZ prog w k) n).j).2 (aZ prog w k,Ze x)) (t.put (P t.mask (aZ prog w k) n).j).1) I (by rw [Jd _ _ H];rfl)
   rw [Jd _ _ H]at this;exact this
  have z:=QW s.heap a (ZA (Zn r (t.put (P t.mask (aZ prog w k) n).j).2 (aZ prog w k,Ze x)) (t.put (P t.mask (aZ prog w k) n).j).1)
  have X2:Ents prog w (s.heap.update a (ZA (Zn r (t.put (P t.mask (aZ prog w k) n).j).2 (aZ prog w k,Ze x)) (t.put (P t.mask (aZ prog w k) n).j).1)) (Zn r (t.put (P t.mask (aZ prog w k) n).j).2 (aZ prog w k,Ze x)).toList (i.take (t.put (P t.mask (aZ prog w k) n).j).2++k::i.drop (t.put (P t.mask (aZ prog w k) n).j).2):=by
   rw [insertAt_list]
   exact((X.take _).append (.cons W (X.drop _))).mono fun k b=>EC I H z
  have B:List.Perm (i.take (t.put (P t.mask (aZ prog w k) n).j).2++k::i.drop (t.put (P t.mask (aZ prog w k) n).j).2) (k::i):=by
   refine List.perm_middle.trans ?_;rw [QU]
  have v:(i.take (t.put (P t.mask (aZ prog w k) n).j).2++k::i.drop (t.put (P t.mask (aZ prog w k) n).j).2).Nodup:=B.nodup_iff.mpr (Yc.mpr ⟨d,U⟩)
  have N:∀ e∈(Zn r (t.put (P t.mask (aZ prog w k) n).j).2 (aZ prog w k,Ze x)).toList,V e.2:=fun e he=>by
   have:=(Yp r (t.put (P t.mask (aZ prog w k) n).j).2 (aZ prog w k,Ze x)).mem_iff.mp he
   rw [Jw,QC,QF]at this;rcases this with h | rfl
   ·exact hV e h
   ·exact hx
  have f:(t.put (P t.mask (aZ prog w k) n).j).1.fill=t.place.toList.length+1:=by
   show(Zn t.place (ZC t.place (P t.mask (aZ prog w k) n).j) (P t.mask (aZ prog w k) n).j).size+(if has t.dummies _=true then _ else t.dummies).size=_
   rw [T.dum,<- Qd,(Yp _ _ _).length_eq]
   simp [has]
  have F:(t.put (P t.mask (aZ prog w k) n).j).1.fits (Zn r (t.put (P t.mask (aZ prog w k) n).j).2 (aZ prog w k,Ze x)).size=true:=by
   unfold Z9;rw [f,q]
   have:(t.put (P t.mask (aZ prog w k) n).j).1.place.size=r.size+1:=by
    show(Zn t.place (ZC t.place (P t.mask (aZ prog w k) n).j) (P t.mask (aZ prog w k) n).j).size=_
    rw [<- Qd,(Yp _ _ _).length_eq];simp;rw [<- Qd,p,u]
   rw [this];simp only [beq_self_eq_true,JQ,decide_eq_true_eq]
   show t.place.toList.length+1<=t.mask
   lia
  by_cases c:(t.put (P t.mask (aZ prog w k) n).j).1.tooFull=true
  ·rw [c];simp only [Jr,J2,if_true]
   have G:(t.place.toList.length+1) * 5 >= t.mask * 3:=by
    unfold US at c;rw [f]at c;exact of_decide_eq_true c
   obtain⟨M,m1,m2,m3,m4⟩:=BW T G (by lia);refine Qa (wR (V:=V) hg K rfl F R X2 v N (M:=M) ?_ m2 ?_ ?_ ?_ ?_)
   ·rw [u,<- p];exact m1
   ·rw [q,u,<- p];exact m3
   ·rw [u,<- p];exact m4
   ·rw [q,Q5];lia
   ·intro h' ks' J S' pk;exact Qb (Y d h' ks' (z.trans J) S' (pk.trans B))
  ·rw [JZ]at c;rw [c];simp only [JX,Qg,if_false]
   have G:(t.place.toList.length+1) * 5<t.mask * 3:=by
    unfold US at c;rw [f]at c
    have:=of_decide_eq_false c
    have e:(t.put (P t.mask (aZ prog w k) n).j).1.mask=t.mask:=rfl;rw [e]at this;lia
   have T2:=put_ok T n2 Z G t.plain;refine Qa (Qb (Qb (Y d _ _ z ⟨_,_,_,_,hg,K,rfl,?_,R,X2,v,N⟩ B)));rw [insertAt_list,Yd,Qp,List.map_take,List.map_drop];exact T2
end
end SC
namespace SC
open PySem.SetTable L2 DL DC KP
open ST (TOk ledW new_led nS)
section
variable {prog:Zd}{w:Zf}{A:Around}{R:Result->J9->Prop}{I:J8}{fp wr:List J8}{G:Array Vc->Array Vc->Prop}{n:Nat}{Pv:Nat->YP->Prop}{St:Nat->J9->Prop}{V:YP->Prop}
abbrev nS(w:Zf):Obj:={ cls:=.type "set",dict:=none,data:=.set #[] 0 (.fresh 0 0 (ledW w)) }
theorem vO(x:bS prog w h k b)(e:∀ b o,h.get? b=some o->h'.get? b=some o):bS prog w h' k b:=by
 obtain⟨o,a,n,d,g,f,bs,i,r⟩:=x
 exact⟨o,a,n,e b o d,g,f,bs,i,Paired.mapP r fun _ j q=>ST.TK.at q fun c h'=>e j c h'⟩
def hC(b:List CK)(a:Nat->CK)(i:Nat):Prop:=∀ k,k∈b ↔ ∃ j,j<i/\a j=k
theorem SetT.nodup(S:SetT prog w V h a ks):ks.Nodup:=by
 obtain⟨o,i,j,t,e,c,f,T,d,X,b,g⟩:=S;exact b
theorem wF(W:WalksS prog w A.in1 I fp wr G n Pv St)(S:J8)(a6:S∉fp)(hu:A.in1.units+6<Zi)(a:Nat->CK)(g:Heap)
  (d:∀ b o,g.get? b=some o->b≠S/\b∉wr) (Z:∀ i v,i<n->Pv i v->V v/\∃ b,v=.ref b/\bS prog w g (a i) b) (J:∀ ks:List CK,ks.Nodup->(∀ k∈ks,∃ j,j<n/\a j=k)->ks.length<=150):
  ∀(k i:Nat) (s:J9) (ks:List CK),n-i=k->i<=n->St i s->(∀ b o,g.get? b=some o->s.heap.get? b=some o)->
   SetT prog w (fun v=>V v/\∃ k b,v=.ref b/\bS prog w g k b) s.heap S ks->hC ks a i->
   (∀ s' ks',Moved (S::wr) G s s'->(∀ b o,g.get? b=some o->s'.heap.get? b=some o)->SetT prog w (fun v=>V v/\∃ k b,v=.ref b/\bS prog w g k b) s'.heap S ks'->hC ks' a n->R (.ok (.ret .none)) s')->
   Ui (Zc prog w) A (.builtin "set.update.loop" ⟨[.ref S,.ref I],[]⟩) R s:=by
 have b2:S∉wr:=fun h=>a6 (W.sub _ h);have E:∀ b∈wr,b∈S::wr:=fun b J=>Qf _ J
 have a2:∀(s s':J9) ks,Moved wr G s s'->(∀ b o,g.get? b=some o->s.heap.get? b=some o)->SetT prog w (fun v=>V v/\∃ k b,v=.ref b/\bS prog w g k b) s.heap S ks->SetT prog w (fun v=>V v/\∃ k b,v=.ref b/\bS prog w g k b) s'.heap S ks:=fun s s' ks z K Q=>by
  obtain⟨o,es,ep,t,ho,a3,hd,T,hp,X,a0,hV⟩:=Q
  refine⟨o,es,ep,t,z.heap S _ b2 ho,a3,hd,T,hp,?_,a0,hV⟩
  clear hd a3 ho T hp
  have:∀ e∈es.toList,∃ k b,e.2=.ref b/\bS prog w g k b:=fun e he=>(hV e he).2
  revert this
  clear hV a0;generalize es.toList=l at X;intro this
  induction X with
  | nil=>exact .nil
  | @cons k b es ks h1 hr ih=>
   refine .cons ?_ (ih fun e he=>this e (Qf _ he));obtain⟨k',b',e1,e2⟩:=this _ Qk
   have b5:b=b':=by injection e1
   subst b5;have q:=(vO e2 K).inj h1;subst q;exact vO e2 fun b o e=>z.heap b o (d b o e).2 (K b o e)
 intro k
 induction k with
 | zero=>
  intro i s ks hk hi N K Q U hR
  have a9:i=n:=by lia
  subst a9;refine YS JD ?_;rw [Y0 Yv _]
  show Zb _ A.in1 (Uy (.ref I) >>= _) _ _ s
  refine Qa (W.done s _ _ N fun s' z=>?_)
  show Zb _ A.in1 (ret Zz) _ _ s'
  exact Qb (hR s' ks (z.mono E) (fun b o e=>z.heap b o (d b o e).2 (K b o e)) (a2 s s' ks z K Q) U)
 | succ k ih=>
  intro i s ks hk hi N K Q U hR
  have B:i<n:=by lia
  refine YS JD ?_;rw [Y0 Yv _]
  show Zb _ A.in1 (Uy (.ref I) >>= _) _ _ s
  refine Qa (W.item i s _ _ B N fun v s' hP F z=>?_);obtain⟨b0,b,rfl,a5⟩:=Z i v B hP;have O:∀ b o,g.get? b=some o->s'.heap.get? b=some o:=fun b o e=>z.heap b o (d b o e).2 (K b o e);have a4:bS prog w s'.heap (a i) b:=vO a5 O;have a7:=a2 s s' ks z K Q
  show Zb _ A.in1 (UE [Ze b] (setAdd S (.ref b)) >>= _) _ _ s'
  refine Qa (Q7 ?_);unfold setAdd;refine Q7 ?_;refine Qa (EB (by lia) a4 ?_);have b6:=J ks Q.nodup fun k hk=>let⟨j,hj,e⟩:=(U k).mp hk;⟨j,by lia,e⟩
  have f:∀(Y:Heap) (tk:Nat),s'.toks<=tk->Zk S s'.heap Y->Moved (S::wr) G s { s' with heap:=Y,toks:=tk }:=fun Y tk a8 p=>
   (z.mono E).then_heap a8 fun b o J e=>by rw [p.2 b (fun h:b=S=>J (by rw [h];exact Qk))];exact e
  refine vF (V:=fun v=>V v/\∃ k b,v=.ref b/\bS prog w g k b) (s:={ s' with toks:=s'.toks+(i7 (a i)+1) }) hu a7 a4 ⟨b0,a i,b,rfl,a5⟩ (by lia) ?_ ?_
  ·intro H;refine Qb ⟨JR Yv _,ih (i+1) _ ks (by lia) B (W.frame _ s' s'.heap _ F (QV _ _) fun b J o e=>e) O a7 ?_ fun M m r y u x=>?_⟩
   ·intro k';rw [U k'];constructor
    ·rintro⟨j,hj,e⟩;exact⟨j,by lia,e⟩
    ·rintro⟨j,hj,e⟩
     by_cases c:j=i
     ·subst c;subst e;exact(U _).mp H
     ·exact⟨j,by lia,e⟩
   ·exact hR M m (Vm W.gtrans (f s'.heap _ (QV _ _) (UJ S _)) r) y u x
  ·intro H Y ks' p b3 hp
   have b4:∀ b o,g.get? b=some o->Y.get? b=some o:=fun b o e=>by
    rw [p.2 b (d b o e).1];exact O b o e
   refine Qb ⟨JR Yv _,ih (i+1) _ ks' (by lia) B (W.frame _ s' _ _ F (QV _ _) fun b J o e=>?_) b4 b3 ?_ fun M m r y u x=>?_⟩
   ·rw [p.2 b (fun h:b=S=>a6 (by rw [<- h];exact J))];exact e
   ·intro k';rw [hp.mem_iff,Ql,U k'];constructor
    ·rintro(rfl | ⟨j,hj,e⟩)
     ·exact⟨i,by lia,rfl⟩
     ·exact⟨j,by lia,e⟩
    ·rintro⟨j,hj,e⟩
     by_cases c:j=i
     ·subst c;exact .inl e.symm
     ·exact .inr ⟨j,by lia,e⟩
   ·exact hR M m (Vm W.gtrans (f Y _ (QV _ _) p) r) y u x
end
section
variable {prog:Zd}{w:Zf}{A:Around}{E:YP->J9->Prop}{s:J9}{V:YP->Prop}
theorem NM{l:J8}{items:Array YP}{kl:List CK}{Q:YP->J9->Prop}
  (hh:A.handled=none) (hu:A.units+16<Zi) (hl:s.heap.IsList l items) (hi:∀ i v,items[i]?=some v->V v/\∃ b,v=.ref b/\bS prog w s.heap (kl.getD i []) b) (hb:∀ ks:List CK,ks.Nodup->(∀ k∈ks,∃ j,j<items.size/\kl.getD j []=k)->ks.length<=150)
  (h:∀(h':Heap) (tk:Nat) ks,SetT prog w V h' s.heap.objs.size ks->hC ks (fun i=>kl.getD i []) items.size->
   (∀ b o,s.heap.get? b=some o->h'.get? b=some o)->Q (.ref s.heap.objs.size) { s with heap:=h',toks:=tk }):
  Zb (Zc prog w) A (call (.type "set") [.ref l]) Q E s:=by
 obtain⟨c,tl,a9⟩:=F.called_set.mro;have X:=F.called_set.made;have a6:=F.called_set.sub;refine wpAny_call (U3 ?_)
 show Zb _ _ (callAny (.type "set") _) _ _ _
 refine Qb ⟨Code.quiet_builtin _ (by decide +kernel),YS F.entry_type_call ?_⟩;rw [Around.under_plain (UN "set" [.ref l] []) rfl];have h1:=F.called_set.notType;have h2:=F.called_set.canCreate;have b3:=F.typeCall_set_1 (.ref l)
 repeat (any_goals (first | assumption | wp_step))
 refine Jn (new_led (.ref l) (E:=E) (Q₁:=fun B m=>B=.ref s.heap.objs.size/\m={ s with heap:=s.heap.push (nS w) }) ⟨rfl,rfl⟩) fun r m W=>?_
 cases r with
 | error e=>exact W
 | ok fl=>
  cases fl with
  | ret B=>
   obtain⟨rfl,rfl⟩:=W;have hS:(s.heap.push (nS w)).get? s.heap.objs.size=some (nS w):=Qy _ rfl;have hT:Shared.TypeIs { s with heap:=s.heap.push (nS w) } (.ref s.heap.objs.size) "set":=⟨_,hS,rfl⟩;have b2:=F.called_set.init.lookup;have b4:=F.called_set.init.bind (.ref s.heap.objs.size)
   repeat (any_goals (first | assumption | wp_step))
   refine Jn (U0 (R:=wants (fun r g=>r=.none/\∃ h' tk ks,g={ s with heap:=h',toks:=tk } /\
     SetT prog w V h' s.heap.objs.size ks/\hC ks (fun i=>kl.getD i []) items.size /\
     (∀ b o,s.heap.get? b=some o->h'.get? b=some o)) E) F.called_set.init.plain F.entry_set_init (check_set_init_1 hT ?_)) fun z g a=>?_
   ·obtain⟨ol,H,O,nl,N⟩:=hl;obtain⟨a5,n,U,d⟩:=ol
    simp only at O N
    subst O;subst N;have G:(s.heap.push (nS w)).get? l=some { cls:=.type "list",dict:=n,data:=.seq items nl,slots:=d }:=Qh _ H;have a7:=F.sub_list_set;have a8:=F.sub_list_frozenset
    have b0:(ZK "list" == ZK "dict")=false:=by decide
    have K:(s.heap.push (nS w)).IsList l items:=⟨_,G,rfl,nl,rfl⟩;unfold Builtin.«set.__init__» noKeywords Z8;generalize hPI:pyIter=PI
    wp_walk
    subst hPI;refine UH K ?_;refine Qa (wpAny_runValue ?_);have J:l<s.heap.objs.size:=Qs H
    have Z:A.in1.in1.in1.handled=none:=by simp [hh]
    have I:l≠(s.heap.push (nS w)).objs.size:=by
     rw [Ys];exact Qz (Jk J)
    have a0:s.heap.objs.size∉[(s.heap.push (nS w)).objs.size,l]:=by
     rw [Ys];simp only [Ql,QF,Jo,or_false,not_or]
     exact⟨Qz (JA _),Jf J⟩
    have f:A.in1.in1.in1.units+6<Zi:=by
     show A.units+1+1+1+6<Zi
     lia
    refine wF (V:=V) ((Walks.list Z _ l I items).toS) s.heap.objs.size
     a0 f (fun i=>kl.getD i []) s.heap (fun b o e=>?_) (fun i v _ hv=>hi i v hv) hb (items.size-0) 0 _ [] (by lia) (Q8 _)
     ⟨⟨_,Qy _ rfl,rfl,rfl⟩,(K.push _)⟩ (fun b o e=>?_) ?hS0 ?hK0 ?hR
    ·have p:b<s.heap.objs.size:=Qs e
     refine⟨Qz p,fun y=>?_⟩
     rw [Ys]at y
     have:b=s.heap.objs.size+1:=QF.mp y
     rw [this]at p;exact absurd p (Nat.not_lt.mpr (Vj _))
    ·exact Qh _ (Qh _ e)
    case hS0=>
     have M:((s.heap.push (nS w)).push { cls:=.type "list_iterator",data:=.fields #[.ref l,.int 0 0] }).get? s.heap.objs.size
       = some (nS w):=Qh _ hS
     exact⟨_,#[],0,_,M,⟨rfl,rfl,rfl⟩,rfl,⟨.inl rfl,rfl,rfl,List.Pairwise.nil,fun x hx=>by simp [Vf]at hx,(by show 0 * 5<7 * 3;decide),fun q hq=>by simp at hq⟩,⟨rfl,rfl⟩,.nil,YH,fun e he=>by simp at he⟩
    case hK0=>
     intro k;simp
    case hR=>
     intro s' ks y h0 t hK;obtain⟨h',g',d',S,T⟩:=s';have eg:g'=s.gens:=y.gens;have ed:d'=s.drawn:=y.drawn;have eo:T=s.os:=y.os;subst eg;subst ed;subst eo
     show Zb _ _ _ _ _ _
     refine Qb ?_
     show Zb _ _ (ret Zz) _ _ _
     obtain⟨o',a3,a4,t',z1,z2,z3,z4,z5,z6,z7,z8⟩:=t;exact Qb ⟨rfl,h',S,ks,rfl,⟨o',a3,a4,t',z1,z2,z3,z4,z5,z6,z7,fun e he=>(z8 e he).1⟩,hK,fun b o e=>h0 b o e⟩
   ·cases z with
    | error e=>exact a
    | ok u=>
     cases u with
     | ret r=>
      obtain⟨rfl,h',tk,ks,rfl,t,a2,Y⟩:=a
      repeat (any_goals (first | assumption | wp_step))
      exact h _ _ _ t a2 Y
     | _=>exact a.elim
  | _=>exact W.elim
end
end SC
namespace SC
open PySem.Spec L2 CL DL SD ST SL DC KP
open SC (Ents SetT)
section
variable {prog:Zd}{w:Zf}
theorem Ents.perm(p:List.Perm es es'):∀{ks:List CK},Ents prog w h es ks->∃ ks',Ents prog w h es' ks'/\List.Perm ks' ks:=by
 induction p with
 | nil=>intro ks X;exact⟨ks,X,.refl _⟩
 | cons x _ g=>
  intro ks X
  cases X with
  | cons c r=>
   obtain⟨ks',m,q⟩:=g r
   exact⟨_,.cons c m,q.cons _⟩
 | swap x y l=>
  intro ks X
  cases X with
  | cons c r=>cases r with
   | cons i r=>exact⟨_,.cons i (.cons c r),.swap _ _ _⟩
 | trans _ _ b a=>
  intro ks X;obtain⟨n,k,e⟩:=b X;obtain⟨f,j,d⟩:=a k
  exact⟨f,j,d.trans e⟩
end
def decAll:List D->Option (List CK)
 | []=>some []
 | d::r=>(jX d).bind fun k=>(decAll r).bind fun a=>some (k::a)
theorem Ow{K:PySem.W.Frag}{F:J8->Prop}{H:Hp}:∀{ds:List D}{vs:List V}{kl:List CK},Reps K F H ds vs->decAll ds=some kl->vs.length=kl.length/\∀(i:Nat) (x:V),vs[i]?=some x->∃ b,x=.ref b/\eX K H (.inr (kl.getD i [])) b:=by
 intro ds
 induction ds with
 | nil=>intro vs kl r h;cases r;cases h;exact⟨rfl,fun i x e=>by simp at e⟩
 | cons d ds g=>
  intro vs kl r h
  cases r with
  | cons a r=>
   obtain⟨k,l,h⟩:=aE h;obtain⟨m,j,h⟩:=aE h;cases h;obtain⟨f,c⟩:=g r j
   refine⟨by simp [f],fun i x e=>?_⟩
   cases i with
   | zero=>cases e;exact sO a l
   | succ i=>exact c i x (by simpa using e)
def fO:List CK->List CK
 | []=>[]
 | k::r=>if k∈r then fO r else k::fO r
theorem sY:∀{l:List CK}{k:CK},k∈fO l ↔ k∈l
 | [],k=>by simp [fO]
 | x::r,k=>by
  unfold fO;split
  ·rename_i h;rw [sY,Ql]
   exact⟨.inr,fun z=>z.elim (fun z=>z ▸ h) id⟩
  ·rw [Ql,Ql,sY]
theorem Bx:∀ l:List CK,(fO l).Nodup
 | []=>YH
 | x::r=>by
  unfold fO;split
  ·exact Bx r
  ·rename_i h;exact Yc.mpr ⟨fun q=>h (sY.mp q),Bx r⟩
def m8(k:CK):D:=jY (.inr k)
abbrev Dp(K:PySem.W.Frag)(H:Hp)(v:YP):Prop:=∃ b,∃ k:CK,v=.ref b/\eX K H (.inr k) b
def Ae:List D->Option (List CK)
 | [.list xs]=>(decAll xs).bind fun a=>if(fO a).length<=150 then some a else none
 | _=>none
def p5(gr:aA->Option (List D)):aA->Option D:=fun a=>(gr a).bind fun c=>(Ae c).bind fun b=>jG [.list ((fO b).map m8)]
section
variable {X:Cx}{pins:List (J8 × Obj)}{σ:L2.St}{H:Hp}{s:J9}
theorem rT(I:L2.Inv X pins σ H s):∀{es:List (Int × YP)}{ks:List CK},Ents X.prog X.w s.heap es ks->(∀ e∈es,Dp X.K H e.2)->∃ vs:List V,Reps X.K F H (ks.map m8) vs/\Vals vs (es.map (·.2))
 | _,_,.nil,_=>⟨[],.nil,.nil⟩
 | _,_,.cons (k:=k) (b:=b) h1 r,hv=>by
  obtain⟨vs,d,c⟩:=rT (F:=F) I r fun e f=>hv e (Qf _ f);obtain⟨h,xs,g,a⟩:=hv _ Qk;cases g
  have:k=xs:=h1.inj (nU I a)
  subst this
  exact⟨.ref b::vs,.cons (IC a) d,.cons rfl c⟩
variable {e:Expr}{p p2 pos pos2:Pos}{gr:aA->Option (List D)}
theorem Ou{x y:Str}(hc:X.calm=true)(hu:X.A.units+66<Zi)(hg:Gl X x)(hm:X.mg x=none)(hv:ZD x=some (.builtin "sorted"))(a8:Gl X y)(a7:X.mg y=none)(a4:ZD y=some (.type "set"))(ha:DA X [e] gr)(hn:x≠"__name__":=by decide)(b0:(x == ("__debug__":Str))=false:=by decide)
  (a6:y≠"__name__":=by decide) (T:(y == ("__debug__":Str))=false:=by decide)
  (he:Za [.Call (.Name y p2) [e] [] pos2] X.env=(false,Zr (.Call (.Name y p2) [e] [] pos2) X.env)::Za [] X.env:=by rfl) (hpl:(Zw pos (Za [] X.env)).any (·.1)=false:=by rfl)
  (a9:Za [e] X.env=(false,Zr e X.env)::Za [] X.env:=by rfl) (O:(Zw pos2 (Za [] X.env)).any (·.1)=false:=by rfl):
  DE X (.Call (.Name x p) [.Call (.Name y p2) [e] [] pos2] [] pos) (p5 gr):=by
 intro f s σ H Q I ⟨F,a0,ρ,d,S,q,k⟩;obtain⟨ds,e1,qa⟩:=aE q;obtain⟨kl,g,qb⟩:=aE qa;clear qa q;refine YT (kE I hg hm hv ?_ hn b0);refine JB (Q:=?_) ?_ he hpl;rw [he]
 show Zb _ _ (spliced ((false,Zr (.Call (.Name y p2) [e] [] pos2) X.env)::Zw pos (Za [] X.env))) _ _ s
 refine Calls.spliced_cons (YT (kE I a8 a7 a4 ?_ a6 T));refine YC (aW (ha pos2 f s σ H _ I ⟨F,a0,ρ,ds,S,e1,fun J G vs E1 R1=>(⟨J,E1,R1⟩:∃ J,aI F J H G/\Reps X.K J G ds vs)⟩) fun us r ⟨vs,G,I1,r1,J,E1,R1⟩=>?_) a9 O;unfold Ae at g
 split at g
 ·rename_i xs;obtain⟨a3,e3,g⟩:=aE g;by_cases c:(fO a3).length<=150
  ·rw [if_pos c]at g;cases g
   cases R1 with
   | cons R2 R3=>
   cases R3
   cases R2 with
   | @lst a ws _ h1 rw1=>
   obtain⟨u,rfl,ru⟩:=g7 r1;cases ru;obtain⟨z1,z2⟩:=Ow rw1 e3;obtain⟨n,rv,pl,_⟩:=I1.list h1.sq
   have a5:n.toArray.size=kl.length:=by rw [QH,<- rv.length,z1]
   have mk:∀ k,(∃ j,j<n.toArray.size/\kl.getD j []=k) ↔ k∈kl:=fun k=>by
    rw [a5];constructor
    ·rintro⟨j,R,rfl⟩
     rw [YF,Qe R];exact YJ R
    ·intro E;obtain⟨j,R⟩:=QQ E
     exact⟨j,(Qc.mp R).1,by rw [YF,R];rfl⟩
   refine NM (kl:=kl) (V:=Dp X.K G) (I1.ok.hd hc) (by lia) pl.isList (fun i v hv=>?_) (fun M hn E=>?_) fun h' tk M S' K' keep=>?_
   ·have N:n[i]?=some v:=by simpa using hv
    have hi:i<ws.length:=by
     have:=(Qc.mp N).1
     rw [rv.length];exact this
    obtain⟨u,g1,g2⟩:=Vals.get rv (Qe hi);rw [N]at g1;cases g1;obtain⟨b,g3,g4⟩:=z2 i _ (Qe hi);rw [g3]at g2;cases g2
    exact⟨⟨b,_,rfl,g4⟩,b,rfl,nU I1 g4⟩
   ·exact QJ (Yu hn fun k h=>sY.mpr ((mk k).mp (E k h))) c
   ·obtain⟨o,Z,ep,t,z1,z2,z3,z4,z5,z6,z7,z8⟩:=S';have I2:L2.Inv X f σ G { r with heap:=h',toks:=tk }:=I1.kept keep;have S1:gS X.w h' r.heap.objs.size o Z ep t:=⟨z1,z2,z3,z4.fits (by simp),z4.up,z5.1,z5.2⟩;have m1:∀ k,k∈M ↔ k∈kl:=fun k=>(K' k).trans (mk k);refine Calls.spliced_nil ?_;refine Uk kind_sorted plain_sorted entry_sorted (args_sorted1 _) ?_;unfold Builtin.«sorted»;have pk:List.Perm M (fO kl):=(Js z7 (Bx kl)).mpr fun k=>(m1 k).trans sY.symm
    have b2:Z.size=(fO kl).length:=by rw [<- Qd,z6.length,pk.length_eq]
    refine Qa (m:=checkCount "sorted" 1 1 _) (Qb (Qa (PySem.W.kdu_collect (Hs r.heap.objs.size o Z ep t) (by simp [I1.ok.hd hc]) S1 (gJ (by lia)) fun h2 a2 b5 E U=>?_)));have I3:L2.Inv X f σ G { r with heap:=h2,toks:=a2 }:=I2.kept E;obtain⟨b4,X2,p2⟩:=(z6.mono fun k b x=>vO x fun b o e=>E b o e).perm (mH X.w r.heap.objs.size ep Z).symm;obtain⟨vs,y1,y2⟩:=rT (F:=J) I3 X2 fun e he=>z8 e ((mH X.w r.heap.objs.size ep Z).mem_iff.mp he);rw [<- Fa U]at y2
    have Y:∃ d0 l,eJ d0 ((fO kl).map m8)=some l/\d=.list ((eK l).map (·.2)):=by
     cases c:fO kl with
     | nil=>rw [c]at qb;cases qb;exact⟨[],[],rfl,rfl⟩
     | cons k0 kr=>
      rw [c]at qb;have B:(if(kr.map m8).length<1000 then(eJ (k0.map fun M=>Z6 (M.map Zh)) ((k0::kr).map m8)).bind fun l=>some (ZY ((eK l).map (·.2)))else none)=some d:=qb;by_cases z:(kr.map m8).length<1000
      ·rw [if_pos z]at B;obtain⟨l,g,B⟩:=aE B;cases B
       exact⟨_,l,g,rfl⟩
      ·rw [if_neg z]at B;cases B
    obtain⟨d0,l,f1,rfl⟩:=Y;obtain⟨l',f2,f3⟩:=HG ((p2.trans pk).map m8).symm f1;refine Cq hu I3 y2 y1 f2 (by rw [Qi,(p2.trans pk).length_eq];lia) fun p b3 hp r' _=>?_;rw [HY f1 f2 f3]at r';exact k _ _ _ (E1.trans (aI.frozen hp)) (aS.newLst hp r')
  ·rw [if_neg c]at g;cases g
 ·cases g
end
end SC
namespace OB
open PySem.Spec L2 CL DL
section
variable {B:Type}
def pQ(h h':D->D->Option D)(ga gb d:GX B D):GX B D:=fun a b=>(ga a b).bind fun x=>(gb a x.2).bind fun y=>(h x.1 y.1).bind fun z=>(jC z).bind fun c=>if c=true then(d a y.2).bind fun w=>(h' y.1 w.1).bind fun r=>some (r,w.2)else some (.bool false,y.2)
def pS(i:Nat)(t:GX B Bool)(ge:aA->Option D):List D->aA->List B->Option (List D × List B)
 | [],_,Ω=>some ([],Ω)
 | d::ds,ρ,Ω=>(t (ρ.set i (.dat d)) Ω).bind fun x=>if x.1=true then(ge (ρ.set i (.dat d))).bind fun y=>(pS i t ge ds (ρ.set i (.dat d)) x.2).bind fun r=>some (y::r.1,r.2)else pS i t ge ds (ρ.set i (.dat d)) x.2
def tW(gi:aA->Option (List D))(i:Nat)(t:GX B Bool)(ge:aA->Option D)(inner:List (Option Nat)):GX B D:=fun a b=>(gi a).bind fun c=>(pS i t ge c (fV inner a) b).bind fun r=>if r.1.length<=1000/\r.2.length=b.length then some (.list r.1,r.2)else none
end
section
variable {K:PySem.W.Frag}{B:Type}{k:dS K B}{τ τ':List (Nat × Nat)}{F F':J8->Prop}{H H' H₀ H₁:Hp}{σ:L2.St}{ρ:aA}{Ω Ω':List B}{os os':List Oa}
theorem SO.keeps(S:SO k τ F H H₀ σ ρ Ω os)(q:bM K os os' F F' H H')(o:Os k F' H' Ω' os')(g:os'.length=os.length):SO k τ F' H' H₀ σ ρ Ω' os':=
 ⟨bF.keep S.S S.sep S.nm q.k,o,fun a h f=>(q.ft a f).elim (S.sep a h) (x4 S.S h).1,S.nm,fun i j m u b=>by
  have d:j<os.length:=by rw [<- g];exact(Qc.mp b).1
  have c:os[j]?=some os[j]:=Qe d;obtain⟨l,e⟩:=q.ad j _ c;rw [b]at e;cases e
  exact S.hd i j m os[j] c,fun a h=>S.lo a (q.k.lv a h)⟩
theorem Ia(p:kA ρ)(h:dM σ ρ a):False:=by
 rcases h with⟨i,c,b,_⟩ | ⟨i,c,b,_⟩
 ·exact p i _ rfl b
 ·exact p i _ rfl b
theorem SO.inner(S:SO k τ F H H₀ σ ρ Ω os)(inner:List (Option Nat))(b:∀ ij,ij∈τ'->∃ i0,inner[ij.1]?=some (some i0)/\(i0,ij.2)∈τ)(c:∀ a,H a=none->H₁ a=none):SO k τ' F H H₁ (iP inner σ) (fV inner ρ) Ω os:=
 ⟨(S.S.inner inner).plain (oA inner ρ) (bJ.refl K F H) S.S.fz,S.o,fun a h=>(Ia (oA inner ρ) h).elim,fun i d q=>oA inner ρ i _ rfl q,fun i j m o e=>by
  obtain⟨i0,l,g⟩:=b _ m;have f:=S.hd i0 j g o e;unfold iP;rw [QE,l]
  simp [f],c⟩
end
section
variable {X:Cx}{B:Type}{k:dS X.K B}{τ τ':List (Nat × Nat)}{a b c:Expr}{ga gb gc:GX B D}{pos:Pos}
theorem PU(q:iL k τ (pQ h h' ga gb gc) σ H Q):v6 (cE X.K h) (cE X.K h') (iL k τ ga) (iL k τ gb) (iL k τ gc) σ H Q:=by
 obtain⟨F,a,c,p,t,d,o,S,q,i⟩:=q;obtain⟨x,J,q⟩:=aE q;obtain⟨y,I,q⟩:=aE q;obtain⟨z,G,q⟩:=aE q;obtain⟨j,E,q⟩:=aE q
 refine⟨F,a,c,p,t,x.1,x.2,S,J,fun F1 H1 v g K1 M R1=>⟨F1,a,c,x.2,g,y.1,y.2,M,I,fun Z H2 u b K2 S2 R2=>⟨Z,x.1,y.1,z,S2.S.fz,R1.stay K2.k.st,R2,G,fun m U w E3 R=>⟨j,lD R E,?_⟩⟩⟩⟩
 have l:=S2.ext E3;have K3:=(K1.trans K2).trans (bM.ext S2.S.fz E3)
 cases j with
 | false=>
  simp only [Qg,if_false]at q ⊢;cases q;exact i m U _ b K3 l (.bl false)
 | true=>
  simp only [if_true]at q ⊢;obtain⟨e,B,q⟩:=aE q;obtain⟨r,A,q⟩:=aE q;cases q
  exact⟨m,a,c,y.2,b,e.1,e.2,l,B,fun Y H4 v4 f K4 S4 O=>⟨Y,y.1,e.1,d,S4.S.fz,(R2.stay E3.stay).stay K4.k.st,O,A,fun W T s n N=>i W T s f ((K3.trans K4).trans (bM.ext S4.S.fz n)) (S4.ext n) N⟩⟩
theorem V9(e:bH X (Zm op) (cE X.K h))(d:bH X (Zm op') (cE X.K h'))(j:XE k τ a ga)(i:XE k τ b gb)(g:XE k τ c gc)
  (f:lastMarks [op,op'] [b,c]=false:=by with_unfolding_all rfl):XT k τ (.Compare a [op,op'] [b,c] pos) (xB (pQ h h' ga gb gc)):=
 lC (Vy e d j i g f) fun _ _ _ q=>Cg (fun _ _ _=>PU) q
structure KC(X:Cx){B:Type}(k:dS X.K B)(τ':List (Nat × Nat))(n:Nat)(t:GX B Bool)(ge:aA->Option D)(xs out:List D)(Ω':List B)(os:List Oa)(F1:J8->Prop)(H1:Hp)(D':J8)(i m:Nat)(σ':L2.St)(H':Hp)(F2:J8->Prop)(ρ2:aA)(vs:List V)(don rst:List D)(Ω2:List B)(os2:List Oa):Prop where
 em:m=xs.length-i
 hi:i<=xs.length
 K2:bM X.K os os2 F1 F2 H1 H'
 S:SO k τ' F2 H' H1 σ' ρ2 Ω2 os2
 pl:kA ρ2
 dD:H' D'=some (.lst vs)
 nf:¬ F2 D'
 nt:¬ fG os2 D'
 rd:Reps X.K F2 H' don vs
 ec:pS n t ge (xs.drop i) ρ2 Ω2=some (rst,Ω')
 eo:don++rst=out
variable {elt iter:Expr}{scope:Ul}{N':List Str}{inner:List (Option Nat)}{gi:aA->Option (List D)}{t:GX B Bool}{ge:aA->Option D}{n:Nat}{x:Str}{p:Pos}
theorem VX(a2:∀ ij,ij∈τ'->(∃ q,q∈τ/\inner[ij.1]?=some (some q.1)/\q.2=ij.2)/\ij.1≠n)(q:iL k τ (tW gi n t ge inner) σ H Q):Cs (Ah X.K gi) (sS n) (oH k τ' t) (tD X.K ge) inner σ H Q:=by
 obtain⟨F,a6,ρ,Ω,os,d,w,S,q,cc⟩:=q;obtain⟨l,e1,q⟩:=aE q;obtain⟨⟨c,Ω1⟩,e2,q⟩:=aE q;by_cases hl:c.length<=1000/\Ω1.length=Ω.length
 ·have q:(if c.length<=1000/\Ω1.length=Ω.length then some (ZY c,Ω1)else none)=some (d,w):=q;rw [if_pos hl]at q;cases q
  refine⟨F,a6,ρ,l,S.S,e1,fun W E J E1 I1 D' hD=>?_⟩
  have S1:=S.ext E1;have b2:=S1.o
  refine⟨fun i m G H'=>∃ T s e A M I os2,KC X k τ' n t ge l c w os W E D' i m G H' T s e A M I os2,?_,?_⟩
  ·have E2:aI W W E (aJ E D' (.lst [])):=aI.fresh hD
   refine⟨l.length,W,fV inner ρ,[],[],c,Ω,os,rfl,Q8 _,bM.ext S1.S.fz E2,(S1.ext E2).inner inner (fun ij h=>let⟨q,h1,h2,h3⟩:=(a2 ij h).1;⟨q.1,h2,by rw [<- h3];exact h1⟩) (fun a h=>E2.same.free h),oA inner ρ,cO,fun f=>S1.S.fz _ f hD,fun f=>(S1.o.live f).1 hD,.nil,e2,rfl⟩
  ·rintro i m G H' ⟨T,s,e,A,M,I,os2,rfl,hi,K2,S2,pl,dD,nf,nt,rd,g,eo⟩;obtain⟨b0,a9⟩:=I1 T H' K2.k.st S2.S.fz i;by_cases r:i<l.length
   ·right
    have a3:l[i]?=some l[i]:=by simp [r]
    obtain⟨go,a7⟩:=b0 _ a3;rw [Yl r]at g;obtain⟨⟨b,v⟩,e4,g⟩:=aE g
    refine⟨go,fun x H3 y=>?_⟩
    obtain⟨F3,E3,R3⟩:=a7 x H3 y;have p:kA (s.set n (.dat l[i])):=Ib pl;have S3:=(S2.ext E3).put (i:=n) (fun ij h=>(a2 ij h).2) R3
    refine⟨F3,E,_,I,os2,b,v,S3,e4,fun F6 H6 os6 K6 S6=>?_⟩
    have d3:H3 D'=some (.lst e):=E3.same _ _ dD
    have a8:¬ F3 D':=fun f=>by
     rcases E3.new _ f with f | ⟨f,_⟩
     ·exact nf f
     ·rw [dD]at f;cases f
    have d6:H6 D'=some (.lst e):=K6.k.out _ _ d3 nt
    have Z:¬ F6 D':=fun f=>by
     rcases K6.k.new _ f with f | f
     ·exact a8 f
     ·rw [d3]at f;cases f
    have N:¬ fG os6 D':=fun f=>by
     rcases K6.ft _ f with f | f
     ·exact nt f
     ·rw [d3]at f;cases f
    have KK:bM X.K os os6 W F6 E H6:=K2.trans ((bM.ext S2.S.fz E3).trans K6);have Y:=(rd.stay E3.stay).stay K6.k.st
    cases b with
    | false=>
     simp only [Qg,if_false]at g ⊢
     exact⟨l.length-(i+1),by lia,F6,_,e,A,M,v,os6,rfl,r,KK,S6,p,d6,Z,N,Y,g,eo⟩
    | true=>
     simp only [if_true]at g ⊢;obtain⟨yd,e5,g⟩:=aE g;obtain⟨r',e6,g⟩:=aE g;cases g
     refine⟨F6,E,_,yd,S6.S,e5,fun R B U E7 R7=>?_⟩
     have d7:B D'=some (.lst e):=E7.same _ _ d6
     have O:¬ R D':=fun f=>by
      rcases E7.new _ f with f | ⟨f,_⟩
      ·exact Z f
      ·rw [d6]at f;cases f
     have S7:=S6.ext E7;have T8:bJ X.K R R B (aJ B D' (.lst (e++[U]))):=Hv d7 O;have K7:=KK.trans (bM.ext S6.S.fz E7)
     have a5:∀ a,R a->aJ B D' (.lst (e++[U])) a≠none:=fun a f=>by rw [aX (fun z=>O (by rw [<- z];exact f))];exact S7.S.fz a f
     have a0:∀ a,aJ B D' (.lst (e++[U])) a=none->B a=none:=fun a h=>by
      by_cases z:a=D'
      ·subst z;rw [cO]at h;cases h
      ·rwa [aX z]at h
     have K8:bM X.K os os6 W R E (aJ B D' (.lst (e++[U]))):=⟨⟨K7.k.st.trans T8,fun a u h nn=>by rw [aX (fun z=>by rw [z,hD]at h;cases h)];exact K7.k.out a u h nn,K7.k.new,a5,fun a h=>K7.k.lv a (a0 a h)⟩,K7.ft,K7.ad⟩
     have S8:SO k τ' R (aJ B D' (.lst (e++[U]))) E (G.set n (some x)) (s.set n (.dat l[i])) v os6:=
      ⟨S7.S.plain p T8 a5,S7.o.keep T8 (fun a u f h=>by rw [aX (fun z=>N (by rw [<- z];exact f))];exact h) (fun a f=>(S7.o.live f).2),fun a h=>(Ia p h).elim,fun j b3 z=>p j _ rfl z,S7.hd,fun a h=>S7.lo a (a0 a h)⟩
     have ll:e.length<1000:=by
      have h1:=rd.length;have h2:=congrArg List.length eo;rw [Qo,Qv]at h2;lia
     exact⟨e,d7,tT (YQ ll),l.length-(i+1),by lia,R,_,e++[U],A++[yd],r'.1,v,os6,rfl,r,K8,S8,p,cO,O,N,((Y.stay E7.stay).append (.cons R7 .nil)).stay T8,e6,by rw [QG];exact eo⟩
   ·left
    have a4:l.length<=i:=YY r
    refine⟨a9 a4,?_⟩
    rw [Y4 a4]at g;cases g;rw [QP]at eo;subst eo;have hH:H D'=none:=E1.same.free hD;have K3:=(bM.ext (os:=os) S.S.fz E1).trans K2;have T9:bJ X.K T (fun a=>T a ∨ a=D') H' H':=⟨fun _ f=>.inl f,fun _ _ f=>f,fun _ _ _ f=>f,fun _ _ _ f=>f⟩;have K4:bM X.K os os2 F (fun a=>T a ∨ a=D') H H':=⟨⟨K3.k.st.trans T9,K3.k.out,fun a f=>f.elim (K3.k.new a) fun z=>.inr (z ▸ hH),fun a f=>f.elim (K3.k.fz a) fun z=>by rw [z,dD];simp,K3.k.lv⟩,K3.ft,K3.ad⟩;have O4:Os k (fun a=>T a ∨ a=D') H' w os2:=S2.o.keep T9 (fun _ _ _ h=>h) fun a f z=>z.elim (S2.o.live f).2 fun z=>nt (z ▸ f);refine cc _ H' _ os2 K4 (S.keeps K4 O4 ?_) (.lst (.inl ⟨.inr rfl,.inl dD⟩) (rd.stay T9));rw [<- qH S2.o.at_,<- qH S.o.at_];exact hl.2
 ·have q:(if c.length<=1000/\Ω1.length=Ω.length then some (ZY c,Ω1)else none)=some (d,w):=q;rw [if_neg hl]at q;cases q
theorem VY(f:X.calm=true)(h:pD X N' scope inner)(a:∀ ij,ij∈τ'->(∃ q,q∈τ/\inner[ij.1]?=some (some q.1)/\q.2=ij.2)/\ij.1≠n)(d:DI X (.Name x p) iter gi)(e:∀ cl C fp s' H,PG (fH X N' scope cl C fp s' H) (.Name x p) (sS n))(b:∀ cl C fp s' H,XT (X:=fH X N' scope cl C fp s' H) k τ' c t)(he:∀ cl C fp s' H,DE (fH X N' scope cl C fp s' H) elt ge)
  (hs:∀ x,ZX iter X.env x=pure x:=by intro _;rfl):XE k τ (.ListComp elt [⟨.Name x p,iter,[c],0⟩] scope pos) (tW gi n t ge inner):=
 cR (GY (g:=sS n) (ti:=oH k τ' t) (te:=tD X.K ge) f h d e (fun cl C fp s' H=>Io (b cl C fp s' H)) (fun cl C fp s' H=>he cl C fp s' H) hs) fun i H Q q=>VX a q
end
end OB
namespace My
open PySem.Spec PySem.SeqAt L2 CL DL OB SD ZL SL EL DC
def top(i:Nat):ZE:=PySem.Challenge.pw_lampfloor_k41_whole_keeper.main.body.getD i (.Pass ⟨0,0,0,0⟩)
structure Fo(K:PySem.W.Frag)(mg:Str->Option YP)(n:Str)(st:ZE)(ps:List Str)(a:J8)(d:Zp):Prop where
 F:eP K n n st a d
 m:mg n=some (.ref a)
 b:L2.Binds K d ps []
theorem cF(h:(sc.kind,sc.isCoroutine,sc.isGenerator,N.take P.length)=(.function,false,false,P))(q:N.Nodup/\(∀ x∈P,sc.names.lookup x=some .local ∨ sc.names.lookup x=some .cell)/\∀ y∈sc.names,y.2≠.free):bQ N P sc:=by
 injection h with h1 h
 injection h with h2 h
 injection h with h3 h4
 exact⟨h1,h2,h3,q.1,h4,q.2.1,q.2.2⟩
theorem aH(b:DE X e ga)(a:DA X es gr)(h:BO e=true):DA X (e::es) (aD ga gr):=Op b a h
theorem hX{x1 pos}(h:DA X es gr):DE X (.Tuple es x1 pos) (c6 gr):=Ov h
theorem bX{X:Cx}{e:Expr}{es:List Expr}{gr:aA->Option (List D)}{p pos:Pos}{k m n:Nat}{f:J8}{g:Zp}{ps:List Str}{h:ZE}{x:Str}{G:List D->Option D}(F:Fo X.K X.mg x h ps f g)(o:aM X.prog X.w X.K X.mg X.base aO k f g ps (aY X.K n G))(i:cA m X.A)(j:Gl X x)
  (l:DA X (e::es) gr) (a:∀ ρ ds,gr ρ=some ds->ds.length=n) (c:k<=m:=by decide) (d:(x == ("__debug__":Str))=false:=by decide) (he:Za (e::es) X.env=(false,Zr e X.env)::Za es X.env:=by rfl) (hpl:(Zw pos (Za es X.env)).any (·.1)=false:=by rfl):DE X (.Call (.Name x p) (e::es) [] pos) (aT G gr):=Oq o (i.mono c) j F.m F.F.kp F.b l a d he hpl
theorem LI:∀(ρ:aA) (ds:List D),aG ρ=some ds->ds.length=0:=fun _ _ h=>OQ h
section
variable {a b c d e f:aA->Option D}
theorem eS:∀(ρ:aA) (ds:List D),aD a aG ρ=some ds->ds.length=1:=vZ LI
theorem hZ:∀(ρ:aA) (ds:List D),aD a (aD b aG) ρ=some ds->ds.length=2:=vZ eS
theorem gE:∀(ρ:aA) (ds:List D),aD a (aD b (aD c aG)) ρ=some ds->ds.length=3:=vZ hZ
theorem ln4:∀(ρ:aA) (ds:List D),aD a (aD b (aD c (aD d aG))) ρ=some ds->ds.length=4:=vZ gE
end
abbrev zY:ZE:=top 6
abbrev uS:ZE:=top 12
abbrev rF:ZE:=top 14
abbrev Aa:ZE:=top 18
abbrev zP:ZE:=top 19
abbrev zU:ZE:=top 20
abbrev uO:ZE:=top 26
abbrev zW:ZE:=top 31
abbrev uP:ZE:=top 34
abbrev zN:ZE:=top 7
abbrev zS:ZE:=top 13
abbrev Ac:ZE:=top 21
abbrev zZ:ZE:=top 23
abbrev zR:ZE:=top 32
abbrev Ab:ZE:=top 8
abbrev zO:ZE:=top 24
abbrev uQ:ZE:=top 27
abbrev uR:ZE:=top 33
abbrev zL:ZE:=top 9
abbrev zX:ZE:=top 10
abbrev zV:ZE:=top 15
abbrev uN:ZE:=top 16
abbrev Ad:ZE:=top 25
abbrev zM:ZE:=top 11
abbrev zQ:ZE:=top 37
abbrev rG:ZE:=top 38
def C6:List Str:=["thing"]
theorem M2:bQ C6 ["thing"] (aV zY):=cF rfl (by decide +kernel)
def Fw:aA->Option bD:=
  (cJ (kY (uG "int" (eV 0)) (FT (uG "bool" (eV 0)))))
def pH:List D->Option D:=cQ 1 Fw
def yV:List Str:=["floor","cells","x"]
theorem Bp:bQ yV ["floor"] (aV uS):=cF rfl (by decide +kernel)
def EQ:List Str:=["y","x"]
theorem Sk:EQ.Nodup:=by decide +kernel
def Ap:aA->Option bD:=
  (bO (o6 1 aG)
  (bO (j6 (iT (aD (aF aR (eV 0) (eC (.int 0))) aG)) (cT 2) (nE 1 (fF (fJ (iT (aD (aF aR (eV 0) (eC (.int 1))) aG)) (cT 0) eT (c6 (aD (eV 1) (aD (eV 0) aG))) [none,some 2]))))
  (cJ (eV 1))))
def nN:List D->Option D:=cQ 3 Ap
def uA:List Str:=["things"]
theorem HL:bQ uA ["things"] (aV rF):=cF rfl (by decide +kernel)
def A4:List Str:=["thing"]
theorem Ho:A4.Nodup:=by decide +kernel
def Fy:aA->Option bD:=
  (cJ (aT Bi (aD (fF (fJ (dU (eV 0)) (cT 0) eT (c6 (aD (eV 0) (aD (eC (.bool true)) aG))) [none])) aG)))
def iB:List D->Option D:=cQ 1 Fy
def C8:List Str:=["one","other","far_x","far_y","way_x","way_y","gone_x","gone_y","cells","border_x","border_y"]
theorem iW:bQ C8 ["one","other"] (aV Aa):=cF rfl (by decide +kernel)
def Au:aA->Option bD:=
  (bO (dO 2 (aT mZ (aD (aF iM (aF aR (eV 1) (eC (.int 0))) (aF aR (eV 0) (eC (.int 0)))) aG)))
  (bO (dO 3 (aT mZ (aD (aF iM (aF aR (eV 1) (eC (.int 1))) (aF aR (eV 0) (eC (.int 1)))) aG)))
  (bO (dO 4 (m7 (eB (aF y8 (aF aR (eV 1) (eC (.int 0))) (aF aR (eV 0) (eC (.int 0))))) (eC (.int 1)) (qX oM (eC (.int 1)))))
  (bO (dO 5 (m7 (eB (aF y8 (aF aR (eV 1) (eC (.int 1))) (aF aR (eV 0) (eC (.int 1))))) (eC (.int 1)) (qX oM (eC (.int 1)))))
  (bO (dO 6 (eC (.int 0)))
  (bO (dO 7 (eC (.int 0)))
  (bO (o6 8 (aD (eV 0) aG))
  (bO (mO (lP (eB (aF oK (eV 6) (eV 2))) (eB (aF oK (eV 7) (eV 3)))) (bO (dO 9 (aF cH (aF cB (aF cH (eC (.int 2)) (eV 6)) (eC (.int 1))) (eV 3)))
  (bO (dO 10 (aF cH (aF cB (aF cH (eC (.int 2)) (eV 7)) (eC (.int 1))) (eV 2)))
  (bO (eU (eB (aF fZ (eV 9) (eV 10))) (dO 6 (aF cB (eV 6) (eC (.int 1)))) gL)
  (bO (eU (eB (aF fZ (eV 10) (eV 9))) (dO 7 (aF cB (eV 7) (eC (.int 1)))) gL)
  (o3 8 (c6 (aD (aF cB (aF aR (eV 0) (eC (.int 0))) (aF cH (eV 4) (eV 6))) (aD (aF cB (aF aR (eV 0) (eC (.int 1))) (aF cH (eV 5) (eV 7))) aG)))))))) 900)
  (cJ (eV 8))))))))))
def sD:List D->Option D:=cQ 11 Au
def CY:List Str:=["cells","couples","here","there"]
theorem wV:bQ CY ["cells"] (aV zP):=cF rfl (by decide +kernel)
def Ar:aA->Option bD:=
  (bO (o6 1 aG)
  (bO (j6 (qZ (aD (eV 0) (aD (oP (eV 0) (oE (eC (.int 1))) oW) aG))) (rM 2 (lF (cT 2) (lF (cT 3) rL))) (eU (kM (eB (aF bW (aF aR (eV 2) (eC (.int 0))) (aF aR (eV 3) (eC (.int 0))))) (eB (aF bW (aF aR (eV 2) (eC (.int 1))) (aF aR (eV 3) (eC (.int 1)))))) (o3 1 (aT pX (aD (aT jG (aD (oO (aD (c6 (aD (aF aR (eV 2) (eC (.int 0))) (aD (aF aR (eV 3) (eC (.int 1))) aG))) (aD (c6 (aD (aF aR (eV 3) (eC (.int 0))) (aD (aF aR (eV 2) (eC (.int 1))) aG))) aG))) aG)) aG))) gL))
  (cJ (eV 1))))
def pF:List D->Option D:=cQ 4 Ar
def C2:List Str:=["one_end","middle","other_end"]
theorem MX:bQ C2 ["one_end","middle","other_end"] (aV zU):=cF rfl (by decide +kernel)
def Fs:aA->Option bD:=
  (cJ (Ds (p4 fZ fZ (eV 0) (eV 1) (eV 2)) (p4 fZ fZ (eV 2) (eV 1) (eV 0))))
def pG:List D->Option D:=cQ 3 Fs
def yR:List Str:=["cells","couples","number","one"]
theorem wW:bQ yR ["cells"] (aV uO):=cF rfl (by decide +kernel)
def EK:List Str:=["other","one"]
theorem Sf:EK.Nodup:=by decide +kernel
def Aq:aA->Option bD:=
  (bO (o6 1 aG)
  (bO (j6 (sT (aD (eV 0) aG)) (rM 2 (lF (cT 2) (lF (cT 3) rL))) (nE 1 (fF (fJ (dU (oP (eV 0) (oE (aF cB (eV 2) (eC (.int 1)))) oW)) (cT 0) eT (c6 (aD (eV 1) (aD (eV 0) aG))) [none,some 3]))))
  (cJ (eV 1))))
def l8:List D->Option D:=cQ 4 Aq
def C4:List Str:=["_law_script","_law_k"]
theorem M0:bQ C4 ["_law_script","_law_k"] (aV zW):=cF rfl (by decide +kernel)
def Fk:aA->Option bD:=
  (bO (eU (eB (aF lN (eV 0) (oO aG))) (cJ (aF cH (eC (.int 7)) (eV 1))) gL)
  (cJ (aF cB (aF aR (eV 0) (aF hW (eV 1) (aT gA (aD (eV 0) aG)))) (aF cH (eC (.int 6553)) (aF kD (eV 1) (aT gA (aD (eV 0) aG)))))))
def sA:List D->Option D:=cQ 2 Fk
def yS:List Str:=["_law_floor_here"]
theorem MV:bQ yS ["_law_floor_here"] (aV uP):=cF rfl (by decide +kernel)
def EM:List Str:=["_law_at","_law_floor_here"]
theorem Sg:EM.Nodup:=by decide +kernel
def Fn:aA->Option bD:=
  (cJ (fF (fJ (iT (aD (aF cH (aF aR (eV 0) (eC (.int 0))) (aF aR (eV 0) (eC (.int 1)))) aG)) (cT 0) eT (c6 (aD (aF kD (eV 0) (aF aR (eV 1) (eC (.int 1)))) (aD (aF hW (eV 0) (aF aR (eV 1) (eC (.int 1)))) aG))) [none,some 0])))
def sB:List D->Option D:=cQ 1 Fn
def CV:List Str:=["thing"]
theorem MQ:bQ CV ["thing"] (aV zN):=cF rfl (by decide +kernel)
def Fx:aA->Option bD:=
  (bO (eU (lP (lO (eB (uG "tuple" (eV 0)))) (eB (aF bW (aT gA (aD (eV 0) aG)) (eC (.int 2))))) (cJ (eC (.bool false))) gL)
  (cJ (kY (aT pH (aD (aF aR (eV 0) (eC (.int 0))) aG)) (aT pH (aD (aF aR (eV 0) (eC (.int 1))) aG)))))
def sF:List D->Option D:=cQ 1 Fx
def C1:List Str:=["floor"]
theorem MW:bQ C1 ["floor"] (aV zS):=cF rfl (by decide +kernel)
def Fz:aA->Option bD:=
  (cJ (nV (AR (lQ (aD (aT nN (aD (eV 0) aG)) aG)) (lQ (aD (aF aR (eV 0) (eC (.int 2))) aG)))))
def pJ:List D->Option D:=cQ 1 Fz
def Da:List Str:=["one","other","cell","way_x","way_y","aside"]
theorem wX:bQ Da ["one","other","cell"] (aV Ac):=cF rfl (by decide +kernel)
def Aw:aA->Option bD:=
  (bO (eU (lP (lO (eB (aT pG (aD (aF aR (eV 0) (eC (.int 0))) (aD (aF aR (eV 2) (eC (.int 0))) (aD (aF aR (eV 1) (eC (.int 0))) aG)))))) (lO (eB (aT pG (aD (aF aR (eV 0) (eC (.int 1))) (aD (aF aR (eV 2) (eC (.int 1))) (aD (aF aR (eV 1) (eC (.int 1))) aG))))))) (cJ (eC (.bool false))) gL)
  (bO (dO 3 (aF iM (aF aR (eV 1) (eC (.int 0))) (aF aR (eV 0) (eC (.int 0)))))
  (bO (dO 4 (aF iM (aF aR (eV 1) (eC (.int 1))) (aF aR (eV 0) (eC (.int 1)))))
  (bO (dO 5 (aT mZ (aD (aF iM (aF cH (eV 3) (aF iM (aF aR (eV 2) (eC (.int 1))) (aF aR (eV 0) (eC (.int 1))))) (aF cH (eV 4) (aF iM (aF aR (eV 2) (eC (.int 0))) (aF aR (eV 0) (eC (.int 0)))))) aG)))
  (cJ (aF fZ (aF cH (eC (.int 2)) (eV 5)) (aF cB (aT mZ (aD (eV 3) aG)) (aT mZ (aD (eV 4) aG)))))))))
def pI:List D->Option D:=cQ 6 Aw
def C7:List Str:=["solids","one","other","cells","cell","first","second"]
theorem tP:bQ C7 ["solids","one","other"] (aV zZ):=cF rfl (by decide +kernel)
def Av:aA->Option bD:=
  (bO (dO 3 (aT sD (aD (eV 1) (aD (eV 2) aG))))
  (bO (j6 (dU (oP (eV 3) oW (oE (qX oM (eC (.int 1)))))) (cT 4) (eU (eB (aF (hO false) (eV 4) (eV 0))) (cJ (eC (.bool false))) gL))
  (bO (j6 (dU (aT pF (aD (eV 3) aG))) (rM 2 (lF (cT 5) (lF (cT 6) rL))) (eU (kM (eB (aF (hO false) (eV 5) (eV 0))) (eB (aF (hO false) (eV 6) (eV 0)))) (cJ (eC (.bool false))) gL))
  (cJ (eC (.bool true))))))
def nP:List D->Option D:=cQ 7 Av
def C0:List Str:=["_law_script","_law_k","_law_many","_law_cell_here"]
theorem Bo:bQ C0 ["_law_script","_law_k","_law_many"] (aV zR):=cF rfl (by decide +kernel)
def Fp:aA->Option bD:=
  (bO (dO 3 (aF hW (aF cB (aF cH (aF hW (aT sA (aD (eV 0) (aD (eV 1) aG))) (eC (.int 2147483563))) (eC (.int 69069))) (aF cH (eC (.int 104723)) (aF cB (eV 1) (eC (.int 1))))) (eC (.int 2147483563))))
  (bO (dO 3 (aF hW (aF cB (aF cH (eV 3) (eV 3)) (aF kD (eV 3) (eC (.int 3)))) (eC (.int 2147483399))))
  (cJ (aF hW (aF kD (aF hW (aF cB (aF cH (eV 3) (eV 3)) (aF kD (eV 3) (eC (.int 7)))) (eC (.int 2147483647))) (eC (.int 11))) (eV 2)))))
def gR:List D->Option D:=cQ 4 Fp
def C9:List Str:=["floor","thing"]
theorem M3:bQ C9 ["floor","thing"] (aV Ab):=cF rfl (by decide +kernel)
def Fu:aA->Option bD:=
  (bO (eU (lO (eB (aT sF (aD (eV 1) aG)))) (cJ (eC (.bool false))) gL)
  (cJ (kY (p4 fZ oK (eC (.int 0)) (aF aR (eV 1) (eC (.int 0))) (aF aR (eV 0) (eC (.int 0)))) (p4 fZ oK (eC (.int 0)) (aF aR (eV 1) (eC (.int 1))) (aF aR (eV 0) (eC (.int 1)))))))
def sE:List D->Option D:=cQ 2 Fu
def CW:List Str:=["solids","one","other"]
theorem MS:bQ CW ["solids","one","other"] (aV zO):=cF rfl (by decide +kernel)
def FC:aA->Option bD:=
  (cJ (kY (aF (hO true) (eV 2) (eV 0)) (aT nP (aD (eV 0) (aD (eV 1) (aD (eV 2) aG))))))
def kU:List D->Option D:=cQ 3 FC
def yT:List Str:=["floor","solids"]
theorem HK:bQ yT ["floor"] (aV uQ):=cF rfl (by decide +kernel)
def EN:List Str:=["couple","solids"]
theorem Si:EN.Nodup:=by decide +kernel
def As:aA->Option bD:=
  (bO (dO 1 (aT iB (aD (aF aR (eV 0) (eC (.int 2))) aG)))
  (cJ (fF (fJ (dU (aT l8 (aD (aT pJ (aD (eV 0) aG)) aG))) (cT 0) (eB (aT nP (aD (eV 1) (aD (aF aR (eV 0) (eC (.int 0))) (aD (aF aR (eV 0) (eC (.int 1))) aG))))) (eV 0) [none,some 1]))))
def kT:List D->Option D:=cQ 2 As
def yU:List Str:=["_law_script","_law_at","_law_most","_law_wide","_law_high","_law_rate","_law_shuts","_law_x"]
theorem pN:bQ yU ["_law_script","_law_at","_law_most"] (aV uR):=cF rfl (by decide +kernel)
def EO:List Str:=["_law_y","_law_x","_law_script","_law_rate","_law_at"]
theorem Sj:EO.Nodup:=by decide +kernel
def Ao:aA->Option bD:=
  (bO (dO 3 (aF cB (eC (.int 1)) (aT gR (aD (eV 0) (aD (eV 1) (aD (eV 2) aG))))))
  (bO (dO 4 (aF cB (eC (.int 1)) (aT gR (aD (eV 0) (aD (aF cB (eV 1) (eC (.int 1))) (aD (eV 2) aG))))))
  (bO (dO 5 (aF aR (oO (aD (eC (.int 2)) (aD (eC (.int 3)) (aD (eC (.int 3)) (aD (eC (.int 5)) (aD (eC (.int 9)) aG)))))) (aT gR (aD (eV 0) (aD (aF cB (eV 1) (eC (.int 2))) (aD (eC (.int 5)) aG))))))
  (bO (o6 6 aG)
  (bO (j6 (iT (aD (eV 3) aG)) (cT 7) (nE 6 (fF (fJ (iT (aD (eV 4) aG)) (cT 0) (eB (aF lN (aT gR (aD (eV 2) (aD (aF cB (aF cB (aF cB (eV 4) (eC (.int 3))) (aF cH (eC (.int 8)) (eV 1))) (eV 0)) (aD (eV 3) aG)))) (eC (.int 0)))) (c6 (aD (eV 1) (aD (eV 0) aG))) [none,some 7,some 0,some 5,some 1]))))
  (cJ (c6 (aD (eV 3) (aD (eV 4) (aD (aT pX (aD (eV 6) aG)) aG))))))))))
def sC:List D->Option D:=cQ 8 Ao
def CT:List Str:=["floor","cell"]
theorem MO:bQ CT ["floor","cell"] (aV zL):=cF rfl (by decide +kernel)
def FB:aA->Option bD:=
  (eU (lO (eB (aT sE (aD (eV 0) (aD (eV 1) aG))))) (fun _=>none) gL)
def i4:List D->Option D:=cQ 2 FB
def C5:List Str:=["floor","cell"]
theorem M1:bQ C5 ["floor","cell"] (aV zX):=cF rfl (by decide +kernel)
def Fv:aA->Option bD:=
  (bO (mK (aT i4 (aD (eV 0) (aD (eV 1) aG))))
  (cJ (aF (dY false) (eV 1) (aF aR (eV 0) (eC (.int 2))))))
def nO:List D->Option D:=cQ 2 Fv
def C3:List Str:=["floor","cell"]
theorem MY:bQ C3 ["floor","cell"] (aV zV):=cF rfl (by decide +kernel)
def BX:aA->Option bD:=
  (bO (mK (aT i4 (aD (eV 0) (aD (eV 1) aG))))
  (cJ (c6 (aD (aF aR (eV 0) (eC (.int 0))) (aD (aF aR (eV 0) (eC (.int 1))) (aD (aT pX (aD (nV (lQ (aD (aF cB (aF aR (eV 0) (eC (.int 2))) (c6 (aD (eV 1) aG))) aG))) aG)) aG))))))
def i5:List D->Option D:=cQ 2 BX
def yQ:List Str:=["floor","cell"]
theorem MT:bQ yQ ["floor","cell"] (aV uN):=cF rfl (by decide +kernel)
def EJ:List Str:=["wall","cell"]
theorem Se:EJ.Nodup:=by decide +kernel
def BY:aA->Option bD:=
  (bO (mK (aT i4 (aD (eV 0) (aD (eV 1) aG))))
  (cJ (c6 (aD (aF aR (eV 0) (eC (.int 0))) (aD (aF aR (eV 0) (eC (.int 1))) (aD (aT pX (aD (fF (fJ (dU (aF aR (eV 0) (eC (.int 2)))) (cT 0) (eB (aF bW (eV 0) (eV 1))) (eV 0) [none,some 1])) aG)) aG))))))
def i6:List D->Option D:=cQ 2 BY
def Db:List Str:=["floor","one","other"]
theorem M4:bQ Db ["floor","one","other"] (aV Ad):=cF rfl (by decide +kernel)
def FD:aA->Option bD:=
  (bO (mK (aT i4 (aD (eV 0) (aD (eV 1) aG))))
  (bO (mK (aT i4 (aD (eV 0) (aD (eV 2) aG))))
  (cJ (aT kU (aD (aT iB (aD (aF aR (eV 0) (eC (.int 2))) aG)) (aD (eV 1) (aD (eV 2) aG)))))))
def j9:List D->Option D:=cQ 3 FD
def CU:List Str:=["floor","cell"]
theorem MP:bQ CU ["floor","cell"] (aV zM):=cF rfl (by decide +kernel)
def FA:aA->Option bD:=
  (eU (eB (aT nO (aD (eV 0) (aD (eV 1) aG)))) (fun _=>none) gL)
def sH:List D->Option D:=cQ 2 FA
structure mX(K:PySem.W.Frag)(mg:Str->Option YP)(a:Nat->J8)(d:Nat->Zp):Prop where
 F_qi:Fo K mg "is_whole" zY ["thing"] (a 0) (d 0)
 F_qf:Fo K mg "all_cells" uS ["floor"] (a 1) (d 1)
 F_qm:Fo K mg "marked" rF ["things"] (a 2) (d 2)
 F_qk:Fo K mg "crossed" Aa ["one","other"] (a 3) (d 3)
 F_q4:Fo K mg "couples_beside" zP ["cells"] (a 4) (d 4)
 F_qb:Fo K mg "is_between" zU ["one_end","middle","other_end"] (a 5) (d 5)
 F_q7:Fo K mg "all_couples" uO ["cells"] (a 6) (d 6)
 F_qg:Fo K mg "_law_cell" zW ["_law_script","_law_k"] (a 7) (d 7)
 F_q8:Fo K mg "_law_cells" uP ["_law_floor_here"] (a 8) (d 8)
 F_q2:Fo K mg "is_whole_couple" zN ["thing"] (a 9) (d 9)
 F_qa:Fo K mg "open_cells" zS ["floor"] (a 10) (d 10)
 F_qn:Fo K mg "meets" Ac ["one","other","cell"] (a 11) (d 11)
 F_qj:Fo K mg "lets_see" zZ ["solids","one","other"] (a 12) (d 12)
 F_q9:Fo K mg "_law_drawn" zR ["_law_script","_law_k","_law_many"] (a 13) (d 13)
 F_ql:Fo K mg "is_cell" Ab ["floor","thing"] (a 14) (d 14)
 F_q3:Fo K mg "see_each_other" zO ["solids","one","other"] (a 15) (d 15)
 F_qc:Fo K mg "couples_of" uQ ["floor"] (a 16) (d 16)
 F_qd:Fo K mg "_law_floor" uR ["_law_script","_law_at","_law_most"] (a 17) (d 17)
 F_q0:Fo K mg "refuse_off_floor" zL ["floor","cell"] (a 18) (d 18)
 F_qh:Fo K mg "is_solid" zX ["floor","cell"] (a 19) (d 19)
 F_qe:Fo K mg "with_solid" zV ["floor","cell"] (a 20) (d 20)
 F_q5:Fo K mg "without_solid" uN ["floor","cell"] (a 21) (d 21)
 F_qo:Fo K mg "sees" Ad ["floor","one","other"] (a 22) (d 22)
 F_q1:Fo K mg "refuse_not_open" zM ["floor","cell"] (a 23) (d 23)
 F_q6:Fo K mg "_law_turned" zQ ["_law_keeper","_law_cell_here"] (a 24) (d 24)
 F_qp:Fo K mg "law" rG ["_law_script"] (a 25) (d 25)
 z_isinstance:mg "isinstance"=none
 z_int:mg "int"=none
 z_bool:mg "bool"=none
 z_range:mg "range"=none
 z_dict:mg "dict"=none
 z_abs:mg "abs"=none
 z_zip:mg "zip"=none
 z_sorted:mg "sorted"=none
 z_tuple:mg "tuple"=none
 z_enumerate:mg "enumerate"=none
 z_len:mg "len"=none
 z_set:mg "set"=none
 z_min:mg "min"=none
 z_max:mg "max"=none
 z_list:mg "list"=none
section
variable {P:Zd}{w:Zf}{K:PySem.W.Frag}{mg:Str->Option YP}{base:Heap}{a:Nat->J8}{d:Nat->Zp}(T:mX K mg a d)
include T
theorem Mb:aM P w K mg base aO 1 (a 0) (d 0) ["thing"] (aY K 1 pH):=by
 refine dE (g:=Fw) (G:=pH) (N:=C6) (k:=0) rfl rfl rfl T.F_qi.F M2 fun c A b s H E e=>?_
 exact(bR (cW (vV (AD (T:="int") (.inr (.inr (.inl rfl))) rfl T.z_isinstance rfl T.z_int boot_int (by decide) (aC 0)) (sN (Ot (AD (T:="bool") (.inr (.inr (.inr (.inl rfl)))) rfl T.z_isinstance rfl T.z_bool boot_bool (by decide) (aC 0)))))))
theorem L8:aM P w K mg base aO 1 (a 1) (d 1) ["floor"] (aY K 1 nN):=by
 refine dE (g:=Ap) (G:=nN) (N:=yV) (k:=0) rfl rfl rfl T.F_qf.F Bp fun c A b s H E e=>?_
 exact(bT (rQ (i:=1) Bp.nd aP)
  (bT (p3 YI rfl (pZ rfl T.z_range (aH (bC bA (aC 0) aN) aP rfl)) (e8 (i:=2) Bp.nd) (bR (AM (i:=1) (kX rfl (kC (N':=EQ) (inner:=[none,some 2]) (aV uS) yV rfl rfl (by decide +kernel)) (k6 0) (pZ rfl T.z_range (aH (bC bA (aC 0) aN) aP rfl)) (fun _ _ _ _ _=>(e8 (i:=0) Sk)) (fun _ _ _ _ _=>rS) (fun _ _ _ _ _=>(hX (aH (aC 1) (aH (aC 0) aP rfl) rfl)))))))
  (bR (cW (aC 1)))))
theorem Mh:aM P w K mg base aO 1 (a 2) (d 2) ["things"] (aY K 1 iB):=by
 refine dE (g:=Fy) (G:=iB) (N:=uA) (k:=0) rfl rfl rfl T.F_qm.F HL fun e A b s H E c=>?_
 exact(bR (cW (sL (NS rfl (lV c)) rfl T.z_dict DC.boot_dict (aH (kX rfl (kC (N':=A4) (inner:=[none]) (aV rF) uA rfl rfl (by decide +kernel)) (k6 0) (i8 (aC 0)) (fun _ _ _ _ _=>(e8 (i:=0) Ho)) (fun _ _ _ _ _=>rS) (fun _ _ _ _ _=>(hX (aH (aC 0) (aH iD aP rfl) rfl)))) aP rfl))))
theorem Me:aM P w K mg base aO 1 (a 3) (d 3) ["one","other"] (aY K 2 sD):=by
 refine dE (g:=Au) (G:=sD) (N:=C8) (k:=0) rfl rfl rfl T.F_qk.F iW fun e A b s H E c=>?_
 exact(bT (eO (i:=2) iW.nd (gI sJ rfl T.z_abs boot_abs (aH (bG k8 (bC bA (aC 1) aN) (bC bA (aC 0) aN)) aP rfl)))
  (bT (eO (i:=3) iW.nd (gI sJ rfl T.z_abs boot_abs (aH (bG k8 (bC bA (aC 1) aN) (bC bA (aC 0) aN)) aP rfl)))
  (bT (eO (i:=4) iW.nd (AC (e9 GH (bC bA (aC 1) aN) (bC bA (aC 0) aN) (dR _)) aN (AF Cv aN)))
  (bT (eO (i:=5) iW.nd (AC (e9 GH (bC bA (aC 1) aN) (bC bA (aC 0) aN) (dR _)) aN (AF Cv aN)))
  (bT (eO (i:=6) iW.nd aN)
  (bT (eO (i:=7) iW.nd aN)
  (bT (rQ (i:=8) iW.nd (aH (aC 0) aP rfl))
  (bT (ON 900 YI (qW (AO (e9 (xZ (dQ c)) (aC 6) (aC 2) (dR _)) (AQ (e9 (xZ (dQ c)) (aC 7) (aC 3) (dR _))))) (bT (eO (i:=9) iW.nd (bG fA (bG dG (bG fA aN (aC 6)) aN) (aC 3)))
  (bT (eO (i:=10) iW.nd (bG fA (bG dG (bG fA aN (aC 7)) aN) (aC 2)))
  (bT (jH (e9 jO (aC 9) (aC 10) (dR _)) (bR (eO (i:=6) iW.nd (bG dG (aC 6) aN))) jI)
  (bT (jH (e9 jO (aC 10) (aC 9) (dR _)) (bR (eO (i:=7) iW.nd (bG dG (aC 7) aN))) jI)
  (bR (FP (i:=8) (hX (aH (bG dG (bC bA (aC 0) aN) (bG fA (aC 4) (aC 6))) (aH (bG dG (bC bA (aC 0) aN) (bG fA (aC 5) (aC 7))) aP rfl) rfl)))))))))
  (bR (cW (aC 8)))))))))))
theorem LW:aM P w K mg base aO 1 (a 4) (d 4) ["cells"] (aY K 1 pF):=by
 refine dE (g:=Ar) (G:=pF) (N:=CY) (k:=0) rfl rfl rfl T.F_q4.F wV fun e A b s H E c=>?_
 exact(bT (rQ (i:=1) wV.nd aP)
  (bT (p3 YI rfl (OC rfl T.z_zip (aH (aC 0) (aH (AE (aC 0) (AL aN) AK) aP rfl) rfl)) (AI rfl (pY (e8 (i:=2) wV.nd) (pY (e8 (i:=3) wV.nd) AJ))) (bR (jH (qW (FR (e9 (gX (dQ c)) (bC bA (aC 2) aN) (bC bA (aC 3) aN) (dR _)) (FS (e9 (gX (dQ c)) (bC bA (aC 2) aN) (bC bA (aC 3) aN) (dR _))))) (bR (FP (i:=1) (sL vN rfl T.z_tuple boot_tuple (aH (gI (Ex (lV c)) rfl T.z_sorted Vo (aH (@vX _ _ _ _ (aH (hX (aH (bC bA (aC 2) aN) (aH (bC bA (aC 3) aN) aP rfl) rfl)) (aH (hX (aH (bC bA (aC 3) aN) (aH (bC bA (aC 2) aN) aP rfl) rfl)) aP rfl) rfl)) aP rfl)) aP rfl)))) jI)))
  (bR (cW (aC 1)))))
theorem L4:aM P w K mg base aO 1 (a 5) (d 5) ["one_end","middle","other_end"] (aY K 3 pG):=by
 refine dE (g:=Fs) (G:=pG) (N:=C2) (k:=0) rfl rfl rfl T.F_qb.F MX fun c A b s H E e=>?_
 exact(bR (cW (La (vW jO jO (aC 0) (aC 1) (aC 2)) (sN (vW jO jO (aC 2) (aC 1) (aC 0))))))
theorem LZ:aM P w K mg base aO 1 (a 6) (d 6) ["cells"] (aY K 1 l8):=by
 refine dE (g:=Aq) (G:=l8) (N:=yR) (k:=0) rfl rfl rfl T.F_q7.F wW fun c A b s H E e=>?_
 exact(bT (rQ (i:=1) wW.nd aP)
  (bT (p3 YI rfl (OA rfl T.z_enumerate (aH (aC 0) aP rfl)) (AI rfl (pY (e8 (i:=2) wW.nd) (pY (e8 (i:=3) wW.nd) AJ))) (bR (AM (i:=1) (kX rfl (kC (N':=EK) (inner:=[none,some 3]) (aV uO) yR rfl rfl (by decide +kernel)) (k6 0) (i8 (AE (aC 0) (AL (bG dG (aC 2) aN)) AK)) (fun _ _ _ _ _=>(e8 (i:=0) Sf)) (fun _ _ _ _ _=>rS) (fun _ _ _ _ _=>(hX (aH (aC 1) (aH (aC 0) aP rfl) rfl)))))))
  (bR (cW (aC 1)))))
theorem L9:aM P w K mg base aO 1 (a 7) (d 7) ["_law_script","_law_k"] (aY K 2 sA):=by
 refine dE (g:=Fk) (G:=sA) (N:=C4) (k:=0) rfl rfl rfl T.F_qg.F M0 fun e A b s H E c=>?_
 exact(bT (jH (e9 (GG (dQ c)) (aC 0) (@vX _ _ _ _ aP) (dR _)) (bR (cW (bG fA aN (aC 1)))) jI)
  (bR (cW (bG dG (bC bA (aC 0) (bG n7 (aC 1) (gI nR rfl T.z_len PySem.boot_len (aH (aC 0) aP rfl)))) (bG fA aN (bG qE (aC 1) (gI nR rfl T.z_len PySem.boot_len (aH (aC 0) aP rfl))))))))
theorem L0:aM P w K mg base aO 1 (a 8) (d 8) ["_law_floor_here"] (aY K 1 sB):=by
 refine dE (g:=Fn) (G:=sB) (N:=yS) (k:=0) rfl rfl rfl T.F_q8.F MV fun c A b s H E e=>?_
 exact(bR (cW (kX rfl (kC (N':=EM) (inner:=[none,some 0]) (aV uP) yS rfl rfl (by decide +kernel)) (k6 0) (pZ rfl T.z_range (aH (bG fA (bC bA (aC 0) aN) (bC bA (aC 0) aN)) aP rfl)) (fun _ _ _ _ _=>(e8 (i:=0) Sg)) (fun _ _ _ _ _=>rS) (fun _ _ _ _ _=>(hX (aH (bG qE (aC 0) (bC bA (aC 1) aN)) (aH (bG n7 (aC 0) (bC bA (aC 1) aN)) aP rfl) rfl))))))
theorem LU(b:aM P w K mg base aO 1 (a 0) (d 0) ["thing"] (aY K 1 pH)):aM P w K mg base aO 2 (a 9) (d 9) ["thing"] (aY K 1 sF):=by
 refine dE (g:=Fx) (G:=sF) (N:=CV) (k:=1) rfl rfl rfl T.F_q2.F MQ fun f A c s H E e=>?_
 exact(bT (jH (qW (AO (rR (mE (AD (T:="tuple") (.inr (.inl rfl)) rfl T.z_isinstance rfl T.z_tuple boot_tuple (by decide) (aC 0)))) (AQ (e9 (gX (dQ e)) (gI nR rfl T.z_len PySem.boot_len (aH (aC 0) aP rfl)) aN (dR _))))) (bR (cW iD)) jI)
  (bR (cW (vV (bX T.F_qi b e rfl (aH (bC bA (aC 0) aN) aP rfl) eS) (sN (bX T.F_qi b e rfl (aH (bC bA (aC 0) aN) aP rfl) eS))))))
theorem L3(c:aM P w K mg base aO 1 (a 1) (d 1) ["floor"] (aY K 1 nN)):aM P w K mg base aO 2 (a 10) (d 10) ["floor"] (aY K 1 pJ):=by
 refine dE (g:=Fz) (G:=pJ) (N:=C1) (k:=1) rfl rfl rfl T.F_qa.F MW fun f A e s H E b=>?_
 exact(bR (cW (FI rfl (lV b) rfl T.z_sorted Vo (OO rfl (lV b) (AN rfl (dQ b) rfl T.z_set boot_set (aH (bX T.F_qf c b rfl (aH (aC 0) aP rfl) eS) aP rfl)) (AN rfl (dQ b) rfl T.z_set boot_set (aH (bC bA (aC 0) aN) aP rfl))))))
theorem Mi(b:aM P w K mg base aO 1 (a 5) (d 5) ["one_end","middle","other_end"] (aY K 3 pG)):aM P w K mg base aO 2 (a 11) (d 11) ["one","other","cell"] (aY K 3 pI):=by
 refine dE (g:=Aw) (G:=pI) (N:=Da) (k:=1) rfl rfl rfl T.F_qn.F wX fun f A c s H E e=>?_
 exact(bT (jH (qW (AO (rR (mE (bX T.F_qb b e rfl (aH (bC bA (aC 0) aN) (aH (bC bA (aC 2) aN) (aH (bC bA (aC 1) aN) aP rfl) rfl) rfl) gE))) (AQ (rR (mE (bX T.F_qb b e rfl (aH (bC bA (aC 0) aN) (aH (bC bA (aC 2) aN) (aH (bC bA (aC 1) aN) aP rfl) rfl) rfl) gE)))))) (bR (cW iD)) jI)
  (bT (eO (i:=3) wX.nd (bG k8 (bC bA (aC 1) aN) (bC bA (aC 0) aN)))
  (bT (eO (i:=4) wX.nd (bG k8 (bC bA (aC 1) aN) (bC bA (aC 0) aN)))
  (bT (eO (i:=5) wX.nd (gI sJ rfl T.z_abs boot_abs (aH (bG k8 (bG fA (aC 3) (bG k8 (bC bA (aC 2) aN) (bC bA (aC 0) aN))) (bG fA (aC 4) (bG k8 (bC bA (aC 2) aN) (bC bA (aC 0) aN)))) aP rfl)))
  (bR (cW (sM jO (bG fA aN (aC 5)) (bG dG (gI sJ rfl T.z_abs boot_abs (aH (aC 3) aP rfl)) (gI sJ rfl T.z_abs boot_abs (aH (aC 4) aP rfl))) (dR _))))))))
theorem Mc(c:aM P w K mg base aO 1 (a 3) (d 3) ["one","other"] (aY K 2 sD))(e:aM P w K mg base aO 1 (a 4) (d 4) ["cells"] (aY K 1 pF)):aM P w K mg base aO 2 (a 12) (d 12) ["solids","one","other"] (aY K 3 nP):=by
 refine dE (g:=Av) (G:=nP) (N:=C7) (k:=1) rfl rfl rfl T.F_qj.F tP fun h A f s H E b=>?_
 exact(bT (eO (i:=3) tP.nd (bX T.F_qk c b rfl (aH (aC 1) (aH (aC 2) aP rfl) rfl) hZ))
  (bT (p3 YI rfl (i8 (AE (aC 3) AK (AL (AF Cv aN)))) (e8 (i:=4) tP.nd) (bR (jH (e9 (BD (gQ b)) (aC 4) (aC 0) (by with_unfolding_all rfl)) (bR (cW iD)) jI)))
  (bT (p3 YI rfl (i8 (bX T.F_q4 e b rfl (aH (aC 3) aP rfl) eS)) (AI rfl (pY (e8 (i:=5) tP.nd) (pY (e8 (i:=6) tP.nd) AJ))) (bR (jH (qW (FR (e9 (BD (gQ b)) (aC 5) (aC 0) (by with_unfolding_all rfl)) (FS (e9 (BD (gQ b)) (aC 6) (aC 0) (by with_unfolding_all rfl))))) (bR (cW iD)) jI)))
  (bR (cW iD)))))
theorem L1(b:aM P w K mg base aO 1 (a 7) (d 7) ["_law_script","_law_k"] (aY K 2 sA)):aM P w K mg base aO 2 (a 13) (d 13) ["_law_script","_law_k","_law_many"] (aY K 3 gR):=by
 refine dE (g:=Fp) (G:=gR) (N:=C0) (k:=1) rfl rfl rfl T.F_q9.F Bo fun f A c s H E e=>?_
 exact(bT (eO (i:=3) Bo.nd (bG n7 (bG dG (bG fA (bG n7 (bX T.F_qg b e rfl (aH (aC 0) (aH (aC 1) aP rfl) rfl) hZ) aN) aN) (bG fA aN (bG dG (aC 1) aN))) aN))
  (bT (eO (i:=3) Bo.nd (bG n7 (bG dG (bG fA (aC 3) (aC 3)) (bG qE (aC 3) aN)) aN))
  (bR (cW (bG n7 (bG qE (bG n7 (bG dG (bG fA (aC 3) (aC 3)) (bG qE (aC 3) aN)) aN) aN) (aC 2))))))
theorem Mf(b:aM P w K mg base aO 2 (a 9) (d 9) ["thing"] (aY K 1 sF)):aM P w K mg base aO 3 (a 14) (d 14) ["floor","thing"] (aY K 2 sE):=by
 refine dE (g:=Fu) (G:=sE) (N:=C9) (k:=2) rfl rfl rfl T.F_ql.F M3 fun f A c s H E e=>?_
 exact(bT (jH (rR (mE (bX T.F_q2 b e rfl (aH (aC 1) aP rfl) eS))) (bR (cW iD)) jI)
  (bR (cW (vV (vW jO (xZ (dQ e)) aN (bC bA (aC 1) aN) (bC bA (aC 0) aN)) (sN (vW jO (xZ (dQ e)) aN (bC bA (aC 1) aN) (bC bA (aC 0) aN)))))))
theorem LV(b:aM P w K mg base aO 2 (a 12) (d 12) ["solids","one","other"] (aY K 3 nP)):aM P w K mg base aO 3 (a 15) (d 15) ["solids","one","other"] (aY K 3 kU):=by
 refine dE (g:=FC) (G:=kU) (N:=CW) (k:=2) rfl rfl rfl T.F_q3.F MS fun f A c s H E e=>?_
 exact(bR (cW (vV (sM (RV (gQ e)) (aC 2) (aC 0) (by with_unfolding_all rfl)) (sN (bX T.F_qj b e rfl (aH (aC 0) (aH (aC 1) (aH (aC 2) aP rfl) rfl) rfl) gE)))))
theorem L5(b:aM P w K mg base aO 1 (a 2) (d 2) ["things"] (aY K 1 iB))(f:aM P w K mg base aO 1 (a 6) (d 6) ["cells"] (aY K 1 l8))(c:aM P w K mg base aO 2 (a 12) (d 12) ["solids","one","other"] (aY K 3 nP))(e:aM P w K mg base aO 2 (a 10) (d 10) ["floor"] (aY K 1 pJ)):aM P w K mg base aO 3 (a 16) (d 16) ["floor"] (aY K 1 kT):=by
 refine dE (g:=As) (G:=kT) (N:=yT) (k:=2) rfl rfl rfl T.F_qc.F HK fun l A j s H E h=>?_
 exact(bT (eO (i:=1) HK.nd (bX T.F_qm b h rfl (aH (bC bA (aC 0) aN) aP rfl) eS))
  (bR (cW (kX rfl (kC (N':=EN) (inner:=[none,some 1]) (aV uQ) yT rfl rfl (by decide +kernel)) (k6 0) (i8 (bX T.F_q7 f h rfl (aH (bX T.F_qa e h rfl (aH (aC 0) aP rfl) eS) aP rfl) eS)) (fun _ _ _ _ _=>(e8 (i:=0) Si)) (fun _ _ _ _ _=>(vY (mE (bX T.F_qj c h rfl (aH (aC 1) (aH (bC bA (aC 0) aN) (aH (bC bA (aC 0) aN) aP rfl) rfl) rfl) gE)))) (fun _ _ _ _ _=>(aC 0))))))
theorem L6(b:aM P w K mg base aO 2 (a 13) (d 13) ["_law_script","_law_k","_law_many"] (aY K 3 gR)):aM P w K mg base aO 3 (a 17) (d 17) ["_law_script","_law_at","_law_most"] (aY K 3 sC):=by
 refine dE (g:=Ao) (G:=sC) (N:=yU) (k:=2) rfl rfl rfl T.F_qd.F pN fun f A e s H E c=>?_
 exact(bT (eO (i:=3) pN.nd (bG dG aN (bX T.F_q9 b c rfl (aH (aC 0) (aH (aC 1) (aH (aC 2) aP rfl) rfl) rfl) gE)))
  (bT (eO (i:=4) pN.nd (bG dG aN (bX T.F_q9 b c rfl (aH (aC 0) (aH (bG dG (aC 1) aN) (aH (aC 2) aP rfl) rfl) rfl) gE)))
  (bT (eO (i:=5) pN.nd (bC bA (@vX _ _ _ _ (aH aN (aH aN (aH aN (aH aN (aH aN aP rfl) rfl) rfl) rfl) rfl)) (bX T.F_q9 b c rfl (aH (aC 0) (aH (bG dG (aC 1) aN) (aH aN aP rfl) rfl) rfl) gE)))
  (bT (rQ (i:=6) pN.nd aP)
  (bT (p3 YI rfl (pZ rfl T.z_range (aH (aC 3) aP rfl)) (e8 (i:=7) pN.nd) (bR (AM (i:=6) (kX rfl (kC (N':=EO) (inner:=[none,some 7,some 0,some 5,some 1]) (aV uR) yU rfl rfl (by decide +kernel)) (k6 0) (pZ rfl T.z_range (aH (aC 4) aP rfl)) (fun _ _ _ _ _=>(e8 (i:=0) Sj)) (fun _ _ _ _ _=>(vY (e9 (GG (dQ c)) (bX T.F_q9 b c rfl (aH (aC 2) (aH (bG dG (bG dG (bG dG (aC 4) aN) (bG fA aN (aC 1))) (aC 0)) (aH (aC 3) aP rfl) rfl) rfl) gE) aN (dR _)))) (fun _ _ _ _ _=>(hX (aH (aC 1) (aH (aC 0) aP rfl) rfl)))))))
  (bR (cW (hX (aH (aC 3) (aH (aC 4) (aH (sL vN rfl T.z_tuple boot_tuple (aH (aC 6) aP rfl)) aP rfl) rfl) rfl)))))))))
theorem LS(b:aM P w K mg base aO 3 (a 14) (d 14) ["floor","thing"] (aY K 2 sE)):aM P w K mg base aO 4 (a 18) (d 18) ["floor","cell"] (aY K 2 i4):=by
 refine dE (g:=FB) (G:=i4) (N:=CT) (k:=3) rfl rfl rfl T.F_q0.F MO fun f A c s H E e=>?_
 exact(bR (jH (rR (mE (bX T.F_ql b e rfl (aH (aC 0) (aH (aC 1) aP rfl) rfl) hZ))) (bR FQ) jI))
theorem Ma(b:aM P w K mg base aO 4 (a 18) (d 18) ["floor","cell"] (aY K 2 i4)):aM P w K mg base aO 5 (a 19) (d 19) ["floor","cell"] (aY K 2 nO):=by
 refine dE (g:=Fv) (G:=nO) (N:=C5) (k:=4) rfl rfl rfl T.F_qh.F M1 fun f A c s H E e=>?_
 exact(bT (rO (bX T.F_q0 b e rfl (aH (aC 0) (aH (aC 1) aP rfl) rfl) hZ))
  (bR (cW (sM (n6 (gQ e)) (aC 1) (bC bA (aC 0) aN) (by with_unfolding_all rfl)))))
theorem L7(b:aM P w K mg base aO 4 (a 18) (d 18) ["floor","cell"] (aY K 2 i4)):aM P w K mg base aO 5 (a 20) (d 20) ["floor","cell"] (aY K 2 i5):=by
 refine dE (g:=BX) (G:=i5) (N:=C3) (k:=4) rfl rfl rfl T.F_qe.F MY fun f A c s H E e=>?_
 exact(bT (rO (bX T.F_q0 b e rfl (aH (aC 0) (aH (aC 1) aP rfl) rfl) hZ))
  (bR (cW (hX (aH (bC bA (aC 0) aN) (aH (bC bA (aC 0) aN) (aH (sL vN rfl T.z_tuple boot_tuple (aH (FI rfl (lV e) rfl T.z_sorted Vo (OP (AN rfl (dQ e) rfl T.z_set boot_set (aH (bG dG (bC bA (aC 0) aN) (hX (aH (aC 1) aP rfl))) aP rfl)))) aP rfl)) aP rfl) rfl) rfl)))))
theorem LX(b:aM P w K mg base aO 4 (a 18) (d 18) ["floor","cell"] (aY K 2 i4)):aM P w K mg base aO 5 (a 21) (d 21) ["floor","cell"] (aY K 2 i6):=by
 refine dE (g:=BY) (G:=i6) (N:=yQ) (k:=4) rfl rfl rfl T.F_q5.F MT fun f A c s H E e=>?_
 exact(bT (rO (bX T.F_q0 b e rfl (aH (aC 0) (aH (aC 1) aP rfl) rfl) hZ))
  (bR (cW (hX (aH (bC bA (aC 0) aN) (aH (bC bA (aC 0) aN) (aH (sL vN rfl T.z_tuple boot_tuple (aH (kX rfl (kC (N':=EJ) (inner:=[none,some 1]) (aV uN) yQ rfl rfl (by decide +kernel)) (k6 0) (i8 (bC bA (aC 0) aN)) (fun _ _ _ _ _=>(e8 (i:=0) Se)) (fun _ _ _ _ _=>(vY (e9 (gX (dQ e)) (aC 0) (aC 1) (dR _)))) (fun _ _ _ _ _=>(aC 0))) aP rfl)) aP rfl) rfl) rfl)))))
theorem Mj(b:aM P w K mg base aO 4 (a 18) (d 18) ["floor","cell"] (aY K 2 i4))(e:aM P w K mg base aO 3 (a 15) (d 15) ["solids","one","other"] (aY K 3 kU))(c:aM P w K mg base aO 1 (a 2) (d 2) ["things"] (aY K 1 iB)):aM P w K mg base aO 5 (a 22) (d 22) ["floor","one","other"] (aY K 3 j9):=by
 refine dE (g:=FD) (G:=j9) (N:=Db) (k:=4) rfl rfl rfl T.F_qo.F M4 fun i A h s H E f=>?_
 exact(bT (rO (bX T.F_q0 b f rfl (aH (aC 0) (aH (aC 1) aP rfl) rfl) hZ))
  (bT (rO (bX T.F_q0 b f rfl (aH (aC 0) (aH (aC 2) aP rfl) rfl) hZ))
  (bR (cW (bX T.F_q3 e f rfl (aH (bX T.F_qm c f rfl (aH (bC bA (aC 0) aN) aP rfl) eS) (aH (aC 1) (aH (aC 2) aP rfl) rfl) rfl) gE)))))
theorem LT(b:aM P w K mg base aO 5 (a 19) (d 19) ["floor","cell"] (aY K 2 nO)):aM P w K mg base aO 6 (a 23) (d 23) ["floor","cell"] (aY K 2 sH):=by
 refine dE (g:=FA) (G:=sH) (N:=CU) (k:=5) rfl rfl rfl T.F_q1.F MP fun f A c s H E e=>?_
 exact(bR (jH (mE (bX T.F_qh b e rfl (aH (aC 0) (aH (aC 1) aP rfl) rfl) hZ)) (bR FQ) jI))
end
end My
namespace My
open PySem.Spec PySem.SeqAt L2 CL DL OB SD ZL SL EL DC KP ST
def H7(K:PySem.W.Frag):Sp:=fun b H Q _=>∃(F:J8->Prop) (ds:List D) (cs:List CK),(∀ a,F a->H a≠none)/\Reps K F H [.list ds] b/\Paired (fun d k=>jX d=some k) ds cs/\cs.Nodup/\cs.length<=1000 /\
 ∀ F' H' p l ep,aI F F' H H'->H' p=none->l.map (·.1)=cs->(∀ q∈l,eX K H' (.inr q.1) q.2)->Q (.ref p) (aJ H' p (bN p (c7 l) ep))
theorem O3(ds:List D):∀(s0:Sl),mD (cT 0) eT (c6 (aD (eV 0) (aD (eC (.bool true)) aG))) ds [s0]=some (ds.map fun d=>.tuple [d,.bool true]):=by
 induction ds with
 | nil=>intro s0;rfl
 | cons d ds a=>
  intro s0;unfold mD
  show Option.bind _ _=_
  rw [show cT 0 d [s0]=some [.dat d]from rfl,Qj,show eT [Sl.dat d]=some true from rfl,Qj,if_pos rfl,show c6 (aD (eV 0) (aD (eC (.bool true)) aG)) [Sl.dat d]=some (.tuple [d,.bool true])from rfl,Qj,a];rfl
section
variable {P:Zd}{w:Zf}{K:PySem.W.Frag}{mg:Str->Option YP}{base:Heap}{a:Nat->J8}{d:Nat->Zp}(T:mX K mg a d)
include T
theorem RL:aM P w K mg base aO 1 (a 2) (d 2) ["things"] (H7 K):=by
 refine T.F_qm.F.ok HL (fun m H Q E h=>?_) (fun y A e s H m Q E r h=>?_)
 ·obtain⟨F,b,j,z,R,_⟩:=h;rw [<- R.length];rfl
 ·obtain⟨F,b,j,z,R,f,n,g,c⟩:=h
  refine⟨_,wG (BP (BI (O9 rfl (lV r)) rfl T.z_dict DC.boot_dict (aH (kX rfl (kC (N':=A4) (inner:=[none]) (aV rF) uA rfl rfl (by decide +kernel)) (k6 0) (i8 (aC 0)) (fun _ _ _ _ _=>(e8 (i:=0) Ho)) (fun _ _ _ _ _=>rS) (fun _ _ _ _ _=>(hX (aH (aC 0) (aH iD aP rfl) rfl)))) aP rfl))),?_⟩
  have o:b.length<=1000:=by rw [Paired.length f];exact g
  refine⟨F,H,cY 1 [.list b],[.list (b.map fun d=>.tuple [d,.bool true])],xE z R,?_,fun k G I E1 B=>⟨k,b,j,E1.fz z,B,f,n,g,fun p l x t u v=>c k G p l x E1 t u v⟩⟩
  have q:fF (fJ (dU (eV 0)) (cT 0) eT (c6 (aD (eV 0) (aD (eC (.bool true)) aG))) [none]) (cY 1 [.list b])=some (.list (b.map fun d=>.tuple [d,.bool true])):=by
   unfold fF fJ;rw [show dU (eV 0) (cY 1 [.list b])=some b from rfl,Qj,show fV [none] (cY 1 [.list b])=[Sl.no]from rfl,O3,Qj,if_pos (by rw [Qi];exact o)];rfl
  show(fF _ _).bind _=_
  rw [q];rfl
end
abbrev wI:ZE:=k3 (top 29) 0
abbrev wL:ZE:=k3 (top 29) 1
abbrev wO:ZE:=k3 (top 29) 2
abbrev wH:ZE:=k3 (top 29) 3
abbrev wP:ZE:=k3 (top 29) 4
abbrev wK:ZE:=k3 (top 29) 5
abbrev wN:ZE:=k3 (top 29) 6
abbrev wM:ZE:=k3 (top 29) 7
abbrev wJ:ZE:=k3 (top 29) 8
def NU:List Str:=["self","floor"]
def vE:List Str:=["self","cell"]
def Eh:List Str:=["self","floor","cell","solids","changed","couple"]
def Ej:List Str:=["self","couples","couple"]
def pU:List Str:=["self"]
def Ei:List Str:=["self","one","other"]
theorem VC:bQ NU ["self","floor"] (aV wI):=cF rfl (by decide +kernel)
theorem VF:bQ vE ["self","cell"] (aV wL):=cF rfl (by decide +kernel)
theorem Te:bQ vE ["self","cell"] (aV wO):=cF rfl (by decide +kernel)
theorem wQ:bQ Eh ["self","floor","cell"] (aV wH):=cF rfl (by decide +kernel)
theorem Iv:bQ Ej ["self","couples"] (aV wP):=cF rfl (by decide +kernel)
theorem VE:bQ pU ["self"] (aV wK):=cF rfl (by decide +kernel)
theorem VG:bQ Ei ["self","one","other"] (aV wM):=cF rfl (by decide +kernel)
theorem VD:bQ pU ["self"] (aV wJ):=cF rfl (by decide +kernel)
theorem VH:bQ pU ["self"] (aV wN):=cF rfl (by decide +kernel)
structure qS(K:PySem.W.Frag)(mg:Str->Option YP)(C:J8):Prop where
 cl:fC K C
 nF:iC K C "floor"
 nS:iC K C "sights"
 nL:iC K C "looks"
 mC:mg "Keeper"=some (.ref C)
def DJ:GS K3:=e7 (fT 0 jL)
def Ix:GS K3:=e7 (Km 0)
def Iy:GS K3:=nI (dU (eV 1)) 2 (dC (xB (kR 0 (eV 2))) (CH 0 (eV 2)) (CI 0 (eV 2)))
def Iw:GS K3:=e7 (fT 0 xG)
def nM:GM K3:=gD 0 1 Iw
def DK:GS K3:=e7 (iY j9 (cS (fT 0 jL) (cS (xP (eV 1)) (cS (xP (eV 2)) fQ))))
def l7:GM K3:=gD 0 3 DK
def l6:GM K3:=gD 0 1 DJ
def iZ:GM K3:=gD 0 1 Ix
def r8:GM K3:=gD 0 3 Iy
def zI:GS K3:=bZ (pT 0 Fc (xP (eV 1)))
 (bZ (eG 3 (xP (aT iB (aD (aF aR (eV 1) (eC (.int 2))) aG))))
 (bZ (uZ 4 fQ)
 (bZ (nI (dU (aT l8 (aD (aT nN (aD (eV 1) aG)) aG))) 5 (dC (xP (eB (aT pI (aD (aF aR (eV 5) (eC (.int 0))) (aD (aF aR (eV 5) (eC (.int 1))) (aD (eV 2) aG))))))
  (bZ (pT 0 B9 (cM cB (fT 0 xG) (xP (eC (.int 1)))))
  (dC (xB (cM bW (xP (aT kU (aD (eV 3) (aD (aF aR (eV 5) (eC (.int 0))) (aD (aF aR (eV 5) (eC (.int 1))) aG))))) (kR 0 (eV 5)))) (pC 4 (xP (eV 5))) fU)) fU))
 (Am 4 (bZ (sR (cZ 0 r8 (aD (eV 4) aG))) (e7 (xP (eV 4))))))))
def l5:GM K3:=gD 0 6 zI
def zJ:GS K3:=bZ (sR (iY sH (cS (fT 0 jL) (cS (xP (eV 1)) fQ)))) (e7 (tX 0 l5 (cS (iY i5 (cS (fT 0 jL) (cS (xP (eV 1)) fQ))) (cS (xP (eV 1)) fQ))))
def rZ:GM K3:=gD 0 2 zJ
def BT:GS K3:=bZ (dC (o9 (xB (iY nO (cS (fT 0 jL) (cS (xP (eV 1)) fQ))))) (fun _ _=>none) fU) (e7 (tX 0 l5 (cS (iY i6 (cS (fT 0 jL) (cS (xP (eV 1)) fQ))) (cS (xP (eV 1)) fQ))))
def r0:GM K3:=gD 0 2 BT
theorem V4{X:Cx}{B:Type}{k:dS X.K B}{τ:List (Nat × Nat)}{f:ZE}:XS k τ f (fun _ _=>none):=fun b s g H W I q=>by
 obtain⟨a,e,d,F,h,i,j,o,l,S,q,c⟩:=q;cases q
theorem nH{B:Type}:∀(ρ:aA) (Ω:List B) (x:List D × List B),fQ ρ Ω=some x->x.1.length=0:=fun _ _ _ h=>by cases h;rfl
theorem gH{B:Type}{n:Nat}{ga:GX B D}{gr:GX B (List D)}(h:∀(ρ:aA) (Ω:List B) (x:List D × List B),gr ρ Ω=some x->x.1.length=n):∀(ρ:aA) (Ω:List B) (x:List D × List B),cS ga gr ρ Ω=some x->x.1.length=n+1:=fun ρ Ω x q=>by
 obtain⟨y,_,q⟩:=aE q;obtain⟨z,e,q⟩:=aE q;cases q;rw [Qv,h _ _ _ e]
section
variable {P:Zd}{w:Zf}{K:PySem.W.Frag}{mg:Str->Option YP}{base:Heap}{a:Nat->J8}{d:Nat->Zp}{C:J8}(T:mX K mg a d)(B:qS K mg C)
include T B
theorem RF(F:eP K "now" "Keeper.now" wK f fd):aM P w K mg base aO 1 f fd ["self"] (cV (kK K C) 1 l6):=by
 refine kN (k:=kK K C) (j:=0) (g:=DJ) (G:=l6) (N:=pU) (kk:=0) rfl rfl rfl F VE fun b A a s H E c=>?_;exact dJ (g8 (lY (i:=0) (j:=0) (by decide) B.cl B.nF p8))
theorem RE(F:eP K "looked" "Keeper.looked" wJ f fd):aM P w K mg base aO 1 f fd ["self"] (cV (kK K C) 1 nM):=by
 refine kN (k:=kK K C) (j:=0) (g:=Iw) (G:=nM) (N:=pU) (kk:=0) rfl rfl rfl F VD fun b A a s H E c=>?_;exact dJ (g8 (lY (i:=0) (j:=0) (by decide) B.cl B.nL Fq))
theorem RH(c:aM P w K mg base aO 5 (a 22) (d 22) ["floor","one","other"] (aY K 3 j9)){f:J8}{h:Zp}(F:eP K "do_see" "Keeper.do_see" wM f h):aM P w K mg base aO 6 f h ["self","one","other"] (cV (kK K C) 3 l7):=by
 refine kN (k:=kK K C) (j:=0) (g:=DK) (G:=l7) (N:=Ei) (kk:=5) rfl rfl rfl F VG fun n A e s H E l=>?_;exact dJ (g8 (sQ c l rfl T.F_qo.m T.F_qo.F.kp T.F_qo.b (gN (lY (i:=0) (j:=0) (by decide) B.cl B.nF p8) (gN (cD (aC 1)) (gN (cD (aC 2)) lX))) (gH (gH (gH nH)))))
theorem RI(F:eP K "seen" "Keeper.seen" wN f fd):aM P w K mg base aO 1 f fd ["self"] (cV (kK K C) 1 iZ):=by
 refine kN (k:=kK K C) (j:=0) (g:=Ix) (G:=iZ) (N:=pU) (kk:=0) rfl rfl rfl F VH fun c A a s H E b=>?_;exact dJ (g8 (V0 (i:=0) (j:=0) (gQ b) (by decide) B.cl B.nS rfl (Zx rfl) (by decide) (by decide) rfl rfl (lV b) rfl T.z_sorted rfl T.z_list rfl rfl rfl rfl))
theorem RK(F:eP K "turn_over" "Keeper.turn_over" wP f fd):aM P w K mg base aO 1 f fd ["self","couples"] (cV (kK K C) 2 r8):=by
 refine kN (k:=kK K C) (j:=0) (g:=Iy) (G:=r8) (N:=Ej) (kk:=0) rfl rfl rfl F Iv fun c A a s H E b=>?_
 exact dJ (yH (i:=2) YI rfl Iv.nd (by decide) (i8 (aC 1)) (dJ (lG (Wa (i:=0) (j:=0) (gQ b) (by decide) B.cl B.nS (aC 2) rfl (Zx rfl) (by decide) (by decide) rfl (by with_unfolding_all rfl))
  (dJ (V6 (i:=0) (j:=0) (gQ b) (by decide) B.cl B.nS (aC 2) rfl (Zx rfl) (by decide) (by decide) rfl rfl rfl rfl rfl rfl rfl)) (dJ (V7 (i:=0) (j:=0) (gQ b) (by decide) B.cl B.nS (aC 2) rfl (Zx rfl) (by decide) (by decide) rfl rfl)))))
theorem SK(o:kJ K C "turn_over" ft)(q:L2.Binds K dt ["self","couples"] [])(r:aM P w K mg base aO 1 ft dt ["self","couples"] (cV (kK K C) 2 r8))
  (e:aM P w K mg base aO 1 (a 2) (d 2) ["things"] (aY K 1 iB)) (l:aM P w K mg base aO 1 (a 6) (d 6) ["cells"] (aY K 1 l8)) (h:aM P w K mg base aO 1 (a 1) (d 1) ["floor"] (aY K 1 nN)) (c:aM P w K mg base aO 2 (a 11) (d 11) ["one","other","cell"] (aY K 3 pI)) (m:aM P w K mg base aO 3 (a 15) (d 15) ["solids","one","other"] (aY K 3 kU))
  (F:eP K "changed_to" "Keeper.changed_to" wH f fd):aM P w K mg base aO 4 f fd ["self","floor","cell"] (cV (kK K C) 3 l5):=by
 refine kN (k:=kK K C) (j:=0) (g:=zI) (G:=l5) (N:=Eh) (kk:=3) rfl rfl rfl F wQ fun p A n s H E b=>?_
 exact dI (IF (i:=0) (j:=0) (by decide) B.cl B.nF M5 (cD (aC 1)))
  (dI (jQ (i:=3) wQ.nd (by decide) (cD (bX T.F_qm e b rfl (aH (bC bA (aC 1) aN) aP rfl) eS)))
  (dI (V5 (i:=4) wQ.nd (by decide) lX)
  (dI (yH (i:=5) YI rfl wQ.nd (by decide) (i8 (bX T.F_q7 l b rfl (aH (bX T.F_qf h b rfl (aH (aC 1) aP rfl) eS) aP rfl) eS)) (dJ (lG (II (mE (bX T.F_qn c b rfl (aH (bC bA (aC 5) aN) (aH (bC bA (aC 5) aN) (aH (aC 2) aP rfl) rfl) rfl) gE)))
   (dI (IF (i:=0) (j:=0) (by decide) B.cl B.nL M6 (IE dG (lY (i:=0) (j:=0) (by decide) B.cl B.nL Fq) (cD aN)))
   (dJ (lG (lH (gX (dQ b)) (cD (bX T.F_q3 m b rfl (aH (aC 3) (aH (bC bA (aC 5) aN) (aH (bC bA (aC 5) aN) aP rfl) rfl) rfl) gE)) (VZ (i:=0) (j:=0) (gQ b) (by decide) B.cl B.nS (aC 5) rfl (Zx rfl) (by decide) (by decide) rfl (by with_unfolding_all rfl)) (dR _)) (dJ (V1 (i:=4) (cD (aC 5)))) l0))) l0)))
  (V8 4 (dI (IG (yG (i:=0) (j:=0) (by decide) B.cl o (fun _ _ _ _=>⟨rfl,rfl⟩) r (b.mono (by decide)) q (aH (aC 4) aP rfl) eS)) (dJ (g8 (cD (aC 4)))))))))
variable {fc:J8}{dc:Zp}(mc:kJ K C "changed_to" fc)(bc:L2.Binds K dc ["self","floor","cell"] [])(Gc:aM P w K mg base aO 4 fc dc ["self","floor","cell"] (cV (kK K C) 3 l5))
include mc bc Gc
theorem RG(e:aM P w K mg base aO 6 (a 23) (d 23) ["floor","cell"] (aY K 2 sH))(c:aM P w K mg base aO 5 (a 20) (d 20) ["floor","cell"] (aY K 2 i5)){f:J8}{n:Zp}(F:eP K "put_solid" "Keeper.put_solid" wL f n):aM P w K mg base aO 7 f n ["self","cell"] (cV (kK K C) 2 rZ):=by
 refine kN (k:=kK K C) (j:=0) (g:=zJ) (G:=rZ) (N:=vE) (kk:=6) rfl rfl rfl F VF fun o A h s H E l=>?_
 exact dI (IG (sQ e l rfl T.F_q1.m T.F_q1.F.kp T.F_q1.b (gN (lY (i:=0) (j:=0) (by decide) B.cl B.nF p8) (gN (cD (aC 1)) lX)) (gH (gH nH))))
  (dJ (g8 (ID (i:=0) (j:=0) (by decide) B.cl mc (fun _=>⟨rfl,rfl⟩) Gc (l.mono (by decide)) bc (gN (sQ c (l.mono (by decide)) rfl T.F_qe.m T.F_qe.F.kp T.F_qe.b (gN (lY (i:=0) (j:=0) (by decide) B.cl B.nF p8) (gN (cD (aC 1)) lX)) (gH (gH nH))) (gN (cD (aC 1)) lX)) (gH (gH nH)))))
theorem RJ(c:aM P w K mg base aO 5 (a 19) (d 19) ["floor","cell"] (aY K 2 nO))(e:aM P w K mg base aO 5 (a 21) (d 21) ["floor","cell"] (aY K 2 i6)){f:J8}{n:Zp}(F:eP K "take_solid" "Keeper.take_solid" wO f n):aM P w K mg base aO 7 f n ["self","cell"] (cV (kK K C) 2 r0):=by
 refine kN (k:=kK K C) (j:=0) (g:=BT) (G:=r0) (N:=vE) (kk:=6) rfl rfl rfl F Te fun o A h s H E l=>?_
 exact dI (lG (IH (Wb (sQ c (l.mono (by decide)) rfl T.F_qh.m T.F_qh.F.kp T.F_qh.b (gN (lY (i:=0) (j:=0) (by decide) B.cl B.nF p8) (gN (cD (aC 1)) lX)) (gH (gH nH))))) (dJ V4) l0)
  (dJ (g8 (ID (i:=0) (j:=0) (by decide) B.cl mc (fun _=>⟨rfl,rfl⟩) Gc (l.mono (by decide)) bc (gN (sQ e (l.mono (by decide)) rfl T.F_q5.m T.F_q5.F.kp T.F_q5.b (gN (lY (i:=0) (j:=0) (by decide) B.cl B.nF p8) (gN (cD (aC 1)) lX)) (gH (gH nH))) (gN (cD (aC 1)) lX)) (gH (gH nH)))))
end
end My
namespace My
open PySem.Spec PySem.SeqAt L2 CL DL OB SD ZL SL EL DC KP ST
open SC (decAll)
theorem FJ:∀{ds:List D}{cs:List CK},decAll ds=some cs->Paired (fun d k=>jX d=some k) ds cs
 | [],_,h=>by cases h;exact .nil
 | d::r,_,h=>by
  obtain⟨k,b,h⟩:=aE h;obtain⟨c,a,h⟩:=aE h;cases h;exact .cons b (FJ a)
def pE:List D->Option K3
 | [f]=>(kT [f]).bind fun d=>match d with
  | .list b=>(decAll b).bind fun a=>if a.Nodup/\a.length<=1000 then some (f,a,0)else none
  | _=>none
 | _=>none
theorem Lz(a:V):cP "floor" a []=[(("floor":Str),a)]:=rfl
theorem LA(a v:V):cP "sights" v [(("floor":Str),a)]=[(("floor":Str),a),("sights",v)]:=by
 unfold cP;rw [if_neg (by decide)];unfold cP;rfl
theorem LB(b:V)(a:J8)(n:Int):cP "looks" (.int n) [(("floor":Str),b),("sights",.ref a)]=fP b a n:=by
 unfold cP;rw [if_neg (by decide)];unfold cP;rw [if_neg (by decide)];unfold cP;rfl
section
variable {P:Zd}{w:Zf}{K:PySem.W.Frag}{mg:Str->Option YP}{base:Heap}{a:Nat->J8}{d:Nat->Zp}{C:J8}(T:mX K mg a d)(B:qS K mg C)
include T B
theorem SM(g:aM P w K mg base aO 1 (a 2) (d 2) ["things"] (H7 K))(N:aM P w K mg base aO 3 (a 16) (d 16) ["floor"] (aY K 1 kT))(F:eP K "__init__" "Keeper.__init__" wI f fd):aM P w K mg base aO 4 f fd ["self","floor"] (uU (kK K C) C 1 pE):=by
 refine F.ok VC (fun vs H Q E h=>?_) (fun a2 A O s H vs Q E hr h=>?_)
 ·obtain⟨F,x,e,us,ds,b,rfl,o,_,_,_,r,_⟩:=h;rw [Qv,<- r.length,o];rfl
 obtain⟨F,x,e,us,ds,b,rfl,o,z,hx,nx,r,q,c⟩:=h;unfold pE at q
 split at q
 ·rename_i fl;obtain⟨dl,e1,q⟩:=aE q
  split at q
  ·rename_i cl;obtain⟨cs,e2,q⟩:=aE q;by_cases u:cs.Nodup/\cs.length<=1000
   ·rw [if_pos u]at q;cases q
    cases r with
    | @cons _ vf _ _ rf t=>
     cases t
     refine⟨_,yA (x9 (pv 0) (pv 1) rfl) (yA (x9 (pv 0) (tG g (hr.mono (by decide)) rfl T.F_qm.m T.F_qm.F.kp T.F_qm.b .nil k9 (gY (tG N hr rfl T.F_qc.m T.F_qc.F.kp T.F_qc.b .nil k9 (gY (pv 1) iV)) iV)) rfl) (wG (x9 (pv 0) Gk rfl))),?_⟩
     refine⟨_,rfl,_,rfl,x,C,e,[],rfl,hx,B.cl,B.nF,(by decide),?_⟩
     rw [Lz];have K1:c5 K (fun a=>a=x) F F H (aJ H x (.ins C e [(("floor":Str),vf)])):=qA z hx kG.1 kG.2 nx rfl;have I:aJ H x (.ins C e [(("floor":Str),vf)]) x=some (.ins C e [(("floor":Str),vf)]):=cO;generalize aJ H x (.ins C e [(("floor":Str),vf)])=H1 at *
     refine⟨_,rfl,F,[fl],_,rfl,K1.fz,.cons (rf.stay K1.st) .nil,e1,fun F2 H2 vl E2 R2=>?_⟩
     refine⟨F2,cl,cs,E2.fz K1.fz,.cons R2 .nil,FJ e2,u.1,u.2,fun i H3 p l n E3 X o hk=>?_⟩
     have E13:=E2.trans E3;have K3:c5 K (fun a=>a=x) F i H1 H3:=c5.ext K1.fz E13;have S:=E13.same _ _ I;have E4:aI i i H3 (aJ H3 p (bN p (c7 l) n)):=aI.fresh X;have J:aJ H3 p (bN p (c7 l) n) p=some (bN p (c7 l) n):=cO;have k:=E4.same _ _ S;have Y:=fun q U=>(hk q U).stay (E4.stay (K:=K));have K4:c5 K (fun a=>a=x) i i H3 (aJ H3 p (bN p (c7 l) n)):=c5.ext K3.fz E4;generalize aJ H3 p (bN p (c7 l) n)=M at *;have xp:p≠x:=Cn J k (by intro w;cases w)
     have j:¬ i x:=fun Z=>(E13.new x Z).elim nx fun w=>by rw [I]at w;cases w.1
     have R:¬ i p:=fun Z=>K3.fz p Z X
     refine⟨_,rfl,x,C,e,_,rfl,k,B.cl,B.nS,(show 1<1000 by decide),?_⟩
     rw [LA];have K5:c5 K (fun a=>a=x) i i M (aJ M x (.ins C e [(("floor":Str),vf),("sights",.ref p)])):=qA K4.fz k kG.1 kG.2 j rfl;have G:aJ M x (.ins C e [(("floor":Str),vf),("sights",.ref p)]) x=some (.ins C e [(("floor":Str),vf),("sights",.ref p)]):=cO
     have W:aJ M x (.ins C e [(("floor":Str),vf),("sights",.ref p)]) p=some (bN p (c7 l) n):=by rw [aX xp];exact J
     generalize aJ M x (.ins C e [(("floor":Str),vf),("sights",.ref p)])=H5 at *
     refine⟨_,rfl,x,C,e,_,rfl,G,B.cl,B.nL,(show 2<1000 by decide),?_⟩
     rw [LB];have K6:c5 K (fun a=>a=x) i i H5 (aJ H5 x (.ins C e (fP vf p 0))):=qA K5.fz G kG.1 kG.2 j rfl;have v:∀ y:J8,y=x->∀ H:Hp,y=x ∨ H y=none:=fun y h _=>.inl h;have a0:=K4.trans (K5.trans K6 fun x h=>v x h _) fun x h=>v x h _;have KA:=K1.trans (K3.trans a0 fun x h=>v x h _) fun x h=>v x h _;have K56:=K5.trans K6 fun x h=>v x h _;have np:H p=none:=K1.lv p (K3.lv p X);refine c i _ (fun y=>y=x ∨ y=p) KA (fun y h=>?_) ⟨p,e,vf,l,n,⟨cO,rf.stay KA.st,⟨by rw [aX xp];exact W,fun q U=>(Y q U).stay K56.st,by rw [o];exact u.1,by rw [<- Qi (f:=(·.1)),o];exact u.2⟩,o,j,R⟩,fun _=>Iff.rfl⟩;rcases h with rfl | rfl
     ·exact .inl rfl
     ·exact .inr np
   ·rw [if_neg u]at q;cases q
  ·cases q
 ·cases q
end
end My
namespace My
open PySem.Spec PySem.SeqAt L2 CL DL OB SD ZL SL EL DC KP ST SC
theorem BB(h:j3 ρ=some ds):ds.length=0:=by cases h;rfl
theorem BA(h:∀ ρ ds,gr ρ=some ds->ds.length=n):∀(ρ:aA) (ds:List (Option D)),j2 ga gr ρ=some ds->ds.length=n+1:=fun ρ ds q=>by
 obtain⟨x,_,q⟩:=aE q;obtain⟨a,e,q⟩:=aE q;cases q;rw [Qv,h ρ a e]
theorem BC(h:∀ ρ ds,gr ρ=some ds->ds.length=n):∀(ρ:aA) (ds:List (Option D)),j4 gr ρ=some ds->ds.length=n+1:=fun ρ ds q=>by
 obtain⟨a,e,q⟩:=aE q;cases q;rw [Qv,h ρ a e]
structure Fm(K:PySem.W.Frag)(C:J8)(n q:Str)(st:ZE)(ps:List Str)(a:J8)(d:Zp):Prop where
 F:eP K n q st a d
 m:kJ K C n a
 b:L2.Binds K d ps []
structure y3(K:PySem.W.Frag)(C:J8)(b:Nat->J8)(e:Nat->Zp):Prop where
 M:Mk K C (b 0)
 Fi:eP K "__init__" "Keeper.__init__" wI (b 0) (e 0)
 bi:L2.Binds K (e 0) ["self","floor"] []
 put:Fm K C "put_solid" "Keeper.put_solid" wL ["self","cell"] (b 1) (e 1)
 take:Fm K C "take_solid" "Keeper.take_solid" wO ["self","cell"] (b 2) (e 2)
 chg:Fm K C "changed_to" "Keeper.changed_to" wH ["self","floor","cell"] (b 3) (e 3)
 turn:Fm K C "turn_over" "Keeper.turn_over" wP ["self","couples"] (b 4) (e 4)
 now:Fm K C "now" "Keeper.now" wK ["self"] (b 5) (e 5)
 seen:Fm K C "seen" "Keeper.seen" wN ["self"] (b 6) (e 6)
 see:Fm K C "do_see" "Keeper.do_see" wM ["self","one","other"] (b 7) (e 7)
 looked:Fm K C "looked" "Keeper.looked" wJ ["self"] (b 8) (e 8)
def CZ:List Str:=["_law_keeper","_law_cell_here"]
theorem MU:bQ CZ ["_law_keeper","_law_cell_here"] (aV zQ):=cF rfl (by decide +kernel)
def u7:GS K3:=
  (bZ (dC (xB (cM (dY false) (xP (eV 1)) (cM aR (cZ 0 l6 aG) (xP (eC (.int 2)))))) (e7 (cZ 0 r0 (aD (eV 1) aG))) fU)
  (e7 (cZ 0 rZ (aD (eV 1) aG))))
def i3:GM K3:=gD 0 2 u7
def uB:List Str:=["_law_script","_law_floor_here","_law_keeper","_law_every","_law_whole","_law_k","_law_cell_here","_law_before","_law_looked","_law_there","_law_told","_law_after","_law_one"]
theorem gZ:bQ uB ["_law_script"] (aV rG):=cF rfl (by decide +kernel)
def ES:List Str:=["_law_both","_law_before","_law_after"]
theorem Sn:ES.Nodup:=by decide +kernel
def ET:List Str:=["_law_other","_law_one","_law_floor_here","_law_keeper"]
theorem So:ET.Nodup:=by decide +kernel
def qY:GS K3:=
  (bZ (eG 1 (xP (aT sC (aD (eV 0) (aD (eC (.int 0)) (aD (eC (.int 4)) aG))))))
  (bZ (An 2 0 pE (aD (eV 1) aG))
  (bZ (eG 3 (xP (aT sB (aD (eV 1) aG))))
  (bZ (eG 4 (xP (aF kD (aF cH (aT gA (aD (eV 3) aG)) (aF iM (aT gA (aD (eV 3) aG)) (eC (.int 1)))) (eC (.int 2)))))
  (bZ (nI (iT (aD (aT uE (aD (eC (.int 1)) (aD (aT qV (aD (eC (.int 6)) (aD (aT gA (aD (eV 0) aG)) aG))) aG))) aG)) 5 (bZ (eG 6 (xP (aF aR (eV 3) (aT gR (aD (eV 0) (aD (aF cB (eC (.int 60)) (eV 5)) (aD (aT gA (aD (eV 3) aG)) aG)))))))
  (bZ (eG 7 (cZ 0 iZ aG))
  (bZ (eG 8 (cZ 0 nM aG))
  (bZ (eG 9 (xP (m7 (eB (aF (dY false) (eV 6) (aF aR (eV 1) (eC (.int 2))))) (aT i6 (aD (eV 1) (aD (eV 6) aG))) (aT i5 (aD (eV 1) (aD (eV 6) aG))))))
  (bZ (eG 10 (j8 0 i3 (j4 (j2 (eV 6) j3))))
  (bZ (dC (jF (xB (cM bW (cZ 0 l6 aG) (xP (eV 9)))) (jF (xB (cM bW (cZ 0 iZ aG) (xP (aT kT (aD (eV 9) aG))))) (o9 (xB (pQ fZ fZ (xP (eC (.int 0))) (cM iM (cZ 0 nM aG) (xP (eV 8))) (xP (eV 4))))))) (e7 (xP (eC (.bool false)))) fU)
  (bZ (eG 11 (cZ 0 iZ aG))
  (bZ (dC (xP (eB (aF bW (eV 10) (fF (fJ (dU (p5 (aD (aF cB (eV 7) (eV 11)) aG))) (cT 0) (eB (aF bW (aF (dY false) (eV 0) (eV 1)) (aF (dY false) (eV 0) (eV 2)))) (eV 0) [none,some 7,some 11]))))) (e7 (xP (eC (.bool false)))) fU)
  (bZ (dC (jF (xB (cM bW (j8 0 i3 (j4 (j2 (eV 6) j3))) (xP (eV 10)))) (jF (xB (cM bW (cZ 0 iZ aG) (xP (eV 7)))) (xB (cM bW (j8 0 i3 (j4 (j2 (eV 6) j3))) (xP (eV 10)))))) (e7 (xP (eC (.bool false)))) fU)
  (eG 1 (xP (eV 9)))))))))))))
  (bZ (nI (dU (eV 3)) 12 (dC (xB (cM bW (tW (dU (eV 3)) 0 (xB (cM bW (cZ 0 l7 (aD (eV 1) (aD (eV 0) aG))) (xP (aT j9 (aD (eV 2) (aD (eV 1) (aD (eV 0) aG))))))) (eV 0) [none,some 12,some 1,some 2]) (xP (oO aG)))) (e7 (xP (eC (.bool false)))) fU))
  (e7 (xP (eC (.bool true))))))))))
def jT:List D->Option D:=uH 13 qY
section
variable {P:Zd}{w:Zf}{K:PySem.W.Frag}{mg:Str->Option YP}{base:Heap}{a:Nat->J8}{d:Nat->Zp}{C:J8}{b:Nat->J8}{e:Nat->Zp}(T:mX K mg a d)(B:qS K mg C)(M:y3 K C b e)
include T B M
theorem LY (c:aM P w K mg base aO 1 (b 5) (e 5) ["self"] (cV (kK K C) 1 l6))(G_k_put_solid:aM P w K mg base aO 7 (b 1) (e 1) ["self","cell"] (cV (kK K C) 2 rZ))(G_k_take_solid:aM P w K mg base aO 7 (b 2) (e 2) ["self","cell"] (cV (kK K C) 2 r0)):aM P w K mg base aO 8 (a 24) (d 24) ["_law_keeper","_law_cell_here"] (cV (kK K C) 2 i3):=by
 refine kN (k:=(kK K C)) (j:=0) (g:=u7) (G:=i3) (N:=CZ) (kk:=7) rfl rfl rfl T.F_q6.F MU fun l A h s H E f=>?_
 exact(dI (lG (lH (n6 (gQ f)) (cD (aC 1)) (NJ bA (lZ (i:=0) (j:=0) (by decide) B.cl M.now.m (fun _ _ _ _=>⟨rfl,rfl⟩) c (f.mono (by decide)) M.now.b) (cD aN)) (by with_unfolding_all rfl)) (dJ (g8 (yG (i:=0) (j:=0) (by decide) B.cl M.take.m (fun _ _ _ _=>⟨rfl,rfl⟩) G_k_take_solid (f.mono (by decide)) M.take.b (aH (aC 1) aP rfl) eS))) l0)
  (dJ (g8 (yG (i:=0) (j:=0) (by decide) B.cl M.put.m (fun _ _ _ _=>⟨rfl,rfl⟩) G_k_put_solid (f.mono (by decide)) M.put.b (aH (aC 1) aP rfl) eS))))
theorem Ml(v:aM P w K mg base aO 3 (a 17) (d 17) ["_law_script","_law_at","_law_most"] (aY K 3 sC))(z:aM P w K mg base aO 1 (a 8) (d 8) ["_law_floor_here"] (aY K 1 sB))(y:aM P w K mg base aO 2 (a 13) (d 13) ["_law_script","_law_k","_law_many"] (aY K 3 gR))(I:aM P w K mg base aO 5 (a 21) (d 21) ["floor","cell"] (aY K 2 i6))(u:aM P w K mg base aO 5 (a 20) (d 20) ["floor","cell"] (aY K 2 i5))(x:aM P w K mg base aO 3 (a 16) (d 16) ["floor"] (aY K 1 kT))(t:aM P w K mg base aO 5 (a 22) (d 22) ["floor","one","other"] (aY K 3 j9))(o:aM P w K mg base aO 6 (b 7) (e 7) ["self","one","other"] (cV (kK K C) 3 l7))(l:aM P w K mg base aO 1 (b 8) (e 8) ["self"] (cV (kK K C) 1 nM))(r:aM P w K mg base aO 1 (b 5) (e 5) ["self"] (cV (kK K C) 1 l6))(c:aM P w K mg base aO 1 (b 6) (e 6) ["self"] (cV (kK K C) 1 iZ))(p:aM P w K mg base aO 4 (b 0) (e 0) ["self","floor"] (uU (kK K C) C 1 pE))(q:aM P w K mg base aO 8 (a 24) (d 24) ["_law_keeper","_law_cell_here"] (cV (kK K C) 2 i3)):aM P w K mg base aO 9 (a 25) (d 25) ["_law_script"] (aY K 1 jT):=by
 refine Lk (k:=(kK K C)) (τ:=[(2,0)]) (g:=qY) (G:=jT) (N:=uB) (kk:=8) rfl rfl rfl T.F_qp.F gZ fun O A J s H E f=>?_
 exact(dI (jQ (i:=1) gZ.nd (by decide) (cD (bX T.F_qd v f rfl (aH (aC 0) (aH aN (aH aN aP rfl) rfl) rfl) gE)))
  (dI (V3 (i:=2) (n:=0) gZ.nd (by decide) M.M p (f.mono (by decide)) rfl B.mC M.bi (aH (aC 1) aP rfl) eS)
  (dI (jQ (i:=3) gZ.nd (by decide) (cD (bX T.F_q8 z f rfl (aH (aC 1) aP rfl) eS)))
  (dI (jQ (i:=4) gZ.nd (by decide) (cD (bG qE (bG fA (gI nR rfl T.z_len PySem.boot_len (aH (aC 3) aP rfl)) (bG k8 (gI nR rfl T.z_len PySem.boot_len (aH (aC 3) aP rfl)) aN)) aN)))
  (dI (yH (i:=5) YI rfl gZ.nd (by decide) (pZ rfl T.z_range (aH (gI (NT rfl) rfl T.z_max boot_max (aH aN (aH (gI (OR rfl) rfl T.z_min boot_min (aH aN (aH (gI nR rfl T.z_len PySem.boot_len (aH (aC 0) aP rfl)) aP rfl) rfl)) aP rfl) rfl)) aP rfl)) (dI (jQ (i:=6) gZ.nd (by decide) (cD (bC bA (aC 3) (bX T.F_q9 y f rfl (aH (aC 0) (aH (bG dG aN (aC 5)) (aH (gI nR rfl T.z_len PySem.boot_len (aH (aC 3) aP rfl)) aP rfl) rfl) rfl) gE))))
  (dI (jQ (i:=7) gZ.nd (by decide) (lZ (i:=2) (j:=0) (by decide) B.cl M.seen.m (fun _ _ _ _=>⟨rfl,rfl⟩) c (f.mono (by decide)) M.seen.b))
  (dI (jQ (i:=8) gZ.nd (by decide) (lZ (i:=2) (j:=0) (by decide) B.cl M.looked.m (fun _ _ _ _=>⟨rfl,rfl⟩) l (f.mono (by decide)) M.looked.b))
  (dI (jQ (i:=9) gZ.nd (by decide) (cD (AC (e9 (n6 (gQ f)) (aC 6) (bC bA (aC 1) aN) (by with_unfolding_all rfl)) (bX T.F_q5 I f rfl (aH (aC 1) (aH (aC 6) aP rfl) rfl) hZ) (bX T.F_qe u f rfl (aH (aC 1) (aH (aC 6) aP rfl) rfl) hZ))))
  (dI (jQ (i:=10) gZ.nd (by decide) (CA (j:=0) q (f.mono (by decide)) rfl T.F_q6.m T.F_q6.F.kp T.F_q6.b (CG (i:=2) (by decide) (CD (aC 6) CF)) (BC (BA (fun _ _ h=>BB h)))))
  (dI (lG (D1 (yI (lH (gX (dQ f)) (lZ (i:=2) (j:=0) (by decide) B.cl M.now.m (fun _ _ _ _=>⟨rfl,rfl⟩) r (f.mono (by decide)) M.now.b) (cD (aC 9)) (dR _)) (yI (lH (gX (dQ f)) (lZ (i:=2) (j:=0) (by decide) B.cl M.seen.m (fun _ _ _ _=>⟨rfl,rfl⟩) c (f.mono (by decide)) M.seen.b) (cD (bX T.F_qc x f rfl (aH (aC 9) aP rfl) eS)) (dR _)) (IJ (IH (V9 jO jO (cD aN) (IE k8 (lZ (i:=2) (j:=0) (by decide) B.cl M.looked.m (fun _ _ _ _=>⟨rfl,rfl⟩) l (f.mono (by decide)) M.looked.b) (cD (aC 8))) (cD (aC 4)))))))) (dJ (g8 (cD iD))) l0)
  (dI (jQ (i:=11) gZ.nd (by decide) (lZ (i:=2) (j:=0) (by decide) B.cl M.seen.m (fun _ _ _ _=>⟨rfl,rfl⟩) c (f.mono (by decide)) M.seen.b))
  (dI (lG (II (e9 (gX (dQ f)) (aC 10) (kX rfl (kC (N':=ES) (inner:=[none,some 7,some 11]) (aV rG) uB rfl rfl (by decide +kernel)) (k6 0) (i8 (Ou rfl (lV f) rfl T.z_sorted Vo rfl T.z_set boot_set (aH (bG dG (aC 7) (aC 11)) aP rfl))) (fun _ _ _ _ _=>(e8 (i:=0) Sn)) (fun _ _ _ _ _=>(vY (e9 (gX (dQ f)) (sM (n6 (gQ f)) (aC 0) (aC 1) (by with_unfolding_all rfl)) (sM (n6 (gQ f)) (aC 0) (aC 2) (by with_unfolding_all rfl)) (dR _)))) (fun _ _ _ _ _=>(aC 0))) (dR _))) (dJ (g8 (cD iD))) l0)
  (dI (lG (D1 (yI (lH (gX (dQ f)) (CA (j:=0) q (f.mono (by decide)) rfl T.F_q6.m T.F_q6.F.kp T.F_q6.b (CG (i:=2) (by decide) (CD (aC 6) CF)) (BC (BA (fun _ _ h=>BB h)))) (cD (aC 10)) (dR _)) (yI (lH (gX (dQ f)) (lZ (i:=2) (j:=0) (by decide) B.cl M.seen.m (fun _ _ _ _=>⟨rfl,rfl⟩) c (f.mono (by decide)) M.seen.b) (cD (aC 7)) (dR _)) (IJ (lH (gX (dQ f)) (CA (j:=0) q (f.mono (by decide)) rfl T.F_q6.m T.F_q6.F.kp T.F_q6.b (CG (i:=2) (by decide) (CD (aC 6) CF)) (BC (BA (fun _ _ h=>BB h)))) (cD (aC 10)) (dR _)))))) (dJ (g8 (cD iD))) l0)
  (dJ (jQ (i:=1) gZ.nd (by decide) (cD (aC 9))))))))))))))
  (dI (yH (i:=12) YI rfl gZ.nd (by decide) (i8 (aC 3)) (dJ (lG (lH (gX (dQ f)) (VY (τ':=[(3,0)]) (n:=0) rfl (kC (N':=ET) (inner:=[none,some 12,some 1,some 2]) (aV rG) uB rfl rfl (by decide +kernel)) (by decide) (i8 (aC 3)) (fun _ _ _ _ _=>BK So rfl (Zx rfl)) (fun _ _ _ _ _=>(lH (gX (dQ f)) (yG (i:=3) (j:=0) (by decide) B.cl M.see.m (fun _ _ _ _=>⟨rfl,rfl⟩) o (f.mono (by decide)) M.see.b (aH (aC 1) (aH (aC 0) aP rfl) rfl) hZ) (cD (bX T.F_qo t f rfl (aH (aC 2) (aH (aC 1) (aH (aC 0) aP rfl) rfl) rfl) gE)) (dR _))) (fun _ _ _ _ _=>(aC 0))) (cD (@vX _ _ _ _ aP)) (dR _)) (dJ (g8 (cD iD))) l0)))
  (dJ (g8 (cD iD)))))))))
end
end My
namespace My
open PySem.SeqAt L2 DL SD SL EL DC
abbrev C:=Int × Int
def aB(c:C):D:=.tuple [.int c.1,.int c.2]
theorem M9(i j:Int):iM (.int i) (.int j)=some (.int (i-j)):=id rfl
theorem Dt(i j:Int):fZ (.int i) (.int j)=some (.bool (decide (i<=j))):=id rfl
theorem G7(l:List D):gA [.list l]=some (.int l.length):=id rfl
theorem gW(h:k7 i j=true):cH (.int i) (.int j)=some (.int (i * j)):=by
 show(if k7 i j=true then _ else _)=_
 rw [if_pos h]
theorem u5(h:qD i j=true):kD (.int i) (.int j)=some (.int (i / j)):=by
 show(if qD i j=true then _ else _)=_
 rw [if_pos h]
theorem n5(h:0<j):hW (.int i) (.int j)=some (.int (i % j)):=by
 show(if decide (0<j)=true then _ else _)=_
 rw [if_pos (decide_eq_true h)]
theorem iQ(b:-18446744073709551616<i)(a:i<18446744073709551616):k7 i j=true:=by
 unfold k7;rw [decide_eq_true b,decide_eq_true a];rfl
theorem DF(b:-18446744073709551616<j)(a:j<18446744073709551616):k7 i j=true:=by
 unfold k7;rw [decide_eq_true b,decide_eq_true a];simp
theorem uL(b:0<j)(a:j<1073741824):qD i j=true:=by
 unfold qD;rw [decide_eq_true b,decide_eq_true a];rfl
section
variable {α β:Type}
theorem vP(item:α->D)(p:α->Bool)(f:α->D)(I:aA->Prop):∀{xs:List α}{ρ:aA},I ρ->
  (∀ a∈xs,∀ ρ,I ρ->∃ ρ',s (item a) ρ=some ρ'/\I ρ'/\t ρ'=some (p a)/\(p a=true->ge ρ'=some (f a)))->mD s t ge (xs.map item) ρ=some ((xs.filter p).map f)
 | [],_,_,_=>rfl
 | x::xs,ρ,h0,h=>by
  obtain⟨ρ',i,c,g,e⟩:=h x Qk ρ h0;have b:=vP item p f I c fun y d=>h y (Qf _ d);rw [Qp];unfold mD;rw [i,Qj,g,Qj]
  cases q:p x with
  | true=>rw [if_pos rfl,e q,Qj,b,List.filter_cons_of_pos q];rfl
  | false=>rw [if_neg Qr,b,JF (by rw [q];exact Qr)]
theorem G4{gi:aA->Option (List D)}{s:D->aA->Option aA}{t:aA->Option Bool}{ge:aA->Option D}{inner:List (Option Nat)}{ρ:aA}{xs:List α}(item:α->D)(p:α->Bool)(f:α->D)(I:aA->Prop)(c:gi ρ=some (xs.map item))(b:xs.length<=1000)(d:I (fV inner ρ))
  (h:∀ a∈xs,∀ ρ,I ρ->∃ ρ',s (item a) ρ=some ρ'/\I ρ'/\t ρ'=some (p a)/\(p a=true->ge ρ'=some (f a))):fF (fJ gi s t ge inner) ρ=some (.list ((xs.filter p).map f)):=by
 have q:=vP item p f I d h;unfold fF fJ;rw [c,Qj,q,Qj,if_pos (by rw [Qi];exact QJ (Ye _ _) b)];rfl
theorem n0{gi:aA->Option (List D)}{s:D->aA->Option aA}{t:aA->Option Bool}{ge:aA->Option D}{inner:List (Option Nat)}{ρ:aA}{xs:List α}{out:List D}(item:α->D)(p:α->Bool)(f:α->D)(I:aA->Prop)(d:gi ρ=some (xs.map item))(c:xs.length<=1000)(e:I (fV inner ρ))
  (h:∀ a∈xs,∀ ρ,I ρ->∃ ρ',s (item a) ρ=some ρ'/\I ρ'/\t ρ'=some (p a)/\(p a=true->ge ρ'=some (f a))) (b:(xs.filter p).map f=out):fF (fJ gi s t ge inner) ρ=some (.list out):=by
 rw [<- b];exact G4 item p f I d c e h
theorem u6(l:List α):l.filter (fun _=>true)=l:=by induction l with
 | nil=>rfl
 | cons a l b=>simp [b]
theorem rX(item:α->D)(env:β->aA)(step:β->α->β)(P:Nat->β->Prop)(n:Nat):∀(xs:List α) (i:Nat) (b:β),i+xs.length<=n->P i b->
  (∀ a∈xs,∀ i b,i<n->P i b->(∃ ρ1,s (item a) (env b)=some ρ1/\g ρ1=some (.nx (env (step b a))))/\P (i+1) (step b a))->iN s g (xs.map item) (env b)=some (.nx (env (xs.foldl step b)))
 | [],_,b,_,_,_=>rfl
 | x::xs,i,b,hi,hp,h=>by
  rw [Qv]at hi;obtain⟨⟨ρ1,f,e⟩,c⟩:=h x Qk i b (by lia) hp;rw [Qp];unfold iN;rw [f,Qj,e,Qj];exact rX item env step P n xs (i+1) _ (by lia) c fun a d=>h a (Qf _ d)
theorem AZ(item:α->D)(I:aA->Prop)(p:α->Bool)(d:D):∀(xs:List α) (ρ:aA),I ρ->
  (∀ a∈xs,∀ ρ,I ρ->∃ ρ1,s (item a) ρ=some ρ1/\if p a=true then g ρ1=some (.rt d)else ∃ ρ2,g ρ1=some (.nx ρ2)/\I ρ2)->
  if xs.any p=true then iN s g (xs.map item) ρ=some (.rt d)else ∃ ρ',iN s g (xs.map item) ρ=some (.nx ρ')/\I ρ'
 | [],ρ,h0,_=>by rw [if_neg (by simp)];exact⟨ρ,rfl,h0⟩
 | x::xs,ρ,h0,h=>by
  obtain⟨ρ1,f,b⟩:=h x Qk ρ h0;rw [Qp,JS];unfold iN;rw [f,Qj]
  cases q:p x with
  | true=>
   rw [q,if_pos rfl]at b;rw [Bool.true_or,if_pos rfl,b];rfl
  | false=>
   rw [q,if_neg Qr]at b;obtain⟨ρ2,b,c⟩:=b;rw [Bool.false_or,b,Qj];exact AZ item I p d xs ρ2 c fun a e=>h a (Qf _ e)
end
theorem HB(h:Nat)(a:h<1000):oZ [.int h]=some ((List.range h).map fun(k:Nat)=>.int (k:Int)):=by
 show(if -4611686018427387904<=(h:Int)/\(h:Int)<4611686018427387904 then some ((List.range (h:Int).toNat).map fun(k:Nat)=>Zh (0+(k:Int)))else none)=_
 rw [if_pos ⟨by lia,by lia⟩,Y1];congr 2
 funext k
 rw [Int.zero_add]
section
variable {g g1 g2:aA->Option bD}{t u:aA->Option Bool}{ga gb gc:aA->Option D}{gr:aA->Option (List D)}{ρ:aA}{d:D}
theorem y4(i:Nat):eV i ρ=match ρ[i]? with | some (.dat d)=>some d | _=>none:=id rfl
theorem NW:m7 t ga gb ρ=(t ρ).bind fun b=>if b=true then ga ρ else gb ρ:=id rfl
theorem KJ(b:Bool):jC (.bool b)=some b:=id rfl
end
section
variable {α β:Type}(a:α)(l m:List α)(n:Nat)(f:α->β)
end
def sV{c:Type}(a:c->Bool)(step:c->c):Nat->c->Option c
 | 0,_=>none
 | n+1,b=>if a b=true then sV a step n (step b)else some b
theorem Ke{d:Type}(env:d->aA)(a:d->Bool)(step:d->d)(P:Nat->d->Prop)(e:∀ n b,P n b->t ((env b).map frz)=some (a b))
  (f:∀ n b,P (n+1) b->a b=true->g (env b)=some (.nx (env (step b)))/\P n (step b)):∀ n b b',P n b->sV a step n b=some b'->mO t g n (env b)=some (.nx (env b'))
 | 0,_,_,_,h=>by cases h
 | n+1,b,b',p,h=>by
  unfold sV at h;unfold mO;rw [e _ b p,Qj];by_cases c:a b=true
  ·rw [if_pos c]at h ⊢;obtain⟨j,i⟩:=f n b p c;rw [j,Qj];exact Ke env a step P e f n _ b' i h
  ·rw [if_neg c]at h ⊢;cases h;rfl
theorem bU(h:g1 ρ=some (.nx ρ'))(a:g2 ρ'=r):bO g1 g2 ρ=r:=by
 unfold bO;rw [h];exact a
theorem tO(h:g1 ρ=some (.rt d)):bO g1 g2 ρ=some (.rt d):=by
 unfold bO;rw [h];rfl
theorem dF(h:g (cY n ds)=some (.rt d)):cQ n g ds=some d:=by
 unfold cQ;rw [h]
theorem pM(b:gi ρ=some xs)(a:iN s g xs ρ=r):j6 gi s g ρ=r:=by
 unfold j6;rw [b];exact a
theorem mJ(h:t (ρ.map frz)=some b)(c:b=true->g1 ρ=r)(a:b=false->g2 ρ=r):eU t g1 g2 ρ=r:=by
 unfold eU;rw [h]
 cases b with
 | true=>exact c rfl
 | false=>exact a rfl
theorem dH(h:ga (ρ.map frz)=some d):cJ ga ρ=some (.rt d):=by
 unfold cJ;rw [h];rfl
theorem fB(h:ga ρ=some d):dO i ga ρ=some (.nx (ρ.set i (.dat d))):=by
 unfold dO;rw [h];rfl
theorem bI(h:gr ρ=some ds)(a:G ds=r):aT G gr ρ=r:=by
 unfold aT;rw [h];exact a
theorem HI(d:gr ρ=some [.int (n:Nat)])(b:n<1000)(c:iN s g ((List.range n).map fun(k:Nat)=>.int (k:Int)) ρ=r):j6 (iT gr) s g ρ=r:=by
 show((gr ρ).bind oZ).bind (fun a=>iN s g a ρ)=r
 rw [d,Qj,HB n b,Qj];exact c
theorem vC{gr:aA->Option (List D)}{ρ:aA}{n:Nat}(b:gr ρ=some [.int (n:Nat)])(a:n<1000):iT gr ρ=some ((List.range n).map fun(k:Nat)=>.int (k:Int)):=by
 show(gr ρ).bind oZ=_
 rw [b,Qj,HB n a]
theorem oo(c:ga ρ=some x)(b:gb ρ=some y)(a:f x y=r):aF f ga gb ρ=r:=by
 unfold aF;rw [c,Qj,b];exact a
theorem oB(h:ga ρ=some (.bool b)):eB ga ρ=some b:=by
 unfold eB;rw [h];rfl
theorem HH(c:ρ[i]?=some (.own ds))(b:ga ρ=some d)(a:ds.length<1000):o3 i ga ρ=some (.nx (ρ.set i (.own (ds++[d])))):=by
 unfold o3;rw [c]
 show(ga ρ).bind _=_
 rw [b,Qj,if_pos a]
theorem tN(h:ga ρ=some d):mK ga ρ=some (.nx ρ):=by
 unfold mK;rw [h];rfl
theorem cN(h:ga ρ=some d)(a:gr ρ=some ds):aD ga gr ρ=some (d::ds):=by
 unfold aD;rw [h,Qj,a];rfl
theorem iH(h:t (ρ.map frz)=some false):eU t g1 gL ρ=some (.nx ρ):=by
 unfold eU;rw [h];rfl
theorem oN(h:t ρ=some b):lO t ρ=some (!b):=by
 unfold lO;rw [h];rfl
theorem Dy(h:t ρ=some true)(a:u ρ=r):kM t u ρ=r:=by
 unfold kM;rw [h];exact a
theorem Dx(h:t ρ=some false):kM t u ρ=some false:=by
 unfold kM;rw [h];rfl
theorem Gj(h:g (cY n ds)=some (.nx ρ)):cQ n g ds=some .none:=by
 unfold cQ;rw [h]
theorem Dz(h:ga ρ=some (.bool true))(a:gb ρ=r):kY ga gb ρ=r:=by
 unfold kY;rw [h];exact a
theorem LR(b:ga ρ=some x)(a:gb ρ=some y):c6 (aD ga (aD gb aG)) ρ=some (.tuple [x,y]):=by
 unfold c6;rw [cN b (cN a rfl)];rfl
theorem LQ(a:ga ρ=some x):c6 (aD ga aG) ρ=some (.tuple [x]):=by
 unfold c6;rw [cN a rfl];rfl
theorem DD(c:ga ρ=some x)(b:gb ρ=some y)(a:gc ρ=some z):c6 (aD ga (aD gb (aD gc aG))) ρ=some (.tuple [x,y,z]):=by
 unfold c6;rw [cN c (cN b (cN a rfl))];rfl
theorem DB(h:t ρ=some false)(a:u ρ=r):lP t u ρ=r:=by
 unfold lP;rw [h];exact a
theorem LO(h:ga ρ=some (.bool false)):kY ga gb ρ=some (.bool false):=by
 unfold kY;rw [h];rfl
theorem k4(b:ga ρ=some d)(a:rH d=some l):dU ga ρ=some l:=by
 show(ga ρ).bind rH=_
 rw [b,Qj,a]
end My
namespace My
open PySem.SeqAt L2 DL SD SL EL DC
abbrev eY:=List Int
def nB(p:eY):List eY->List eY
 | []=>[p]
 | q::r=>if HT.lexLt q p=true then q::nB p r else p::q::r
def iI:List eY->List eY
 | []=>[]
 | p::r=>nB p (iI r)
def fK(k:eY):KD:=(k,eW k)
theorem EV(p:eY):∀ l:List eY,jZ (fK p) (l.map fK)=(nB p l).map fK
 | []=>rfl
 | q::r=>by
  show(if HT.lexLt q p=true then fK q::jZ (fK p) (r.map fK)else fK p::fK q::r.map fK)=(if HT.lexLt q p=true then q::nB p r else p::q::r).map fK
  split
  ·rw [EV p r];rfl
  ·rfl
theorem Bt:∀ l:List eY,eK (l.map fK)=(iI l).map fK
 | []=>rfl
 | p::r=>by
  show jZ (fK p) (eK (r.map fK))=(nB p (iI r)).map fK
  rw [Bt r,EV]
theorem EW(p:eY):∀ l:List eY,(nB p l).Perm (p::l)
 | []=>.refl _
 | q::r=>by
  unfold nB;split
  ·exact((EW p r).cons q).trans (.swap _ _ _)
  ·exact .refl _
theorem Co:∀ l:List eY,(iI l).Perm l
 | []=>.refl _
 | p::r=>(EW p (iI r)).trans ((Co r).cons p)
theorem We(l:List eY):(iI l).Pairwise fun a b=>HT.lexLt b a=false:=by
 have:=pO (l.map fK)
 rw [Bt,Yf]at this;exact this
theorem Ed:∀ l:List eY,l.Nodup->dd l=l
 | [],_=>rfl
 | k::r,h=>by
  obtain⟨b,a⟩:=Yc.mp h;unfold dd;rw [if_neg b,Ed r a]
theorem He:∀{k m:eY},k.length=m.length->gU (k.map Zh) (m.map Zh)=true
 | [],[],_=>rfl
 | x::k,y::m,h=>by
  show(iU (.int x) (.int y) && gU (k.map Zh) (m.map Zh))=true
  rw [He (by simpa using h)];rfl
 | [],_::_,h=>by cases h
 | _::_,[],h=>by cases h
theorem Gg:∀ k:eY,i9 (k.map Zh)=some k
 | []=>rfl
 | x::k=>by
  have:=Gg k
  show(some [x]).bind (fun a=>(i9 (k.map Zh)).bind fun b=>some (a++b))=_
  rw [this];rfl
theorem HF(b:d0≠[]):∀{l:List eY},(∀ k∈l,k.length=d0.length)->eJ (d0.map Zh) (l.map eW)=some (l.map fK)
 | [],_=>rfl
 | k::l,h=>by
  have a:=h k Qk
  have c:kQ (d0.map Zh) (eW k)=some k:=by
   cases k with
   | nil=>exact absurd (JH a.symm) b
   | cons x k=>
    show(if gU (d0.map Zh) ((x::k).map Zh)=true then i9 ((x::k).map Zh)else none)=_
    rw [if_pos (He a.symm),Gg]
  show(kQ (d0.map Zh) (eW k)).bind _=_
  rw [c,Qj,HF b fun k a=>h k (Qf _ a)];rfl
theorem tV(h:∀ k∈l,k.length=2)(d:l.length<=63):jG [.list (l.map eW)]=some (.list ((iI l).map eW)):=by
 cases l with
 | nil=>rfl
 | cons a b=>
  have c:a.length=2:=h a Qk;have f:=HF (d0:=a) (fun q=>by rw [q]at c;cases c) (l:=a::b) fun k e=>(h k e).trans c.symm
  show(if(b.map eW).length<1000 then(eJ (a.map Zh) ((a::b).map eW)).bind fun l=>some (ZY ((eK l).map (·.2)))else none)=_
  rw [if_pos (by rw [Qi];simp only [Qv]at d;lia),f]
  show some (ZY ((eK ((a::b).map fK)).map (·.2)))=_
  rw [Bt,YE];rfl
def row(c:C):eY:=[c.1,c.2]
def j0(a b:C):Bool:=HT.lexLt (row a) (row b)
theorem jM(a b:C):j0 a b=true ↔ a.1<b.1 ∨ (a.1=b.1/\a.2<b.2):=by
 unfold j0 row;rw [HT.lexLt_cons];by_cases h:a.1=b.1
 ·rw [if_pos h,HT.lexLt_cons];by_cases c:a.2=b.2
  ·rw [if_pos c];simp [HT.lexLt];lia
  ·rw [if_neg c];simp;lia
 ·rw [if_neg h];simp;lia
def Up(l:List C):Prop:=l.Pairwise fun a b=>j0 a b=true
theorem Cw:∀{l m:List C},Up l->Up m->(∀ c,c∈l ↔ c∈m)->l=m
 | [],[],_,_,_=>rfl
 | [],b::m,_,_,h=>nomatch (h b).mpr Qk
 | a::l,[],_,_,h=>nomatch (h a).mp Qk
 | a::l,b::m,h1,h2,h=>by
  obtain⟨a1,g⟩:=Q1.mp h1;obtain⟨b1,f⟩:=Q1.mp h2
  have d:∀ c:C,j0 c c=true->False:=fun c q=>by rw [jM]at q;lia
  have e:a=b:=by
   rcases Ql.mp ((h a).mp Qk)with q | q
   ·exact q
   ·rcases Ql.mp ((h b).mpr Qk)with r | r
    ·exact r.symm
    ·have x:=b1 a q;have y:=a1 b r;rw [jM]at x y;lia
  subst e;congr 1;refine Cw g f fun c=>⟨fun q=>?_,fun q=>?_⟩
  ·rcases Ql.mp ((h c).mp (Qf _ q))with r | r
   ·subst r;exact(d _ (a1 _ q)).elim
   ·exact r
  ·rcases Ql.mp ((h c).mpr (Qf _ q))with r | r
   ·subst r;exact(d _ (b1 _ q)).elim
   ·exact r
theorem wC(h:Up l):l.Nodup:=h.imp fun{a b} q e=>by subst e;rw [jM]at q;lia
theorem Td{l:List C}(k:l.Nodup):∃ m:List C,iI (l.map row)=m.map row/\Up m/\∀ c,c∈m ↔ c∈l:=by
 obtain⟨m,o⟩:∃ m:List C,m=(iI (l.map row)).map fun r=>(r.getD 0 0,r.getD 1 0):=⟨_,rfl⟩;have f:∀ r,r∈iI (l.map row) ↔ r∈l.map row:=fun r=>(Co _).mem_iff
 have e:iI (l.map row)=m.map row:=by
  rw [o,YE]
  conv=>lhs;rw [<- List.map_id (iI (l.map row))]
  refine List.map_congr_left fun r j=>?_;obtain⟨c,_,rfl⟩:=QM.mp ((f r).mp j);rfl
 have inj:∀ a b:C,row a=row b->a=b:=fun a b q=>by
  unfold row at q
  injection q with q1 q2
  injection q2 with q2 _
  exact JL q1 q2
 have i:∀ c,c∈m ↔ c∈l:=fun c=>by
  constructor
  ·intro h
   have:row c∈l.map row:=(f _).mp (by rw [e];exact List.mem_map_of_mem h)
   obtain⟨d,g,q⟩:=QM.mp this;rw [<- inj _ _ q];exact g
  ·intro h
   have:row c∈m.map row:=by rw [<- e];exact(f _).mpr (List.mem_map_of_mem h)
   obtain⟨d,g,q⟩:=QM.mp this;rw [<- inj _ _ q];exact g
 refine⟨m,e,?_,i⟩
 have s:=We (l.map row)
 have n:(iI (l.map row)).Nodup:=(Co _).nodup_iff.mpr (by
  rw [List.Nodup,Yf]
  exact k.imp fun{a b} q r=>q (inj _ _ r))
 rw [e]at s n;rw [Yf]at s;rw [List.Nodup,Yf]at n
 refine(s.and n).imp fun{a b} h=>?_
 cases q:j0 a b with
 | true=>rfl
 | false=>exact absurd (sW _ _ q h.1) h.2
theorem wT(l:List C):(l.map row).map eW=l.map aB:=by rw [YE];rfl
theorem H0{l m:List C}(a:l.Nodup)(d:l.length<=63)(b:Up m)(h:∀ c,c∈m ↔ c∈l):jG [.list (l.map aB)]=some (.list (m.map aB)):=by
 rw [<- wT l,tV (fun k e=>by obtain⟨c,_,rfl⟩:=QM.mp e;rfl) (by rw [Qi];exact d)];obtain⟨j,i,g,f⟩:=Td a;rw [i,wT,Cw g b fun c=>(f c).trans (h c).symm]
def cells(w h:Nat):List C:=(List.range w).flatMap fun(x:Nat)=>(List.range h).map fun(y:Nat)=>((x:Int),(y:Int))
def cG(w h:Nat)(c:C):Bool:=decide (0<=c.1) && decide (c.1<w) && decide (0<=c.2) && decide (c.2<h)
theorem u8:cG w h c=true ↔ 0<=c.1/\c.1<w/\0<=c.2/\c.2<h:=by
 unfold cG;simp only [QL,decide_eq_true_eq];constructor
 ·intro q;exact⟨q.1.1.1,q.1.1.2,q.1.2,q.2⟩
 ·intro q;exact⟨⟨⟨q.1,q.2.1⟩,q.2.2.1⟩,q.2.2.2⟩
theorem kF:c∈cells w h ↔ cG w h c=true:=by
 unfold cells;rw [List.mem_flatMap,u8];constructor
 ·rintro⟨x,g,i⟩
  obtain⟨y,f,rfl⟩:=QM.mp i
  exact⟨Jq _,Jx.mpr (QY.mp g),Jq _,Jx.mpr (QY.mp f)⟩
 ·rintro⟨b,e,a,d⟩
  exact⟨c.1.toNat,QY.mpr ((Int.toNat_lt b).mpr e),QM.mpr ⟨c.2.toNat,QY.mpr ((Int.toNat_lt a).mpr d),JL (Jy b) (Jy a)⟩⟩
theorem VS(h:Nat)(x:Nat):Up ((List.range h).map fun(y:Nat)=>((x:Int),(y:Int))):=by
 unfold Up;rw [Yf];refine List.pairwise_lt_range.imp fun{a b} q=>?_;rw [jM];dsimp only;lia
theorem jP(w h:Nat):Up (cells w h):=by
 unfold Up cells;rw [List.pairwise_flatMap]
 refine⟨fun x _=>VS h x,List.pairwise_lt_range.imp fun{a b} q c hc d hd=>?_⟩
 obtain⟨y,_,rfl⟩:=QM.mp hc;obtain⟨z,_,rfl⟩:=QM.mp hd;rw [jM];dsimp only;lia
theorem wB(h:Up l)(p:C->Bool):Up (l.filter p):=List.Pairwise.filter p h
theorem Hx(h:Nat):∀ l:List Nat,(l.map fun _=>h).sum=l.length * h
 | []=>by simp
 | _::l=>by rw [Qp,List.sum_cons,Hx h l,Qv,Nat.succ_mul,Nat.add_comm]
theorem kB(w h:Nat):(cells w h).length=w * h:=by
 unfold cells;rw [List.length_flatMap];simp only [Qi,Yj];rw [Hx,Yj]
end My
namespace My
open PySem.SeqAt L2 DL SD SL EL DC
def yD(b a:Int):Nat->Int->Int->Option (List C)
 | 0,_,_=>none
 | n+1,gx,gy=>if gx<b ∨ gy<a then
   (yD b a n (if(2 * gx+1) * a<=(2 * gy+1) * b then gx+1 else gx) (if(2 * gy+1) * b<=(2 * gx+1) * a then gy+1 else gy)).bind fun r=>
    some ((if(2 * gx+1) * a<=(2 * gy+1) * b then gx+1 else gx,if(2 * gy+1) * b<=(2 * gx+1) * a then gy+1 else gy)::r)
  else some []
def dV(i:Int):Int:=if i<0 then -i else i
def dZ(a:Int):Int:=if 0<a then 1 else -1
def zK(a b:Int):Option (List C):=(yD (dV a) (dV b) 900 0 0).bind fun c=>some ((0,0)::c.map fun g=>(dZ a * g.1,dZ b * g.2))
def eN(a b:Int):List C:=(zK a b).getD []
def sub(d:C)(g:C):C:=(g.1-d.1,g.2-d.2)
def lL(d:C)(g:C):C:=(d.1+g.1,d.2+g.2)
def nA:List C->List C->Bool
 | [],[]=>true
 | a::l,b::m=>a.1 == b.1 && a.2 == b.2 && nA l m
 | _,_=>false
theorem rV:∀{l m:List C},nA l m=true->l=m
 | [],[],_=>rfl
 | a::l,b::m,h=>by
  unfold nA at h;simp only [QL,beq_iff_eq]at h;rw [rV h.2,JL h.1.1 h.1.2]
 | [],_::_,h=>by cases h
 | _::_,[],h=>by cases h
def Dr(a b:Int):Bool:=match zK a b with
 | some ((0,0)::st)=>decide (st.length<=8) && nA (eN (-a) (-b)) ((((0,0)::st).reverse).map (sub (a,b))) && nA (eN (-a) b) (((0,0)::st).map fun g=>(-g.1,g.2)) && nA (eN b a) (((0,0)::st).map fun g=>(g.2,g.1))
   && nA ((((0,0)::st).dropLast++[(a,b)])) ((0,0)::st) && ((0,0)::st).all (fun g=>decide (0<=dZ a * g.1) && decide (dZ a * g.1<=dV a) && decide (0<=dZ b * g.2) && decide (dZ b * g.2<=dV b))
 | _=>false
def o0:List Int:=[-4,-3,-2,-1,0,1,2,3,4]
theorem OX:(o0.all fun a=>o0.all fun b=>Dr a b)=true:=by decide +kernel
theorem xT(h:-4<=a)(h':a<=4):a∈o0:=by
 have k:∀ n:Fin 9,((n.val:Int)-4)∈o0:=by decide
 have e:(((a+4).toNat:Nat):Int)-4=a:=by lia
 have:=k ⟨(a+4).toNat,by lia⟩
 rw [e]at this;exact this
structure EI(a b:Int):Prop where
 some:zK a b=some (eN a b)
 len:(eN a b).length<=9
 first:∃ st,eN a b=(0,0)::st
 back:eN (-a) (-b)=(eN a b).reverse.map (sub (a,b))
 mir:eN (-a) b=(eN a b).map fun g=>(-g.1,g.2)
 flip:eN b a=(eN a b).map fun g=>(g.2,g.1)
 last:(eN a b).dropLast++[(a,b)]=eN a b
 box:∀ g∈eN a b,0<=dZ a * g.1/\dZ a * g.1<=dV a/\0<=dZ b * g.2/\dZ b * g.2<=dV b
theorem PX(j:-4<=a)(f:a<=4)(i:-4<=b)(d:b<=4):EI a b:=by
 have c:=Yb.mp (Yb.mp OX a (xT j f)) b (xT i d);unfold Dr at c
 split at c
 ·rename_i st e
  have r:eN a b=(0,0)::st:=by unfold eN;rw [e];rfl
  simp only [QL,decide_eq_true_eq]at c;obtain⟨⟨⟨⟨⟨p,o⟩,n⟩,m⟩,l⟩,k⟩:=c
  refine⟨by rw [e,r],by rw [r,Qv];lia,⟨st,r⟩,by rw [r];exact rV o,by rw [r];exact rV n,by rw [r];exact rV m,by rw [r];exact rV l,fun g h=>?_⟩
  rw [r]at h
  have:=Yb.mp k g h
  simp only [QL,decide_eq_true_eq]at this
  exact⟨this.1.1.1,this.1.1.2,this.1.2,this.2⟩
 ·cases c
def dA(g h:C):Bool := !(g.1 == h.1) && !(g.2 == h.2)
def fL(S:C->Bool):List C->Bool
 | g::h::r=>(!dA g h || !(S (g.1,h.2) && S (h.1,g.2))) && fL S (h::r)
 | _=>true
theorem n9(S:C->Bool)(g h:C)(r:List C):fL S (g::h::r)=((!dA g h || !(S (g.1,h.2) && S (h.1,g.2))) && fL S (h::r)):=rfl
theorem Gs(S:C->Bool):∀(l:List C) (g h:C),fL S (l++[g,h])=(fL S (l++[g]) && fL S [g,h])
 | [],g,h=>by simp [fL]
 | [a],g,h=>by simp [fL]
 | a::b::l,g,h=>by
  have c:=Gs S (b::l) g h;rw [Jc,Jc]at c;rw [Jc,Jc,Jc,Jc,n9,n9,c,Bool.and_assoc]
theorem OG(g h:C):dA g h=dA h g:=by
 unfold dA;rw [Y9];simp only [QL,YD,beq_eq_false_iff_ne,ne_eq]
 constructor <;> (rintro⟨a,b⟩;exact⟨fun q=>a q.symm,fun q=>b q.symm⟩)
theorem Gv(S:C->Bool):∀ l:List C,fL S l.reverse=fL S l
 | []=>rfl
 | [a]=>rfl
 | a::b::l=>by
  have c:=Gv S (b::l);rw [List.reverse_cons]at c;rw [List.reverse_cons,List.reverse_cons,QG,List.singleton_append,Gs,c,n9,UW];congr 1
  show((!dA b a || !(S (b.1,a.2) && S (a.1,b.2))) && true)=_
  rw [J3,OG b a,UW (S (b.1,a.2))]
def line(a b:C):List C:=(eN (b.1-a.1) (b.2-a.2)).map (lL a)
def clear(S:C->Bool)(a b:C):Bool:=(line a b).dropLast.all (fun c => !S c) && fL S (line a b)
def bE(S:C->Bool)(a b:C):Bool := !S b && clear S a b
structure fN(a b:C):Prop where
 x0:-4<=b.1-a.1
 x1:b.1-a.1<=4
 y0:-4<=b.2-a.2
 y1:b.2-a.2<=4
theorem fN.ok(n:fN a b):EI (b.1-a.1) (b.2-a.2):=PX n.x0 n.x1 n.y0 n.y1
theorem fN.symm(n:fN a b):fN b a:=by
 obtain⟨f,e,d,c⟩:=n
 exact⟨by lia,by lia,by lia,by lia⟩
theorem Hf(n:fN a b):(line a b).dropLast++[b]=line a b:=by
 have:=n.ok.last
 unfold line
 conv=>rhs;rw [<- this,Yd]
 rw [List.map_dropLast.symm];congr 1
 show [b]=[(a.1+(b.1-a.1),a.2+(b.2-a.2))]
 congr 1;exact JL (by dsimp only;lia) (by dsimp only;lia)
theorem wY(n:fN a b):bE S a b=((line a b).all (fun c => !S c) && fL S (line a b)):=by
 unfold bE clear
 conv=>rhs;rw [<- Hf n,List.all_append,Hf n]
 simp only [List.all_cons,List.all_nil,J3];rw [<- Bool.and_assoc,UW (!S b)]
theorem PY(n:fN a b):line b a=(line a b).reverse:=by
 unfold line
 have d:a.1-b.1=-(b.1-a.1):=by lia
 have c:a.2-b.2=-(b.2-a.2):=by lia
 rw [d,c,n.ok.back,YE,List.map_reverse];congr 1;refine List.map_congr_left fun g _=>?_;exact JL (by show b.1+(g.1-(b.1-a.1))=a.1+g.1;lia) (by show b.2+(g.2-(b.2-a.2))=a.2+g.2;lia)
theorem Tx(n:fN a b):bE S a b=bE S b a:=by
 rw [wY n,wY n.symm,PY n,Gv,List.all_reverse]
theorem TD(n:fN a b)(h:S a=true):bE S a b=false:=by
 rw [Tx n];unfold bE;rw [h];rfl
theorem Gu(h:∀ c,T c=true->S c=true):∀ l:List C,fL S l=true->fL T l=true
 | [],_=>rfl
 | [a],_=>rfl
 | a::b::l,q=>by
  rw [n9,QL]at q ⊢
  refine⟨?_,Gu h (b::l) q.2⟩
  have d:=q.1;rw [JN]at d ⊢;rcases d with d | d
  ·exact .inl d
  ·right
   rw [YD,Bool.and_eq_false_iff]at d ⊢;rcases d with d | d
   ·left
    cases e:T (a.1,b.2)with
    | false=>rfl
    | true=>rw [h _ e]at d;cases d
   ·right
    cases e:T (b.1,a.2)with
    | false=>rfl
    | true=>rw [h _ e]at d;cases d
theorem O0(h:∀ c,T c=true->S c=true)(q:clear S a b=true):clear T a b=true:=by
 unfold clear at q ⊢;rw [QL]at q ⊢
 refine⟨?_,Gu h _ q.2⟩
 rw [Yb]at q ⊢;intro c d
 have:=q.1 c d
 rw [YD]at this ⊢
 cases e:T c with
 | false=>rfl
 | true=>rw [h _ e]at this;cases this
end My
namespace My
open PySem.SeqAt L2 DL SD SL EL DC
def cK(ns:List Int):D:=.list (ns.map Zh)
theorem xI:∀ ns:List Int,Zy (ns.map Zh)=true/\ZB (ns.map Zh)=0
 | []=>⟨rfl,rfl⟩
 | _::r=>⟨by simp [Zy,Uf,(xI r).1],by simp [ZB,U5,(xI r).2]⟩
theorem SV(ns:List Int):ZG (cK ns)=true:=by
 simp [ZG,cK,Uf,U5,(xI ns).1,(xI ns).2]
theorem NY(b:0<=i)(a:i<ns.length):∃ r,aR (cK ns) (.int i)=some (.int r):=by
 show ∃ r,L2.atI (ns.map Zh) i=some (.int r)
 unfold L2.atI L2.ixN;rw [Qi,if_pos b,if_pos a]
 have:i.toNat<ns.length:=by lia
 exact⟨ns[i.toNat],by simp [this]⟩
theorem OT(ns:List Int)(l:ns.length<=63)(k:Int):∃ r,sA [cK ns,.int k]=some (.int r):=by
 cases ns with
 | nil=>
  have e:lN (cK []) (.list [])=some (.bool true):=rfl;have m:cH (.int 7) (.int k)=some (.int (7 * k)):=gW (iQ (by decide) (by decide))
  exact⟨7 * k,dF (tO (mJ (b:=true) rfl (fun _=>dH (oo rfl rfl m)) fun z=>by cases z))⟩
 | cons n ns=>
  have c:(0:Int)<((n::ns).length:Int):=by rw [Qv];lia
  have e:lN (cK (n::ns)) (.list [])=some (.bool false):=by
   unfold lN;rw [SV];rfl
  have d:gA [cK (n::ns)]=some (.int ((n::ns).length:Int)):=by
   show some (Zh (((n::ns).map Zh).length:Int))=_
   rw [Qi]
  obtain⟨r,j⟩:=NY (ns:=n::ns) (i:=k % ((n::ns).length:Int)) (Int.emod_nonneg _ (by lia)) (JJ _ c)
  have a:((n::ns).length:Int)<1073741824:=by lia
  generalize ((n::ns).length:Int)=L at *;generalize cK (n::ns)=S at *;have h:=n5 (i:=k) c;have g:=u5 (i:=k) (uL c a);have f:cH (.int 6553) (.int (k / L))=some (.int (6553 * (k / L))):=gW (iQ (by decide) (by decide))
  exact⟨r+6553 * (k / L),dF (bU (iH (oB (oo rfl rfl e))) (dH (oo (oo rfl (oo rfl (bI rfl d) h) j) (oo rfl (oo rfl (bI rfl d) g) f) rfl)))⟩
def dr(ns:List Int)(k m:Int):Int:=match gR [cK ns,.int k,.int m]with
 | some (.int r)=>r
 | _=>0
theorem rN(ns:List Int)(s:ns.length<=63)(k m:Int)(e:0<m):gR [cK ns,.int k,.int m]=some (.int (dr ns k m))/\0<=dr ns k m/\dr ns k m<m:=by
 have a:∃ r,gR [cK ns,.int k,.int m]=some (.int r)/\0<=r/\r<m:=by
  obtain⟨c,t⟩:=OT ns s k;obtain⟨u,d⟩:∃ u,u=((c % 2147483563) * 69069+104723 * (k+1)) % 2147483563:=⟨_,rfl⟩
  have q:0<=u:=by rw [d];exact Int.emod_nonneg _ (by decide)
  have p:u<2147483563:=by rw [d];exact JJ _ (by decide)
  obtain⟨v,b⟩:∃ v,v=(u * u+u / 3) % 2147483399:=⟨_,rfl⟩
  have o:0<=v:=by rw [b];exact Int.emod_nonneg _ (by decide)
  have n:v<2147483399:=by rw [b];exact JJ _ (by decide)
  have a1:hW (.int ((c % 2147483563) * 69069+104723 * (k+1))) (.int 2147483563)=some (.int u):=by rw [d];exact n5 (by decide)
  have E:hW (.int c) (.int 2147483563)=some (.int (c % 2147483563)):=n5 (by decide);have B:cH (.int (c % 2147483563)) (.int 69069)=some (.int (c % 2147483563 * 69069)):=gW (DF (by decide) (by decide));have A:cH (.int 104723) (.int (k+1))=some (.int (104723 * (k+1))):=gW (iQ (by decide) (by decide));have z:cH (.int u) (.int u)=some (.int (u * u)):=gW (iQ (Int.lt_of_lt_of_le (by decide) q) (Int.lt_trans p (by decide)));have g:∀ i j:Int,0<j->j<1073741824->kD (.int i) (.int j)=some (.int (i / j)):=fun i j h f=>u5 (uL h f)
  have y:hW (.int (u * u+u / 3)) (.int 2147483399)=some (.int v):=by rw [b];exact n5 (by decide)
  have x:cH (.int v) (.int v)=some (.int (v * v)):=gW (iQ (Int.lt_of_lt_of_le (by decide) o) (Int.lt_trans n (by decide)))
  refine⟨(v * v+v / 7) % 2147483647 / 11 % m,?_,Int.emod_nonneg _ (Int.ne_of_gt e),JJ _ e⟩
  exact dF (bU (fB (oo (oo (oo (oo (bI rfl t) rfl E) rfl B) (oo rfl rfl A) rfl) rfl a1)) (bU (fB (oo (oo (oo rfl rfl z) (oo rfl rfl (g _ _ (by decide) (by decide))) rfl) rfl y)) (dH (oo (oo (oo (oo (oo rfl rfl x) (oo rfl rfl (g _ _ (by decide) (by decide))) rfl) rfl (n5 (by decide))) rfl (g _ _ (by decide) (by decide))) rfl (n5 e)))))
 obtain⟨r,l,f,w⟩:=a
 have:dr ns k m=r:=by unfold dr;rw [l]
 rw [this]
 exact⟨l,f,w⟩
def iX(w h:Nat)(W:C->Bool):D:=.tuple (((cells w h).filter W).map aB)
def aK(w h:Nat)(W:C->Bool):D:=.tuple [.int w,.int h,iX w h W]
theorem Oj(w h:Nat)(p:Nat->Nat->Bool):((List.range w).flatMap fun(x:Nat)=>((List.range h).filter (p x)).map fun(y:Nat)=>((x:Int),(y:Int)))=(cells w h).filter fun c=>p c.1.toNat c.2.toNat:=by
 unfold cells;rw [List.filter_flatMap];congr 1
 funext x
 rw [List.filter_map];rfl
theorem AU(c:ρ[i]?=some (.own ds))(b:ga ρ=some (.list es))(a:ds.length+es.length<=1000):nE i ga ρ=some (.nx (ρ.set i (.own (ds++es)))):=by
 unfold nE;rw [c]
 show(ga ρ).bind _=_
 rw [b]
 show(if ds.length+es.length<=1000 then _ else _)=_
 rw [if_pos a]
theorem AX{b:Type}(f:Nat->List b):∀(l:List Nat) (acc:List b),l.foldl (fun a x=>a++f x) acc=acc++l.flatMap f
 | [],acc=>by simp
 | x::l,acc=>by rw [YR,AX f l,List.flatMap_cons,QG]
theorem AY{c:Type}(f:Nat->List c)(g:Nat->Sl):∀(l:List Nat) (acc:List c) (s:Sl),l.foldl (fun(b:List c × Sl) x=>(b.1++f x,g x)) (acc,s)=(l.foldl (fun a x=>a++f x) acc,l.foldl (fun _ x=>g x) s)
 | [],acc,s=>rfl
 | x::l,acc,s=>by rw [YR,YR,YR];exact AY f g l _ _
def BU(q:Int):Int:=if q=0 then 2 else if q=1 then 3 else if q=2 then 3 else if q=3 then 5 else 9
theorem Tk(q:Int)(b:0<=q)(a:q<5):aR (.list [.int 2,.int 3,.int 3,.int 5,.int 9]) (.int q)=some (.int (BU q))/\0<BU q:=by
 obtain⟨n,rfl⟩:=Int.eq_ofNat_of_zero_le b;rcases n with _ | _ | _ | _ | _ | n
 ·exact⟨rfl,by decide⟩
 ·exact⟨rfl,by decide⟩
 ·exact⟨rfl,by decide⟩
 ·exact⟨rfl,by decide⟩
 ·exact⟨rfl,by decide⟩
 ·exact absurd a (by lia)
theorem Om(ns:List Int)(o:ns.length<=63)(a:Int)(m:Nat)(M:0<m)(l:m<=5):∃(w h:Nat) (W:C->Bool),sC [cK ns,.int a,.int m]=some (aK w h W)/\1<=w/\w<=m/\1<=h/\h<=m:=by
 have u:(0:Int)<m:=Jx.mpr M;obtain⟨Z,B,A⟩:=rN ns o a m u;obtain⟨Y,S,R⟩:=rN ns o (a+1) m u;obtain⟨X,G,F⟩:=rN ns o (a+2) 5 (by decide);obtain⟨U,E⟩:=Tk _ G F;generalize dr ns a m=dw at *;generalize dr ns (a+1) m=dh at *;generalize BU (dr ns (a+2) 5)=g at *;have one:∀{x:Int},0<=x->x<m->∃ w:Nat,1+x=w/\1<=w/\w<=m:=fun{x} g1 g2=>⟨(1+x).toNat,by lia,by lia,by lia⟩;obtain⟨w,I,z,q⟩:=one B A;obtain⟨h,N,Q,v⟩:=one S R;clear one;have w5:w<=5:=QJ q l;have h5:h<=5:=QJ v l
 refine⟨w,h,fun c=>dr ns (a+3+8 * (c.1.toNat:Int)+(c.2.toNat:Int)) g == 0,?_,z,q,Q,v⟩
 refine dF ?_;unfold Ao;rw [show cY 8 [cK ns,.int a,.int m]=[.dat (cK ns),.dat (.int a),.dat (.int m),.no,.no,.no,.no,.no]from rfl];refine bU (fB (d:=.int (w:Int)) (oo rfl (bI rfl Z) (by rw [<- I];rfl))) (bU (fB (d:=.int (h:Int)) (oo rfl (bI rfl Y) (by rw [<- N];rfl))) (bU (fB (oo rfl (bI rfl X) U)) (bU (ρ':=[.dat (cK ns),.dat (.int a),.dat (.int m),.dat (.int w),.dat (.int h),.dat (.int g),.own [],.no]) rfl ?_)));obtain⟨f,p⟩:∃ f:Nat->List C,f=fun(x:Nat)=>((List.range h).filter fun(y:Nat)=>dr ns (a+3+8 * (x:Int)+(y:Int)) g == 0).map fun(y:Nat)=>((x:Int),(y:Int)):=⟨_,rfl⟩
 have fl:∀ x,(f x).length<=5:=fun x=>by
  rw [p,Qi];refine QJ (Ye _ _) ?_;rw [Yj];exact h5
 refine bU (HI (n:=w) rfl (YU w5 (by decide)) (rX (fun(k:Nat)=>.int (k:Int)) (fun(b:List C × Sl)=>[.dat (cK ns),.dat (.int a),.dat (.int m),.dat (.int w),.dat (.int h),.dat (.int g),.own (b.1.map aB),b.2])
  (fun b x=>(b.1++f x,.dat (.int (x:Int)))) (fun i b=>b.1.length<=5 * i) 5 (List.range w) 0 ([],.no) (by rw [Yj,Q3];exact w5) (Qm _) fun x hx i b hi K=>?_)) ?_
 ·obtain⟨j,s7⟩:=b;have J:j.length<=5 * i:=K;have O:=fl x
  refine⟨⟨[.dat (cK ns),.dat (.int a),.dat (.int m),.dat (.int w),.dat (.int h),.dat (.int g),.own (j.map aB),.dat (.int (x:Int))],rfl,?_⟩,by show(j++f x).length<=5 * (i+1);rw [Qo];lia⟩
  refine(AU (ds:=j.map aB) (es:=(f x).map aB) rfl ?_ (by rw [Qi,Qi];lia)).trans ?_
  ·have:=G4 (gi:=iT (aD (eV 4) aG)) (s:=cT 0) (t:=eB (aF lN (aT gR (aD (eV 2) (aD (aF cB (aF cB (aF cB (eV 4) (eC (.int 3))) (aF cH (eC (.int 8)) (eV 1))) (eV 0)) (aD (eV 3) aG)))) (eC (.int 0))))
    (ge:=c6 (aD (eV 1) (aD (eV 0) aG))) (inner:=[none,some 7,some 0,some 5,some 1]) (xs:=List.range h) (ρ:=[.dat (cK ns),.dat (.int a),.dat (.int m),.dat (.int w),.dat (.int h),.dat (.int g),.own (j.map aB),.dat (.int (x:Int))])
    (fun(k:Nat)=>.int (k:Int)) (fun(y:Nat)=>dr ns (a+3+8 * (x:Int)+(y:Int)) g == 0) (fun(y:Nat)=>aB ((x:Int),(y:Int)))
    (fun ρ=>∃ r,ρ=[r,.dat (.int (x:Int)),.dat (cK ns),.dat (.int g),.dat (.int a)]) (vC (n:=h) rfl (YU h5 (by decide))) (by rw [Yj];exact QJ h5 (by decide)) ⟨.no,rfl⟩ (by
     rintro y hy ρ ⟨r,rfl⟩;have e:=(rN ns o (a+3+8 * (x:Int)+(y:Int)) g E).1;have H:cH (.int 8) (.int (x:Int))=some (.int (8 * (x:Int))):=gW (iQ (by decide) (by decide))
     exact⟨[.dat (.int (y:Int)),.dat (.int (x:Int)),.dat (cK ns),.dat (.int g),.dat (.int a)],rfl,⟨_,rfl⟩,oB (oo (bI (cN rfl (cN (oo (oo rfl (oo rfl rfl H) rfl) rfl rfl) rfl)) e) rfl rfl),fun _=>rfl⟩)
   refine this.trans ?_;rw [p,YE];rfl
  ·show some (bD.nx _)=some (bD.nx _)
   rw [Yd];rfl
 ·refine dH ?_;rw [AY,AX]
  have T:(List.range w).flatMap f=(cells w h).filter fun c=>dr ns (a+3+8 * (c.1.toNat:Int)+(c.2.toNat:Int)) g == 0:=by
   rw [p];exact Oj w h fun x y=>dr ns (a+3+8 * (x:Int)+(y:Int)) g == 0
  rw [JM,T];rfl
end My
namespace My
open PySem.SeqAt L2 DL SD SL EL DC
theorem Cc:∀ l:List C,Zy (l.map aB)=true/\ZB (l.map aB)<=1
 | []=>⟨rfl,Q8 _⟩
 | c::l=>by
  obtain⟨b,a⟩:=Cc l
  refine⟨by rw [Qp,Zy,b];rfl,?_⟩
  rw [Qp,ZB];exact Nat.max_le.mpr ⟨Qm _,a⟩
theorem SN(l:List C):ZG (.tuple (l.map aB))=true:=by
 obtain⟨a,b⟩:=Cc l
 have:U5 (.tuple (l.map aB))<=64:=by show ZB (l.map aB)+1<=64;lia
 simp [ZG,Uf,a,this]
theorem Br(c:C):ZG (aB c)=true:=id rfl
theorem v0(a b:C):ZQ (aB a) (aB b)=(a == b):=by
 show((a.1 == b.1) && ((a.2 == b.2) && true))=_
 rw [J3];obtain⟨x,y⟩:=a;obtain⟨u,v⟩:=b;rfl
theorem KI(l:List C)(c:C):((l.map aB).any fun y=>ZQ y (aB c))=l.contains c:=by
 induction l with
 | nil=>rfl
 | cons a l b=>rw [Qp,JS,b,v0,List.contains_cons,Bool.beq_comm]
theorem Lr(a:Bool)(c:C)(l:List C):dY a (aB c) (.tuple (l.map aB))=some (.bool (if a then !l.contains c else l.contains c)):=by
 show(if(ZG (aB c) && ZG (.tuple (l.map aB)))=true then _ else _)=_
 rw [Br,SN,J2,if_pos rfl,KI]
def aU(w h:Nat)(W:C->Bool)(c:C):Bool:=cG w h c && W c
theorem B3(w h:Nat)(W:C->Bool)(c:C):((cells w h).filter W).contains c=aU w h W c:=by
 rw [Y9,YA,Ym,kF];unfold aU;rw [QL]
theorem zA(a:Bool)(c:C)(w h:Nat)(W:C->Bool):dY a (aB c) (iX w h W)=some (.bool (if a then !aU w h W c else aU w h W c)):=by
 unfold iX;rw [Lr,B3]
theorem Kf(i:Int):pH [.int i]=some (.bool true):=dF (dH rfl)
theorem O6(c:C):sF [aB c]=some (.bool true):=dF (bU (iH rfl) (dH (Dz (bI rfl (Kf c.1)) (bI rfl (Kf c.2)))))
theorem OS(w h:Nat)(W:C->Bool)(c:C):sE [aK w h W,aB c]=some (.bool (cG w h c)):=by
 refine dF (bU (iH (oN (oB (bI rfl (O6 c))))) (dH ?_))
 show((if decide (0<=c.1)=true then some (ZF (decide (c.1<w)))else some (.bool false)).bind fun x=>(jC x).bind fun k=>if k=true then(if decide (0<=c.2)=true then some (ZF (decide (c.2<h)))else some (.bool false))else some (.bool false))=_
 unfold cG
 cases decide (0<=c.1) <;> cases decide (c.1<w) <;> cases decide (0<=c.2) <;> cases decide (c.2<h) <;> rfl
theorem tK(a:cG w h c=true):i4 [aK w h W,aB c]=some .none:=by
 have q:=OS w h W c;rw [a]at q;exact Gj (iH (oN (oB (bI rfl q))))
theorem HX(a:cG w h c=true):nO [aK w h W,aB c]=some (.bool (W c)):=by
 have q:=zA false c w h W;unfold aU at q;rw [a,JQ]at q;exact dF (bU (tN (bI rfl (tK a))) (dH (oo rfl rfl q)))
theorem RX(b:cG w h c=true)(a:W c=false):sH [aK w h W,aB c]=some .none:=by
 have q:=HX (W:=W) b;rw [a]at q;exact Gj (iH (oB (bI rfl q)))
end My
namespace My
open PySem.SeqAt L2 DL SD SL EL DC
theorem Ti(w h:Nat)(g:0<h):((List.range (w * h)).map fun(i:Nat)=>(((i / h:Nat):Int),((i % h:Nat):Int)))=cells w h:=by
 refine Cw ?_ (jP w h) fun c=>?_
 ·unfold Up;rw [Yf];refine List.pairwise_lt_range.imp fun{a b} q=>?_;rw [jM];dsimp only;have j:a / h<=b / h:=Nat.div_le_div_right (YQ q);rcases Nat.lt_or_eq_of_le j with e | e
  ·exact .inl (Jx.mpr e)
  ·right
   have r:=Nat.div_add_mod a h;have s:=Nat.div_add_mod b h;rw [e]at r
   exact⟨by rw [e],Jx.mpr (by lia)⟩
 ·rw [kF,u8,QM];constructor
  ·rintro⟨i,p,rfl⟩
   have:=QY.mp p
   have j:i / h<w:=(Nat.div_lt_iff_lt_mul g).mpr this;have e:i % h<h:=Nat.mod_lt _ g
   exact⟨Jq _,Jx.mpr j,Jq _,Jx.mpr e⟩
  ·rintro⟨l,o,f,k⟩
   refine⟨c.1.toNat * h+c.2.toNat,QY.mpr ?_,?_⟩
   ·have this:c.1.toNat+1<=w:=(Int.toNat_lt l).mpr o;have n:=Nat.mul_le_mul_right h this;rw [Nat.succ_mul]at n;exact QX (Nat.add_lt_add_left ((Int.toNat_lt f).mpr k) _) n
   ·have e:c.2.toNat<h:=(Int.toNat_lt f).mpr k
    have d:(c.1.toNat * h+c.2.toNat) / h=c.1.toNat:=by
     rw [Nat.mul_comm,Nat.mul_add_div g,Nat.div_eq_of_lt e,JY]
    have m:(c.1.toNat * h+c.2.toNat) % h=c.2.toNat:=by
     rw [Nat.mul_comm,Nat.mul_add_mod,Nat.mod_eq_of_lt e]
    rw [d,m];exact JL (Jy l) (Jy f)
theorem PM(g:w<=5)(c:0<h)(b:h<=5):sB [aK w h W]=some (.list ((cells w h).map aB)):=by
 have a:w * h<=25:=Y8 g b
 have m:cH (.int w) (.int h)=some (.int ((w * h:Nat):Int)):=by rw [gW (iQ (Int.lt_of_lt_of_le (by decide) (Jq _)) (Int.lt_of_le_of_lt (Int.ofNat_le.mpr g) (by decide)))];rfl
 refine dF (dH (n0 (xs:=List.range (w * h)) (fun(k:Nat)=>.int (k:Int)) (fun _=>true) (fun(i:Nat)=>aB (((i / h:Nat):Int),((i % h:Nat):Int))) (fun e=>∃ f,e=[f,.dat (aK w h W)]) (vC (n:=w * h) ?_ (YU a (by decide))) (by rw [Yj];exact QJ a (by decide)) ⟨_,rfl⟩ ?_ ?_))
 ·exact cN (oo rfl rfl m) rfl
 ·rintro i _ e ⟨f,rfl⟩
  have d:kD (.int (i:Int)) (.int h)=some (.int ((i / h:Nat):Int)):=by rw [u5 (uL (Jx.mpr c) (Int.lt_of_le_of_lt (Int.ofNat_le.mpr b) (by decide)))];rfl
  have q:hW (.int (i:Int)) (.int h)=some (.int ((i % h:Nat):Int)):=by rw [n5 (Jx.mpr c)];rfl
  exact⟨[.dat (.int (i:Int)),.dat (aK w h W)],rfl,⟨_,rfl⟩,rfl,fun _=>LR (oo rfl rfl d) (oo rfl rfl q)⟩
 ·rw [u6,<- Ti w h c,YE];rfl
theorem Ek(m:w<=5)(c:h<=5):nN [aK w h W]=some (.list ((cells w h).map aB)):=by
 obtain⟨f,g⟩:∃ f:Nat->List C,f=fun(x:Nat)=>(List.range h).map fun(y:Nat)=>((x:Int),(y:Int)):=⟨_,rfl⟩;refine dF ?_;unfold Ap;rw [show cY 3 [aK w h W]=[.dat (aK w h W),.no,.no]from rfl];refine bU (ρ':=[.dat (aK w h W),.own [],.no]) rfl ?_
 refine bU (HI (n:=w) rfl (YU m (by decide)) (rX (fun(k:Nat)=>.int (k:Int)) (fun(b:List C × Sl)=>[.dat (aK w h W),.own (b.1.map aB),b.2])
  (fun b x=>(b.1++f x,.dat (.int (x:Int)))) (fun i b=>b.1.length<=5 * i) 5 (List.range w) 0 ([],.no) (by rw [Yj,Q3];exact m) (Qm _) fun x r i b s o=>?_)) ?_
 ·obtain⟨a,p⟩:=b;have d:a.length<=5 * i:=o
  have e:(f x).length<=5:=by rw [g,Qi,Yj];exact c
  refine⟨⟨[.dat (aK w h W),.own (a.map aB),.dat (.int (x:Int))],rfl,?_⟩,by show(a++f x).length<=5 * (i+1);rw [Qo];exact Nat.add_le_add d e⟩
  refine(AU (ds:=a.map aB) (es:=(f x).map aB) rfl (n0 (xs:=List.range h) (fun(k:Nat)=>.int (k:Int)) (fun _=>true) (fun(y:Nat)=>aB ((x:Int),(y:Int))) (fun j=>∃ l,j=[l,.dat (.int (x:Int))]) (vC (n:=h) rfl (YU c (by decide))) (by rw [Yj];exact QJ c (by decide)) ⟨.no,rfl⟩ ?_ ?_) (by rw [Qi,Qi];lia)).trans ?_
  ·rintro y q j ⟨l,rfl⟩
   exact⟨[.dat (.int (y:Int)),.dat (.int (x:Int))],rfl,⟨_,rfl⟩,rfl,fun _=>rfl⟩
  ·rw [u6,g,YE];rfl
  ·show some (bD.nx _)=some (bD.nx _)
   rw [Yd];rfl
 ·refine dH ?_;rw [AY,AX,JM,g];rfl
theorem wS:∀ l:List C,pL (l.map aB)=some (l.map row)
 | []=>rfl
 | c::l=>by
  show(cX [.int c.1,.int c.2]).bind (fun b=>(pL (l.map aB)).bind fun a=>some (b::a))=_
  rw [wS l];rfl
theorem mI(q:row a=row b):a=b:=by
 unfold row at q
 injection q with q1 q2
 injection q2 with q2 _
 exact JL q1 q2
theorem SE{l:List C}(h:l.Nodup):(l.map row).Nodup:=by
 rw [List.Nodup,Yf];exact h.imp fun{a b} q r=>q (mI r)
theorem FF(l:List C)(c:C):(l.map row).contains (row c)=l.contains c:=by
 rw [Y9,YA,YA,QM];constructor
 ·rintro⟨d,a,e⟩;rw [<- mI e];exact a
 ·intro h;exact⟨c,h,rfl⟩
theorem RW{w h:Nat}{W:C->Bool}(d:w<=5)(a:h<=5):pJ [aK w h W]=some (.list (((cells w h).filter fun c => !W c).map aB)):=by
 have g:(cells w h).length<=25:=by rw [kB];exact Y8 d a
 have m:=Ye W (cells w h);have l:=Ye (fun c => !W c) (cells w h)
 have f:rJ [.list ((cells w h).map aB)]=some ((cells w h).map row):=by
  show(if _ then _ else _)=_
  rw [if_pos (by rw [Qi];lia),wS]
 have e:rJ [iX w h W]=some (((cells w h).filter W).map row):=by
  show(if _ then _ else _)=_
  rw [if_pos (by rw [Qi];lia),wS]
 have j:((cells w h).map row).filter (fun k => !(((cells w h).filter W).map row).contains k)=((cells w h).filter fun c => !W c).map row:=by
  rw [List.filter_map];congr 1;refine Jl fun c i=>?_
  show(!(((cells w h).filter W).map row).contains (row c))=_
  rw [FF,B3];unfold aU;rw [kF.mp i,JQ]
 have b:=wB (jP w h) fun c => !W c;refine dF (dH ?_);unfold nV AR lQ;rw [cN (bI rfl (Ek (W:=W) d a)) rfl,Qj,f,Qj,show aD (aF aR (eV 0) (eC (.int 2))) aG (List.map frz (cY 1 [aK w h W]))=some [iX w h W]from rfl,Qj,e,Qj];rw [if_pos (by rw [Qi];lia),Qj,j,Ed _ (SE (wC b)),wT];exact H0 (wC b) (by lia) b fun c=>Iff.rfl
def rD(l:List C):D:=.dict (l.map fun c=>(aB c,.bool true))
theorem FK(c:C):eQ (aB c)=some (row c):=id rfl
theorem FE(l:List C)(c:C):hY (l.map fun c=>(aB c,ZF true)) (row c)=l.contains c:=by
 unfold hY;rw [List.any_map]
 induction l with
 | nil=>rfl
 | cons a l b=>
  rw [JS,b,List.contains_cons];congr 1
  show(eQ (aB a) == some (row c))=_
  rw [FK,Y9,beq_iff_eq,beq_iff_eq];constructor
  ·intro q;exact(mI (QB q)).symm
  ·intro q;rw [q]
theorem Ol(l:List C):kZ (l.map fun c=>(aB c,ZF true))=true:=by
 unfold kZ;rw [List.all_map,Yb];intro c _;rfl
theorem Ls(a:Bool)(c:C)(l:List C):hO a (aB c) (rD l)=some (.bool (if a then !l.contains c else l.contains c)):=by
 show(eQ (aB c)).bind (fun k=>if kZ (l.map fun c=>(aB c,ZF true))=true then some (ZF (if a then !hY (l.map fun c=>(aB c,ZF true)) k else hY (l.map fun c=>(aB c,ZF true)) k))else none)=_
 rw [FK,Qj,Ol,if_pos rfl,FE]
theorem GP:∀ l:List C,qI (l.map fun c=>Z6 [aB c,.bool true])=some (l.map fun c=>(row c,.bool true))
 | []=>rfl
 | c::l=>by
  show(x5 (.tuple [aB c,.bool true])).bind (fun p=>(qI (l.map fun c=>Z6 [aB c,.bool true])).bind fun a=>some (p::a))=_
  rw [GP l];rfl
theorem Vz(l:List C)(c:C)(h:c∉l):nD (l.map fun c=>(aB c,ZF true)) (row c) (.bool true)=(l++[c]).map fun c=>(aB c,ZF true):=by
 unfold nD;rw [FE,if_neg (by rw [YA];exact h),Yd];rfl
theorem FM:∀(l acc:List C),(acc++l).Nodup->(l.map fun c=>(row c,ZF true)).foldl (fun kvs p=>nD kvs p.1 p.2) (acc.map fun c=>(aB c,ZF true))=(acc++l).map fun c=>(aB c,ZF true)
 | [],acc,_=>by rw [QP];rfl
 | c::l,acc,h=>by
  have a:c∉acc:=by
   rw [List.nodup_append]at h;exact fun q=>h.2.2 c q c Qk rfl
  rw [Qp,YR]
  show(l.map _).foldl _ (nD _ (row c) (.bool true))=_
  rw [Vz acc c a,FM l (acc++[c]) (by rw [QG];exact h),QG];rfl
theorem Pk(g:rH d=some (l.map aB))(b:l.length<=1000)(f:l.Nodup):iB [d]=some (rD l):=by
 refine dF (dH (bI (ds:=[.list (l.map fun c=>Z6 [aB c,.bool true])]) ?_ ?_))
 ·have e:=n0 (gi:=dU (eV 0)) (s:=cT 0) (t:=eT) (ge:=c6 (aD (eV 0) (aD (eC (.bool true)) aG))) (inner:=[none]) (ρ:=(cY 1 [d]).map frz) (xs:=l) aB (fun _=>true) (fun c=>Z6 [aB c,.bool true]) (fun ρ=>∃ a,ρ=[a]) (k4 rfl g) b ⟨_,rfl⟩ (by
   rintro c _ ρ ⟨a,rfl⟩
   exact⟨[.dat (aB c)],rfl,⟨_,rfl⟩,rfl,fun _=>rfl⟩) (by rw [u6])
  exact cN e rfl
 ·show(if _ then _ else _)=_
  rw [if_pos (by rw [Qi];exact b),GP,Qj]
  have:=FM l [] (by simpa using f)
  rw [JM]at this;unfold sP rD;rw [<- this];rfl
theorem Cj(c:w<=5)(a:h<=5):iB [iX w h W]=some (rD ((cells w h).filter W)):=by
 have b:(cells w h).length<=25:=by rw [kB];exact Y8 c a
 have d:=Ye W (cells w h);exact Pk rfl (by lia) (wC (wB (jP w h) W))
def eA(w h:Nat)(W:C->Bool):D:=rD ((cells w h).filter W)
theorem EU(a:Bool)(c:C)(w h:Nat)(W:C->Bool):hO a (aB c) (eA w h W)=some (.bool (if a then !aU w h W c else aU w h W c)):=by
 unfold eA;rw [Ls,B3]
end My
namespace My
open PySem.SeqAt L2 DL SD SL EL DC
structure WS where
 gx:Int
 gy:Int
 cs:List C
 s9:Sl
 s10:Sl
def y9(a b:C)(f e d c:Int)(s:WS):aA:=[.dat (aB a),.dat (aB b),.dat (.int f),.dat (.int e),.dat (.int d),.dat (.int c),.dat (.int s.gx),.dat (.int s.gy),.own (s.cs.map aB),s.s9,s.s10]
def vQ(b a:Int)(s:WS):Bool:=decide (s.gx<b) || decide (s.gy<a)
def oV(b a:Int)(s:WS):Int:=if(2 * s.gx+1) * a<=(2 * s.gy+1) * b then s.gx+1 else s.gx
def rE(b a:Int)(s:WS):Int:=if(2 * s.gy+1) * b<=(2 * s.gx+1) * a then s.gy+1 else s.gy
def xF(a:C)(c b e d:Int)(s:WS):WS:=⟨oV c b s,rE c b s,s.cs++[(a.1+e * oV c b s,a.2+d * rE c b s)],.dat (.int ((2 * s.gx+1) * b)),.dat (.int ((2 * s.gy+1) * c))⟩
theorem Fb(a:C)(d b i f:Int):∀(n:Nat) (s:WS) (st:List C),yD d b n s.gx s.gy=some st->∃ s',sV (vQ d b) (xF a d b i f) n s=some s'/\s'.cs=s.cs++st.map fun g=>(a.1+i * g.1,a.2+f * g.2)
 | 0,_,_,h=>by cases h
 | n+1,s,st,h=>by
  unfold yD at h;unfold sV;by_cases c:s.gx<d ∨ s.gy<b
  ·rw [if_pos c]at h;obtain⟨r,e,h⟩:=aE h;cases h;rw [if_pos (by unfold vQ;rw [JN,decide_eq_true_eq,decide_eq_true_eq];exact c)];obtain⟨s',k,j⟩:=Fb a d b i f n (xF a d b i f s) r e
   refine⟨s',k,?_⟩
   rw [j]
   show(s.cs++[_])++_=_
   rw [QG];rfl
  ·rw [if_neg c]at h;cases h;rw [if_neg (by unfold vQ;rw [JN,decide_eq_true_eq,decide_eq_true_eq];exact c)]
   exact⟨s,rfl,by simp⟩
theorem Pa(n:fN a b):sD [aB a,aB b]=some (.list ((line a b).map aB)):=by
 have O:=n.ok;obtain⟨u,e,h⟩:=aE O.some
 have p:∀ x,-100<dZ x/\dZ x<100:=fun x=>by unfold dZ;split <;> decide
 have F:=p (b.1-a.1);have E:=p (b.2-a.2);clear p;obtain⟨J,I,H,G⟩:=n
 have t:∀ x,-4<=x->x<=4->0<=dV x/\dV x<100:=fun x h T=>by unfold dV;split <;> lia
 have N:=t _ J I;have M:=t _ H G;clear t
 have B:u.length<=8:=by
  have:=O.len
  rw [<- QB h,Qv,Qi]at this;lia
 have q:∀ x y:Int,(if decide (x<y)=true then some (Zh 1)else some (.int (-1)))=some (.int (dZ (y-x))):=fun x y=>by
  unfold dZ;by_cases c:x<y
  ·rw [if_pos (decide_eq_true c),if_pos (by lia)]
  ·rw [if_neg (by simpa using c),if_neg (by lia)]
 have A:=q a.1 b.1;have w:=q a.2 b.2;clear q;obtain⟨v,K,r⟩:=Fb a (dV (b.1-a.1)) (dV (b.2-a.2)) (dZ (b.1-a.1)) (dZ (b.2-a.2)) 900 ⟨0,0,[a],.no,.no⟩ u e
 have j:line a b=v.cs:=by
  rw [r];unfold line;rw [<- QB h,Qp,YE]
  show _::_=_::_
  congr 1;exact JL (by show a.1+0=a.1;lia) (by show a.2+0=a.2;lia)
 rw [j];refine dF ?_;unfold Au;refine bU (fB (d:=.int (dV (b.1-a.1))) rfl) (bU (fB (d:=.int (dV (b.2-a.2))) rfl) (bU (fB A) (bU (fB w) (bU (fB rfl) (bU (fB rfl) (bU (ρ':=y9 a b (dV (b.1-a.1)) (dV (b.2-a.2)) (dZ (b.1-a.1)) (dZ (b.2-a.2)) ⟨0,0,[a],.no,.no⟩) rfl ?_))))));generalize dV (b.1-a.1)=f at *;generalize dV (b.2-a.2)=g at *;generalize dZ (b.1-a.1)=m at *;generalize dZ (b.2-a.2)=l at *;clear A w;have o:∀ k,-100<k/\k<100->∀ i:Int,cH (.int k) (.int i)=some (.int (k * i)):=fun k h i=>gW (iQ (by lia) (by lia));have mT:∀ k,0<=k/\k<100->∀ i:Int,cH (.int i) (.int k)=some (.int (i * k)):=fun k h i=>gW (DF (by lia) (by lia));refine bU (Ke (y9 a b f g m l) (vQ f g) (xF a f g m l) (fun n s=>s.cs.length+n<=901) (fun n s Q=>?_) (fun n s Q S=>⟨?_,?_⟩) 900 ⟨0,0,[a],.no,.no⟩ v (by show 1+900<=901;decide) K) (dH rfl)
 ·show(if decide (s.gx<f)=true then some true else some (decide (s.gy<g)))=some (decide (s.gx<f) || decide (s.gy<g))
  cases decide (s.gx<f) <;> rfl
 ·have R:(s.cs.map aB).length<1000:=by rw [Qi];lia
  refine bU (fB (oo (oo (oo rfl rfl (o 2 (by decide) s.gx)) rfl rfl) rfl (mT g M _))) (bU (fB (oo (oo (oo rfl rfl (o 2 (by decide) s.gy)) rfl rfl) rfl (mT f N _))) ?_);refine bU (ρ':=[.dat (aB a),.dat (aB b),.dat (.int f),.dat (.int g),.dat (.int m),.dat (.int l),.dat (.int (oV f g s)),.dat (.int s.gy),.own (s.cs.map aB),.dat (.int ((2 * s.gx+1) * g)),.dat (.int ((2 * s.gy+1) * f))]) ?_ ?_
  ·unfold oV;by_cases c:(2 * s.gx+1) * g<=(2 * s.gy+1) * f
   ·rw [if_pos c]
    exact mJ (b:=true) (congrArg some (decide_eq_true c)) (fun _=>rfl) fun z=>by cases z
   ·rw [if_neg c];exact iH (congrArg some (decide_eq_false c))
  refine bU (ρ':=[.dat (aB a),.dat (aB b),.dat (.int f),.dat (.int g),.dat (.int m),.dat (.int l),.dat (.int (oV f g s)),.dat (.int (rE f g s)),.own (s.cs.map aB),.dat (.int ((2 * s.gx+1) * g)),.dat (.int ((2 * s.gy+1) * f))]) ?_ ?_
  ·unfold rE;by_cases c:(2 * s.gy+1) * f<=(2 * s.gx+1) * g
   ·rw [if_pos c]
    exact mJ (b:=true) (congrArg some (decide_eq_true c)) (fun _=>rfl) fun z=>by cases z
   ·rw [if_neg c];exact iH (congrArg some (decide_eq_false c))
  refine(HH (ds:=s.cs.map aB) (d:=aB (a.1+m * oV f g s,a.2+l * rE f g s)) rfl ?_ R).trans ?_
  ·unfold c6;rw [cN (oo rfl (oo rfl rfl (o m F _)) rfl) (cN (oo rfl (oo rfl rfl (o l E _)) rfl) rfl)];rfl
  ·unfold y9 xF;rw [Yd];rfl
 ·show(s.cs++[_]).length+n<=901
  rw [Qo,Yk];lia
end My
namespace My
open PySem.SeqAt L2 DL SD SL EL DC
abbrev Cp:=C × C
def aQ(p:Cp):D:=.tuple [aB p.1,aB p.2]
def two(p q:C):Cp:=if j0 q p=true then(q,p)else(p,q)
def lR(p:Cp):Cp:=two (p.1.1,p.2.2) (p.2.1,p.1.2)
def lS(l:List C):List Cp:=((l.zip l.tail).filter fun p=>dA p.1 p.2).map lR
theorem VL(S:C->Bool)(p q:C):(S (two p q).1 && S (two p q).2)=(S p && S q):=by
 unfold two;split
 ·exact UW _ _
 ·rfl
theorem Ih(S:C->Bool):∀ l:List C,(lS l).all (fun p => !(S p.1 && S p.2))=fL S l
 | []=>rfl
 | [a]=>rfl
 | a::b::l=>by
  have c:=Ih S (b::l);unfold lS at c ⊢;rw [n9]
  show((((a,b)::(b::l).zip (b::l).tail).filter fun p=>dA p.1 p.2).map lR).all _=_
  rw [List.filter_cons];dsimp only
  cases dA a b with
  | true=>
   rw [if_pos rfl,Qp,List.all_cons,c];congr 1
   show(!(S (two (a.1,b.2) (b.1,a.2)).1 && S (two (a.1,b.2) (b.1,a.2)).2))=_
   rw [VL];rfl
  | false=>rw [if_neg Qr,c];rfl
theorem Wf(p q:C):jG [.list [aB p,aB q]]=some (.list [aB (two p q).1,aB (two p q).2]):=by
 have:=tV (l:=[row p,row q]) (by intro k a;rcases Ql.mp a with rfl | a;rfl;rcases Ql.mp a with rfl | a;rfl;cases a) (by show 2<=63;decide)
 refine this.trans ?_
 show some (ZY ((if HT.lexLt (row q) (row p)=true then [row q,row p]else [row p,row q]).map eW))=_
 unfold two j0
 split <;> rfl
theorem IK:∀ l m:List C,List.zipWith (fun x y=>Z6 [x,y]) (l.map aB) (m.map aB)=(l.zip m).map aQ
 | [],_=>rfl
 | _::_,[]=>rfl
 | a::l,b::m=>by rw [Qp,Qp,List.zipWith_cons_cons,IK l m];rfl
theorem Pf(l:List C):cutD (l.map aB) (some 1) none=l.tail.map aB:=by
 cases l with
 | nil=>rfl
 | cons a l=>
  unfold DL.cutD
  have b:HT.sIx ((a::l).map aB).length 0 (some 1)=1:=by
   have:=HT.sIx_nat ((a::l).map aB).length 0 1
   rw [show((1:Nat):Int)=1 from rfl]at this;rw [this,Qi,Qv];lia
  rw [b,HT.sIx_none];simp;exact Y5 (by simp)
theorem Pc(l:List C):cutD (l.map aB) none (some (-1))=l.dropLast.map aB:=by
 unfold DL.cutD;rw [HT.sIx_none]
 have a:HT.sIx (l.map aB).length (l.map aB).length (some (-1))=l.length-1:=by
  unfold HT.sIx;simp;lia
 rw [a,List.drop_zero,Nat.sub_zero,List.dropLast_eq_take,List.map_take]
theorem N2(l:List C)(r:l.length<=500):pF [.list (l.map aB)]=some (.list ((lS l).map aQ)):=by
 have o:(l.zip l.tail).length<=500:=by rw [List.length_zip];lia
 refine dF ?_;unfold Ar;rw [show cY 4 [.list (l.map aB)]=[.dat (.list (l.map aB)),.no,.no,.no]from rfl];refine bU (ρ':=[.dat (.list (l.map aB)),.own [],.no,.no]) rfl ?_
 have g:qZ (aD (eV 0) (aD (oP (eV 0) (oE (eC (.int 1))) oW) aG)) [.dat (.list (l.map aB)),.own [],.no,.no]=some ((l.zip l.tail).map aQ):=by
  show some (List.zipWith (fun x y=>Z6 [x,y]) (l.map aB) (cutD (l.map aB) (some 1) none))=_
  rw [Pf,IK]
 refine bU (pM g (rX aQ (fun(b:List Cp × Sl × Sl)=>[.dat (.list (l.map aB)),.own (b.1.map aQ),b.2.1,b.2.2]) (fun b p=>(if dA p.1 p.2=true then b.1++[lR p]else b.1,.dat (aB p.1),.dat (aB p.2))) (fun i b=>b.1.length<=i) 500 (l.zip l.tail) 0 ([],.no,.no) (by lia) (Qm _) fun p _ i b s k=>?_)) ?_
 ·obtain⟨a,n,m⟩:=b;have j:a.length<=i:=k
  have f:(a.map aQ).length<1000:=by rw [Qi];lia
  refine⟨⟨[.dat (.list (l.map aB)),.own (a.map aQ),.dat (aB p.1),.dat (aB p.2)],rfl,?_⟩,?_⟩
  ·have t:kM (eB (aF bW (aF aR (eV 2) (eC (.int 0))) (aF aR (eV 3) (eC (.int 0))))) (eB (aF bW (aF aR (eV 2) (eC (.int 1))) (aF aR (eV 3) (eC (.int 1))))) [.dat (.list (l.map aB)),.dat (.list (a.map aQ)),.dat (aB p.1),.dat (aB p.2)]=some (dA p.1 p.2):=by
    show(if(!(p.1.1 == p.2.1))=true then some (!(p.1.2 == p.2.2))else some false)=some (!(p.1.1 == p.2.1) && !(p.1.2 == p.2.2))
    cases p.1.1 == p.2.1 <;> rfl
   dsimp only
   cases q:dA p.1 p.2 with
   | true=>
    rw [q]at t
    refine(mJ (b:=true) t (fun _=>HH (ds:=a.map aQ) (d:=aQ (lR p)) rfl (bI (cN (bI rfl (Wf (p.1.1,p.2.2) (p.2.1,p.1.2))) rfl) rfl) f) fun z=>by cases z).trans ?_
    rw [if_pos rfl,Yd];rfl
   | false=>
    rw [q]at t;exact iH t
  ·show(if dA p.1 p.2=true then a++[lR p]else a).length<=i+1
   split
   ·rw [Qo,Yk];lia
   ·lia
 ·have e:∀(c:List Cp) (b:List Cp × Sl × Sl),(c.foldl (fun(b:List Cp × Sl × Sl) p=>(if dA p.1 p.2=true then b.1++[lR p]else b.1,Sl.dat (aB p.1),Sl.dat (aB p.2))) b).1=b.1++(c.filter fun p=>dA p.1 p.2).map lR:=by
   intro c
   induction c with
   | nil=>intro b;simp
   | cons z c h=>
    intro b;rw [YR,h,List.filter_cons];dsimp only
    cases dA z.1 z.2 with
    | true=>rw [if_pos rfl,if_pos rfl,Qp,QG];rfl
    | false=>rw [if_neg Qr,if_neg Qr]
  refine dH ?_
  show some (ZY (((l.zip l.tail).foldl (fun(b:List Cp × Sl × Sl) p=>(if dA p.1 p.2=true then b.1++[lR p]else b.1,Sl.dat (aB p.1),Sl.dat (aB p.2))) ([],.no,.no)).1.map aQ))=_
  rw [e];rfl
theorem HN(n:fN a b):nP [eA w h W,aB a,aB b]=some (.bool (clear (aU w h W) a b)):=by
 have B:(line a b).length<=9:=by unfold line;rw [Qi];exact n.ok.len
 have E:(line a b).dropLast.length<=9:=by rw [List.length_dropLast];lia
 refine dF ?_;unfold Av;rw [show cY 7 [eA w h W,aB a,aB b]=[.dat (eA w h W),.dat (aB a),.dat (aB b),.no,.no,.no,.no]from rfl];refine bU (fB (bI rfl (Pa n))) ?_;have d:∀ c,hO false (aB c) (eA w h W)=some (.bool (aU w h W c)):=fun c=>EU false c w h W
 have m:=AZ (s:=cT 4) (g:=eU (eB (aF (hO false) (eV 4) (eV 0))) (cJ (eC (.bool false))) gL) aB (fun f=>∃ e,f=[.dat (eA w h W),.dat (aB a),.dat (aB b),.dat (.list ((line a b).map aB)),e,.no,.no]) (aU w h W) (.bool false) (line a b).dropLast [.dat (eA w h W),.dat (aB a),.dat (aB b),.dat (.list ((line a b).map aB)),.no,.no,.no] ⟨_,rfl⟩ (by
  rintro c _ f ⟨e,rfl⟩
  refine⟨[.dat (eA w h W),.dat (aB a),.dat (aB b),.dat (.list ((line a b).map aB)),.dat (aB c),.no,.no],rfl,?_⟩
  cases q:aU w h W c with
  | true=>rw [if_pos rfl];exact mJ (b:=true) (oB (oo rfl rfl (by rw [d,q]))) (fun _=>rfl) fun z=>by cases z
  | false=>rw [if_neg Qr];exact⟨_,iH (oB (oo rfl rfl (by rw [d,q]))),⟨_,rfl⟩⟩)
 have x:dU (oP (eV 3) oW (oE (qX oM (eC (.int 1))))) [.dat (eA w h W),.dat (aB a),.dat (aB b),.dat (.list ((line a b).map aB)),.no,.no,.no]=some ((line a b).dropLast.map aB):=by
  show some (cutD ((line a b).map aB) none (some (-1)))=_
  rw [Pc]
 unfold clear;by_cases j:(line a b).dropLast.any (aU w h W)=true
 ·rw [if_pos j]at m
  refine(tO (pM x m)).trans ?_
  have:(line a b).dropLast.all (fun c => !aU w h W c)=false:=by
   rw [JG];simp only [Bool.not_not];rw [j];rfl
  rw [this];rfl
 ·rw [if_neg j]at m;obtain⟨o,A,e,rfl⟩:=m;refine bU (pM x A) ?_
  have a1:(line a b).dropLast.all (fun c => !aU w h W c)=true:=by
   rw [JG];simp only [Bool.not_not];rw [JZ]at j;rw [j];rfl
  rw [a1,JQ,<- Ih]
  have l:=AZ (s:=rM 2 (lF (cT 5) (lF (cT 6) rL))) (g:=eU (kM (eB (aF (hO false) (eV 5) (eV 0))) (eB (aF (hO false) (eV 6) (eV 0)))) (cJ (eC (.bool false))) gL) aQ (fun f=>∃ t r,f=[.dat (eA w h W),.dat (aB a),.dat (aB b),.dat (.list ((line a b).map aB)),e,t,r]) (fun p=>aU w h W p.1 && aU w h W p.2) (.bool false) (lS (line a b)) [.dat (eA w h W),.dat (aB a),.dat (aB b),.dat (.list ((line a b).map aB)),e,.no,.no] ⟨_,_,rfl⟩ (by
   rintro p _ f ⟨t,r,rfl⟩
   refine⟨[.dat (eA w h W),.dat (aB a),.dat (aB b),.dat (.list ((line a b).map aB)),e,.dat (aB p.1),.dat (aB p.2)],rfl,?_⟩
   cases k:aU w h W p.1 <;> cases u:aU w h W p.2
   ·exact⟨_,iH (Dx (oB (oo rfl rfl (by rw [d,k])))),⟨_,_,rfl⟩⟩
   ·exact⟨_,iH (Dx (oB (oo rfl rfl (by rw [d,k])))),⟨_,_,rfl⟩⟩
   ·exact⟨_,iH (Dy (oB (oo rfl rfl (by rw [d,k]))) (oB (oo rfl rfl (by rw [d,u])))),⟨_,_,rfl⟩⟩
   ·show eU _ _ _ _=_
    exact mJ (b:=true) (Dy (oB (oo rfl rfl (by rw [d,k]))) (oB (oo rfl rfl (by rw [d,u])))) (fun _=>rfl) fun z=>by cases z)
  have v:dU (aT pF (aD (eV 3) aG)) [.dat (eA w h W),.dat (aB a),.dat (aB b),.dat (.list ((line a b).map aB)),e,.no,.no]=some ((lS (line a b)).map aQ):=
   k4 (bI rfl (N2 _ (by lia))) rfl
  by_cases i:(lS (line a b)).any (fun p=>aU w h W p.1 && aU w h W p.2)=true
  ·rw [if_pos i]at l
   refine(tO (pM v l)).trans ?_
   have:(lS (line a b)).all (fun p => !(aU w h W p.1 && aU w h W p.2))=false:=by
    rw [JG];simp only [Bool.not_not];rw [i];rfl
   rw [this]
  ·rw [if_neg i]at l;obtain⟨o,y,t,r,rfl⟩:=l;refine bU (pM v y) ?_
   have:(lS (line a b)).all (fun p => !(aU w h W p.1 && aU w h W p.2))=true:=by
    rw [JG];simp only [Bool.not_not];rw [JZ]at i;rw [i];rfl
   rw [this];exact dH rfl
theorem tE(c:w<=5)(e:h<=5)(g:cG w h a=true)(f:cG w h b=true):fN a b:=by
 obtain⟨a1,o,m,l⟩:=u8.mp g;obtain⟨b1,k,j,i⟩:=u8.mp f
 have d:∀{n:Nat}{x y:Int},n<=5->0<=x->x<n->0<=y->y<n->-4<=y-x/\y-x<=4:=fun u t s r h5=>by lia
 have p:=d c a1 o b1 k;have q:=d e m l j i
 exact⟨p.1,p.2,q.1,q.2⟩
section
variable {w h:Nat}{W:C->Bool}(hw:w<=5)(hh:h<=5)
include hw hh
theorem tU(a:cG w h c=true):aU w h W c=W c:=by unfold aU;rw [a,JQ]
theorem FU(d:cG w h a=true)(c:cG w h b=true):kU [eA w h W,aB a,aB b]=some (.bool (bE (aU w h W) a b)):=by
 have e:=HN (w:=w) (h:=h) (W:=W) (tE hw hh d c);have i:=EU true b w h W;unfold bE
 cases q:aU w h W b with
 | true=>rw [q]at i;exact dF (dH (LO (oo rfl rfl i)))
 | false=>rw [q]at i;exact dF (dH (Dz (oo rfl rfl i) (bI rfl e)))
theorem TF(d:cG w h a=true)(c:cG w h b=true):j9 [aK w h W,aB a,aB b]=some (.bool (bE (aU w h W) a b)):=by
 have m:iB [iX w h W]=some (eA w h W):=Cj hw hh;exact dF (bU (tN (bI rfl (tK d))) (bU (tN (bI rfl (tK c))) (dH (bI (cN (bI rfl m) rfl) (FU hw hh d c)))))
end
end My
namespace My
open PySem.SeqAt L2 DL SD SL EL DC
theorem LM(a b:C):bW (aB a) (aB b)=some (.bool (!(a == b))):=by
 unfold bW;rw [Br,Br,v0];rfl
theorem Li(w h:Nat)(l:List C)(W:C->Bool)(e:l=(cells w h).filter W):Z6 [.int w,.int h,.tuple (l.map aB)]=aK w h W:=by rw [e];rfl
theorem Kd(a:w<=5)(b:h<=5)(W:C->Bool):((cells w h).filter W).length<=25:=
 QJ (Ye _ _) (by rw [kB];exact Y8 a b)
theorem Kh(d:w<=5)(e:h<=5)(f:cG w h c=true):i6 [aK w h W,aB c]=some (aK w h fun x=>W x && !(x == c)):=by
 have g:=Kd d e W;refine dF ?_;unfold BY;rw [show cY 2 [aK w h W,aB c]=[.dat (aK w h W),.dat (aB c)]from rfl];refine bU (tN (bI rfl (tK f))) (dH ?_)
 have b:=n0 (gi:=dU (aF aR (eV 0) (eC (.int 2)))) (s:=cT 0) (t:=eB (aF bW (eV 0) (eV 1))) (ge:=eV 0) (inner:=[none,some 1]) (ρ:=[.dat (aK w h W),.dat (aB c)]) (xs:=(cells w h).filter W) aB (fun x => !(x == c)) aB (fun ρ=>∃ a,ρ=[a,.dat (aB c)]) (k4 rfl rfl) (by lia) ⟨_,rfl⟩ (by
  rintro x _ ρ ⟨a,rfl⟩
  exact⟨[.dat (aB x),.dat (aB c)],rfl,⟨_,rfl⟩,oB (oo rfl rfl (LM x c)),fun _=>rfl⟩) rfl
 refine(DD rfl rfl (bI (cN b rfl) rfl)).trans ?_
 exact congrArg some (Li w h (((cells w h).filter W).filter fun x => !(x == c)) (fun x=>W x && !(x == c)) (by rw [List.filter_filter];exact Jl fun x _=>UW _ _))
end My
namespace My
open PySem.SeqAt L2 DL SD SL EL DC
def jW:List C->List C
 | []=>[]
 | a::r=>if a∈r then jW r else a::jW r
theorem xQ:∀{l:List C},c∈jW l ↔ c∈l
 | []=>Iff.rfl
 | a::r=>by
  unfold jW;by_cases e:a∈r
  ·rw [if_pos e,xQ,Ql]
   exact⟨.inr,fun q=>q.elim (fun z=>by rw [z];exact e) id⟩
  ·rw [if_neg e,Ql,Ql,xQ]
theorem By:∀ l:List C,(jW l).Nodup
 | []=>YH
 | a::r=>by
  unfold jW;by_cases e:a∈r
  ·rw [if_pos e];exact By r
  ·rw [if_neg e,Yc,xQ];exact⟨e,By r⟩
theorem G8:∀ l:List C,(jW l).length<=l.length
 | []=>Qm _
 | a::r=>by
  have:=G8 r
  unfold jW;split
  ·rw [Qv];lia
  ·rw [Qv,Qv];lia
theorem AB:∀ l:List C,dd (l.map row)=(jW l).map row
 | []=>rfl
 | a::r=>by
  rw [Qp];unfold dd jW
  have:row a∈r.map row ↔ a∈r:=by
   rw [<- YA,FF,YA]
  by_cases e:a∈r
  ·rw [if_pos (this.mpr e),if_pos e,AB r]
  ·rw [if_neg (fun z=>e (this.mp z)),if_neg e,AB r,Qp]
def j5(w h:Nat)(W:C->Bool):List C:=(cells w h).filter fun c => !W c
theorem Hk:c∈j5 w h W ↔ cG w h c=true/\W c=false:=by
 unfold j5;rw [Ym,kF,YD]
theorem VQ(w h:Nat)(W:C->Bool):Up (j5 w h W):=wB (jP w h) _
theorem GJ(a:w<=5)(b:h<=5)(W:C->Bool):(j5 w h W).length<=25:=
 QJ (Ye _ _) (by rw [kB];exact Y8 a b)
theorem Wg{l m:List C}{ga:aA->Option D}{ρ:aA}(b:l.length<=63)(a:Up m)(h:∀ c,c∈m ↔ c∈l)(d:ga ρ=some (.tuple (l.map aB))):nV (lQ (aD ga aG)) ρ=some (.list (m.map aB)):=by
 have s:rJ [.tuple (l.map aB)]=some (l.map row):=by
  show(if _ then _ else _)=_
  rw [if_pos (by rw [Qi];lia),wS]
 unfold nV lQ;rw [cN d rfl,Qj,s,Qj,AB,wT];exact H0 (By l) (QJ (G8 l) b) a fun c=>(h c).trans xQ.symm
theorem KG(l m:List C)(h:l.length+m.length<=1000):cB (.tuple (l.map aB)) (.tuple (m.map aB))=some (.tuple ((l++m).map aB)):=by
 show(if(l.map aB).length+(m.map aB).length<=1000 then _ else _)=_
 rw [if_pos (by rw [Qi,Qi];exact h),Yd]
section
variable {w h:Nat}{W:C->Bool}(hw:w<=5)(hh:h<=5){c:C}
include hw hh
theorem Pp(d:cG w h c=true){ga gb:aA->Option D}{ρ:aA}(f:ga ρ=some (iX w h W))(e:gb ρ=some (aB c)):nV (lQ (aD (aF cB ga (c6 (aD gb aG))) aG)) ρ=some (.list (((cells w h).filter fun x=>W x || x == c).map aB)):=by
 have g:=Kd hw hh W;refine Wg (l:=(cells w h).filter W++[c]) (by rw [Qo,Yk];lia) (wB (jP w h) _) (fun x=>?_) ?_
 ·rw [QC,Ym,Ym,JN,beq_iff_eq,QF];constructor
  ·rintro⟨b,a | a⟩
   ·exact .inl ⟨b,a⟩
   ·exact .inr a
  ·rintro(⟨b,a⟩ | rfl)
   ·exact⟨b,.inl a⟩
   ·exact⟨kF.mpr d,.inr rfl⟩
 ·exact oo f (LQ e) (KG _ [c] (by rw [Yk];lia))
theorem Kg(a:cG w h c=true):i5 [aK w h W,aB c]=some (aK w h fun x=>W x || x == c):=by
 refine dF ?_;unfold BX;rw [show cY 2 [aK w h W,aB c]=[.dat (aK w h W),.dat (aB c)]from rfl];refine bU (tN (bI rfl (tK a))) ?_;refine dH ?_;have m:=Pp (W:=W) hw hh a (ga:=aF aR (eV 0) (eC (.int 2))) (gb:=eV 1) (ρ:=[.dat (aK w h W),.dat (aB c)]) rfl rfl;exact DD rfl rfl (bI (cN m rfl) rfl)
end
def bK:List C->List Cp
 | []=>[]
 | a::r=>(r.map fun b=>(a,b))++bK r
def at0(l:List C)(k:Nat):C:=l.getD k (0,0)
theorem GT:∀ l:List C,((List.range l.length).flatMap fun k=>(l.drop (k+1)).map fun b=>(at0 l k,b))=bK l
 | []=>rfl
 | a::r=>by
  rw [Qv,List.range_succ_eq_map,List.flatMap_cons,List.flatMap_map]
  show(r.map fun b=>(a,b))++_=(r.map fun b=>(a,b))++bK r
  rw [<- GT r];rfl
theorem sZ:∀{l:List C},Up l->((x,y)∈bK l ↔ x∈l/\y∈l/\j0 x y=true)
 | [],_=>by simp [bK]
 | a::r,u=>by
  have g:=(Q1.mp u).1;have i:Up r:=(Q1.mp u).2;unfold bK;rw [QC,QM,sZ i];constructor
  ·rintro(⟨b,h,e⟩ | ⟨f,d,c⟩)
   ·cases e;exact⟨Qk,Qf _ h,g _ h⟩
   ·exact⟨Qf _ f,Qf _ d,c⟩
  ·rintro⟨f,d,c⟩
   rcases Ql.mp f with g1 | g1
   ·subst g1;rcases Ql.mp d with g2 | g2
    ·subst g2;rw [jM]at c;lia
    ·exact .inl ⟨y,g2,rfl⟩
   ·rcases Ql.mp d with g2 | g2
    ·subst g2
     have:=g _ g1
     rw [jM]at this c;lia
    ·exact .inr ⟨g1,g2,c⟩
theorem xX:∀{l:List C},Up l->(bK l).Nodup
 | [],_=>YH
 | a::r,u=>by
  have d:=(Q1.mp u).1;have c:Up r:=(Q1.mp u).2;unfold bK;rw [List.nodup_append]
  refine⟨?_,xX c,fun p g q f e=>?_⟩
  ·refine List.Pairwise.map _ (fun x y (n:x≠y) z=>n (Prod.mk.inj z).2) (wC c)
  ·subst e;obtain⟨b,h,e⟩:=QM.mp g;subst e
   have:=((sZ c).mp f).1
   have:=d _ this
   rw [jM]at this;lia
def q8(l:List C)(k:Nat):D:=.tuple [.int (k:Int),aB (at0 l k)]
theorem LN(l:List C):jN 0 (l.map aB)=(List.range l.length).map (q8 l):=by
 refine List.ext_getElem? fun i=>?_;rw [Bz,QE,QE,Q3];by_cases c:i<l.length
 ·rw [List.getElem?_range c,Qe c]
  show some _=some (q8 l i)
  unfold q8 at0
  simp [List.getD,c]
 ·rw [Jb (by lia),Jb (by simpa using YY c)];rfl
theorem Pe(l:List C)(k:Nat):cutD (l.map aB) (some ((k:Nat):Int)) none=(l.drop k).map aB:=by
 unfold DL.cutD;rw [HT.sIx_nat,HT.sIx_none,Qi];by_cases c:k<=l.length
 ·rw [Nat.min_eq_left c,List.map_drop];exact Y5 (by simp)
 ·rw [Nat.min_eq_right (by lia),Y4 (show l.length<=k by lia)];simp
theorem D4(p:l.length<=25):l8 [.list (l.map aB)]=some (.list ((bK l).map aQ)):=by
 refine dF ?_;unfold Aq;rw [show cY 4 [.list (l.map aB)]=[.dat (.list (l.map aB)),.no,.no,.no]from rfl];refine bU (ρ':=[.dat (.list (l.map aB)),.own [],.no,.no]) rfl ?_
 have g:sT (aD (eV 0) aG) [.dat (.list (l.map aB)),.own [],.no,.no]=some ((List.range l.length).map (q8 l)):=by
  rw [<- LN];rfl
 refine bU (pM g (rX (q8 l) (fun(b:List Cp × Sl × Sl)=>[.dat (.list (l.map aB)),.own (b.1.map aQ),b.2.1,b.2.2]) (fun b k=>(b.1++(l.drop (k+1)).map (fun b=>(at0 l k,b)),.dat (.int (k:Int)),.dat (aB (at0 l k)))) (fun i b=>b.1.length<=25 * i) 25 (List.range l.length) 0 ([],.no,.no) (by rw [Yj];lia) (Qm _) fun k _ i b q m=>?_)) ?_
 ·obtain⟨a,o,n⟩:=b;have j:a.length<=25 * i:=m
  have r:((l.drop (k+1)).map fun b=>(at0 l k,b)).length<=25:=by rw [Qi,Yg];lia
  refine⟨⟨[.dat (.list (l.map aB)),.own (a.map aQ),.dat (.int (k:Int)),.dat (aB (at0 l k))],rfl,?_⟩,by show(a++_).length<=_;rw [Qo];lia⟩
  refine(AU (ds:=a.map aQ) (es:=((l.drop (k+1)).map fun b=>(at0 l k,b)).map aQ) rfl (n0 (xs:=l.drop (k+1)) aB (fun _=>true) (fun b=>aQ (at0 l k,b)) (fun e=>∃ f,e=[f,.dat (aB (at0 l k))]) ?_ (by rw [Yg];lia) ⟨_,rfl⟩ ?_ ?_) (by rw [Qi,Qi];lia)).trans ?_
  ·show some (cutD (l.map aB) (some (((k:Nat):Int)+1)) none)=_
   rw [show((k:Nat):Int)+1=((k+1:Nat):Int)from rfl,Pe]
  ·rintro b _ e ⟨f,rfl⟩
   exact⟨[.dat (aB b),.dat (aB (at0 l k))],rfl,⟨_,rfl⟩,rfl,fun _=>rfl⟩
  ·rw [u6,YE];rfl
  ·show some (bD.nx _)=some (bD.nx _)
   rw [Yd];rfl
 ·refine dH ?_
  have d:∀(c:List Nat) (b:List Cp × Sl × Sl),(c.foldl (fun(b:List Cp × Sl × Sl) k=>(b.1++(l.drop (k+1)).map (fun b=>(at0 l k,b)),Sl.dat (.int (k:Int)),Sl.dat (aB (at0 l k)))) b).1=b.1++c.flatMap fun k=>(l.drop (k+1)).map fun b=>(at0 l k,b):=by
   intro c
   induction c with
   | nil=>intro b;simp
   | cons z c h=>intro b;rw [YR,h,List.flatMap_cons,<- QG]
  exact congrArg (fun x:List Cp=>some (ZY (x.map aQ))) ((d (List.range l.length) ([],.no,.no)).trans ((JM _).trans (GT l)))
theorem BF:∀{l:List C}{n:Nat},l.length<=n->(bK l).length<=n * n
 | [],n,_=>Q8 _
 | a::r,0,h=>by simp at h
 | a::r,n+1,h=>by
  have b:r.length<=n:=by simpa using h
  have:=BF b
  unfold bK;rw [Qo,Qi]
  have:(n+1) * (n+1)=n * n+n+n+1:=by rw [Nat.add_mul,Nat.mul_add];lia
  lia
section
variable {w h:Nat}{W:C->Bool}(hw:w<=5)(hh:h<=5)
include hw hh
theorem O7:kT [aK w h W]=some (.list (((bK (j5 w h W)).filter fun p=>clear (aU w h W) p.1 p.2).map aQ)):=by
 have m:iB [iX w h W]=some (eA w h W):=Cj hw hh;have c:pJ [aK w h W]=some (.list ((j5 w h W).map aB)):=RW hw hh;have j:=D4 (GJ hw hh W);refine dF ?_;unfold As;rw [show cY 2 [aK w h W]=[.dat (aK w h W),.no]from rfl];refine bU (fB (bI rfl m)) ?_;refine dH (n0 (xs:=bK (j5 w h W)) aQ (fun p=>clear (aU w h W) p.1 p.2) aQ (fun a=>∃ b,a=[b,.dat (eA w h W)]) (k4 (d:=.list ((bK (j5 w h W)).map aQ)) (bI (cN (bI rfl c) rfl) j) rfl) (QJ (BF (GJ hw hh W)) (by decide)) ⟨_,rfl⟩ ?_ rfl);rintro p f a ⟨b,rfl⟩;obtain⟨i,g,_⟩:=(sZ (VQ w h W)).mp (show(p.1,p.2)∈_ from f);have e:=HN (w:=w) (h:=h) (W:=W) (tE hw hh (Hk.mp i).1 (Hk.mp g).1);have l:aR (aQ p) (.int 0)=some (aB p.1):=rfl;have k:aR (aQ p) (.int 1)=some (aB p.2):=rfl
 exact⟨[.dat (aQ p),.dat (eA w h W)],rfl,⟨_,rfl⟩,oB (bI rfl e),fun _=>rfl⟩
end
end My
namespace My
open PySem.SeqAt L2 DL SD SL EL DC
theorem LP(h:t ρ=some true):lP t u ρ=some true:=by
 unfold lP;rw [h];rfl
def kL(x m y:Int):Bool:=(decide (x<=m) && decide (m<=y)) || (decide (y<=m) && decide (m<=x))
theorem Em(x m y:Int):pG [.int x,.int m,.int y]=some (.bool (kL x m y)):=by
 refine dF (dH ?_)
 show((if decide (x<=m)=true then some (ZF (decide (m<=y)))else some (.bool false)).bind fun z=>(jC z).bind fun c=>if c=true then some (ZF true)else(if decide (y<=m)=true then some (ZF (decide (m<=x)))else some (.bool false)))=_
 unfold kL
 cases decide (x<=m) <;> cases decide (m<=y) <;> cases decide (y<=m) <;> cases decide (m<=x) <;> rfl
def iA(a b c:C):Bool:=kL a.1 c.1 b.1 && kL a.2 c.2 b.2 && decide (2 * dV ((b.1-a.1) * (c.2-a.2)-(b.2-a.2) * (c.1-a.1))<=dV (b.1-a.1)+dV (b.2-a.2))
theorem Pl(n:fN a b)(c:C):pI [aB a,aB b,aB c]=some (.bool (iA a b c)):=by
 obtain⟨m,l,k,j⟩:=n;have b1:=Em a.1 c.1 b.1;have d:=Em a.2 c.2 b.2;have i:cH (.int (b.1-a.1)) (.int (c.2-a.2))=some (.int ((b.1-a.1) * (c.2-a.2))):=gW (iQ (by lia) (by lia));have h:cH (.int (b.2-a.2)) (.int (c.1-a.1))=some (.int ((b.2-a.2) * (c.1-a.1))):=gW (iQ (by lia) (by lia));have g:cH (.int 2) (.int (dV ((b.1-a.1) * (c.2-a.2)-(b.2-a.2) * (c.1-a.1))))=some (.int (2 * dV ((b.1-a.1) * (c.2-a.2)-(b.2-a.2) * (c.1-a.1)))):=gW (iQ (by decide) (by decide));unfold iA;refine dF ?_;unfold Aw;rw [show cY 6 [aB a,aB b,aB c]=[.dat (aB a),.dat (aB b),.dat (aB c),.no,.no,.no]from rfl]
 cases f:kL a.1 c.1 b.1 with
 | false=>rw [f]at b1;exact tO (mJ (b:=true) (LP (oN (oB (bI rfl b1)))) (fun _=>rfl) fun z=>by cases z)
 | true=>
  rw [f]at b1
  cases e:kL a.2 c.2 b.2 with
  | false=>rw [e]at d;exact tO (mJ (b:=true) (DB (oN (oB (bI rfl b1))) (oN (oB (bI rfl d)))) (fun _=>rfl) fun z=>by cases z)
  | true=>
   rw [e]at d;refine bU (iH (DB (oN (oB (bI rfl b1))) (oN (oB (bI rfl d))))) (bU (fB rfl) (bU (fB rfl) (bU (fB (bI (cN (oo (oo rfl rfl i) (oo rfl rfl h) rfl) rfl) rfl)) (dH (oo (oo rfl rfl g) rfl rfl)))))
end My
namespace My
open PySem.SeqAt L2 DL OB SD SL EL DC
section
variable {B:Type}{ρ ρ':aA}{Ω Ω1 Ω2:List B}{d x y:D}{ds:List D}{ga gb:GX B D}{gr:GX B (List D)}{t u:GX B Bool}{g g1 g2:GS B}{j i:Nat}{b:B}
theorem rP{b:Type}{a:b}{g:aA->Option b}(h:g ρ=some a):xP g ρ Ω=some (a,Ω):=by
 unfold xP;rw [h];rfl
theorem qM{G:GM B}{gr:aA->Option (List D)}{r:D × B}(d:gr ρ=some ds)(c:Ω[j]?=some b)(a:G (none::ds.map some) b=some r):cZ j G gr ρ Ω=some (r.1,Ω.set j r.2):=by
 unfold cZ;rw [d,Qj,c,Qj,a];rfl
theorem Mx{G:GM B}{gr:aA->Option (List (Option D))}{os:List (Option D)}{r:D × B}(d:gr ρ=some os)(c:Ω[j]?=some b)(a:G os b=some r):j8 j G gr ρ Ω=some (r.1,Ω.set j r.2):=by
 unfold j8;rw [d,Qj,c,Qj,a];rfl
theorem iS(c:ga ρ Ω=some (x,Ω1))(b:gb ρ Ω1=some (y,Ω2))(a:f x y=some d):cM f ga gb ρ Ω=some (d,Ω2):=by
 unfold cM;rw [c,Qj];dsimp only;rw [b,Qj];dsimp only;rw [a];rfl
theorem rB(h:ga ρ Ω=some (.bool k,Ω1)):xB ga ρ Ω=some (k,Ω1):=by
 unfold xB;rw [h];rfl
theorem uM(h:t ρ Ω=some (false,Ω1))(a:u ρ Ω1=r):jF t u ρ Ω=r:=by
 unfold jF;rw [h];exact a
theorem DP(h:t ρ Ω=some (k,Ω1)):o9 t ρ Ω=some (!k,Ω1):=by
 unfold o9;rw [h];rfl
theorem gK(h:ga ρ Ω=some (d,Ω1))(a:gr ρ Ω1=some (ds,Ω2)):cS ga gr ρ Ω=some (d::ds,Ω2):=by
 unfold cS;rw [h,Qj];dsimp only;rw [a];rfl
theorem dB(h:g1 ρ Ω=some (.nx ρ' Ω1))(a:g2 ρ' Ω1=r):bZ g1 g2 ρ Ω=r:=by
 unfold bZ;rw [h];exact a
theorem jE(h:ga ρ Ω=some (d,Ω1)):eG i ga ρ Ω=some (.nx (ρ.set i (.dat d)) Ω1):=by
 unfold eG;rw [h];rfl
theorem IZ(h:ga ρ Ω=some (d,Ω1)):sR ga ρ Ω=some (.nx ρ Ω1):=by
 unfold sR;rw [h];rfl
theorem lW(h:ga ρ Ω=some (d,Ω1)):e7 ga ρ Ω=some (.rt d Ω1):=by
 unfold e7;rw [h];rfl
theorem nK(h:t ρ Ω=some (false,Ω1)):dC t g1 fU ρ Ω=some (.nx ρ Ω1):=by
 unfold dC;rw [h];rfl
theorem uY(h:t ρ Ω=some (true,Ω1))(a:g1 ρ Ω1=r):dC t g1 g2 ρ Ω=r:=by
 unfold dC;rw [h];exact a
theorem D0(h:t ρ Ω=some (false,Ω1))(a:g2 ρ Ω1=r):dC t g1 g2 ρ Ω=r:=by
 unfold dC;rw [h];exact a
theorem NF(h:gr ρ Ω=some (ds,Ω1))(a:ds.length<=1000):uZ i gr ρ Ω=some (.nx (ρ.set i (.own ds)) Ω1):=by
 unfold uZ;rw [h,Qj,if_pos a]
theorem NE(b:ρ[i]?=some (.own ds))(h:ga ρ Ω=some (d,Ω1))(a:ds.length<1000):pC i ga ρ Ω=some (.nx (ρ.set i (.own (ds++[d]))) Ω1):=by
 unfold pC;rw [b]
 show(ga ρ Ω).bind _=_
 rw [h,Qj,if_pos a]
theorem uX(h:gi ρ=some xs)(a:l4 i g xs ρ Ω=r):nI gi i g ρ Ω=r:=by
 unfold nI;rw [h];exact a
theorem Ka(f:Nat->D)(St:Nat->aA->List B->Prop)(m:Nat)(hs:∀ n ρ Ω,n<m->St n ρ Ω->∃ ρ' Ω',g (ρ.set i (.dat (f n))) Ω=some (.nx ρ' Ω')/\St (n+1) ρ' Ω'):∀(k a:Nat) (ρ:aA) (Ω:List B),a+k=m->St a ρ Ω->∃ ρ' Ω',l4 i g ((List.range' a k).map f) ρ Ω=some (.nx ρ' Ω')/\St m ρ' Ω'
 | 0,a,ρ,Ω,e,h=>⟨ρ,Ω,rfl,by rw [<- e];exact h⟩
 | k+1,a,ρ,Ω,e,h=>by
  obtain⟨c,j,q,o⟩:=hs a ρ Ω (by lia) h;obtain⟨b,d,p,l⟩:=Ka f St m hs k (a+1) c j (by lia) o
  refine⟨b,d,?_,l⟩
  rw [List.range'_succ,Qp];unfold l4;rw [q];exact p
theorem On{n:Nat}{os:List (Option D)}{b':B}{Ω:List B}(a:os[j]?=some none)(h:g (gM n os) [b]=some (.nx ρ (b'::Ω))):gD j n g os b=some (.none,b'):=by
 unfold gD;rw [a];dsimp only;rw [h]
theorem nY{n:Nat}{os:List (Option D)}{b':B}{Ω:List B}(a:os[j]?=some none)(h:g (gM n os) [b]=some (.rt d (b'::Ω))):gD j n g os b=some (d,b'):=by
 unfold gD;rw [a];dsimp only;rw [h]
end
structure Sh(d:D):Prop where
 l:d.canLay0=true
 d:d.depth<=9
theorem Sh.shaped{d:D}(h:Sh d):ZG d=true:=by
 have:=h.d
 have e:decide (d.depth<=64)=true:=decide_eq_true (by lia);unfold ZG;rw [h.l,e];rfl
theorem Bu(h:ZG d=true):bW d d=some (.bool false):=by
 unfold bW;rw [h,SeqAt.eqv_refl d (SeqAt.canLay_of_shaped h)];rfl
theorem HQ:∀{l:List D},(∀ d∈l,Sh d)->Zy l=true/\ZB l<=9
 | [],_=>⟨rfl,Q8 _⟩
 | d::l,h=>by
  obtain⟨e,c⟩:=HQ (l:=l) fun x b=>h x (Qf _ b);have a:=h d Qk
  refine⟨by rw [Zy,a.l,e];rfl,?_⟩
  rw [ZB];exact Nat.max_le.mpr ⟨a.d,c⟩
theorem SU(h:∀ d∈l,Sh d):ZG (.list l)=true:=by
 obtain⟨a,b⟩:=HQ h
 have:U5 (.list l)<=64:=by show ZB l+1<=64;lia
 simp [ZG,Uf,a,this]
def Fl(f:D):Prop:=∃(w h:Nat) (W:C->Bool),1<=w/\w<=4/\1<=h/\h<=4/\f=aK w h W
theorem Fl.sh(h:Fl f):Sh f:=by
 obtain⟨w,h,W,_,_,_,_,rfl⟩:=h;obtain⟨a,b⟩:=Cc ((cells w h).filter W)
 refine⟨?_,?_⟩
 ·show(true && (true && (Zy (((cells w h).filter W).map aB) && true)))=true
  rw [a];rfl
 ·show max 0 (max 0 (max (ZB (((cells w h).filter W).map aB)+1) 0))+1<=9
  lia
end My
namespace My
open PySem.SeqAt L2 DL SD SL EL DC
def j7:List C->List C
 | g::h::r=>if dA g h=true then(g.1,h.2)::(h.1,g.2)::j7 (h::r)else j7 (h::r)
 | _=>[]
theorem Ct(g h:C)(r:List C):j7 (g::h::r)=if dA g h=true then(g.1,h.2)::(h.1,g.2)::j7 (h::r)else j7 (h::r):=rfl
theorem BM:∀{l:List C},(∀ g∈j7 l,S g=T g)->fL S l=fL T l
 | [],_=>rfl
 | [a],_=>rfl
 | a::b::l,h=>by
  rw [Ct]at h;rw [n9,n9];by_cases d:dA a b=true
  ·rw [if_pos d]at h;rw [BM (l:=b::l) fun g c=>h g (Qf _ (Qf _ c)),h _ Qk,h _ (Qf _ Qk)]
  ·rw [if_neg d]at h;rw [JZ]at d;rw [BM (l:=b::l) h,d];rfl
theorem IL(a:C):∀ l:List C,j7 (l.map (lL a))=(j7 l).map (lL a)
 | []=>rfl
 | [x]=>rfl
 | x::y::l=>by
  have b:=IL a (y::l);rw [Qp]at b;rw [Qp,Qp,Ct,Ct,b]
  have d:dA (lL a x) (lL a y)=dA x y:=by
   unfold dA lL;dsimp only;rw [Y9];simp only [QL,YD,beq_eq_false_iff_ne,ne_eq];lia
  rw [d];by_cases c:dA x y=true
  ·rw [if_pos c,if_pos c];rfl
  ·rw [if_neg c,if_neg c]
theorem Pq:(o0.all fun a=>o0.all fun b=>(eN a b++j7 (eN a b)).all fun g=>iA (0,0) (a,b) g)=true:=by decide +kernel
theorem Ps(a b g:C):iA a b (lL a g)=iA (0,0) (b.1-a.1,b.2-a.2) g:=by
 have k:∀ x y z:Int,kL x (x+y) z=kL 0 y (z-x):=fun x y z=>by
  unfold kL;congr 2
  ·exact decide_eq_decide.mpr (by lia)
  ·exact decide_eq_decide.mpr (by lia)
  ·exact decide_eq_decide.mpr (by lia)
  ·exact decide_eq_decide.mpr (by lia)
 unfold iA lL;dsimp only;rw [k,k,show a.2+g.2-a.2=g.2-0 by lia,show a.1+g.1-a.1=g.1-0 by lia,Int.sub_zero (b.1-a.1),Int.sub_zero (b.2-a.2)]
theorem Cl(n:fN a b)(h:c∈line a b++j7 (line a b)):iA a b c=true:=by
 unfold line at h;rw [IL,<- Yd]at h;obtain⟨g,d,rfl⟩:=QM.mp h;rw [Ps];exact Yb.mp (Yb.mp (Yb.mp Pq _ (xT n.x0 n.x1)) _ (xT n.y0 n.y1)) g d
theorem Ty(n:fN a b)(h:∀ g,iA a b g=true->S g=T g):bE S a b=bE T a b:=by
 rw [wY n,wY n,BM fun g e=>h g (Cl n (Qu _ e))];congr 1;rw [Y9,Yb,Yb];constructor
 ·intro q c d;rw [<- h c (Cl n (Q2 _ d))];exact q c d
 ·intro q c d;rw [h c (Cl n (Q2 _ d))];exact q c d
theorem Tz(h:∀ c,T c=true->S c=true)(q:bE S a b=true):bE T a b=true:=by
 unfold bE at q ⊢;rw [QL,YD]at q ⊢
 refine⟨?_,O0 h q.2⟩
 cases e:T b with
 | false=>rfl
 | true=>rw [h _ e]at q;cases q.1
theorem GO(P:C->Bool):∀ l:List C,bK (l.filter P)=(bK l).filter fun p=>P p.1 && P p.2
 | []=>rfl
 | a::r=>by
  have c:=GO P r;rw [show bK (a::r)=(r.map fun b=>(a,b))++bK r from rfl,List.filter_append,<- c,List.filter_map]
  cases q:P a with
  | true=>
   rw [List.filter_cons_of_pos q]
   show((r.filter P).map fun b=>(a,b))++bK (r.filter P)=_
   congr 2
   exact Jl fun x _=>by show P x=(P a && P x);rw [q];rfl
  | false=>
   rw [JF (by rw [q];decide),show r.filter ((fun p:Cp=>P p.1 && P p.2) ∘ fun b=>(a,b))=[]from List.filter_eq_nil_iff.mpr fun x _=>by show ¬(P a && P x)=true;rw [q];exact Qr];rfl
def wm(W:C->Bool)(c:C):C->Bool:=fun x=>W x && !(x == c)
def wp(W:C->Bool)(c:C):C->Bool:=fun x=>W x || x == c
theorem yE(h:W c=false):wm W c=W:=by
 funext x
 unfold wm
 cases e:x == c with
 | false=>rw [Jr,J3]
 | true=>rw [beq_iff_eq.mp e,h];rfl
theorem yF(h:W c=true):wp W c=W:=by
 funext x
 unfold wp
 cases e:x == c with
 | false=>rw [Bool.or_false]
 | true=>rw [beq_iff_eq.mp e,h];rfl
theorem Ki(W:C->Bool)(c:C):wm W c c=false:=by unfold wm;rw [beq_self_eq_true,Q0,JX]
theorem Kk(W:C->Bool)(c:C):wp W c c=true:=by unfold wp;rw [beq_self_eq_true,Bool.or_true]
theorem Kl(W:C->Bool)(c:C):wp (wm W c) c=wp W c:=by
 funext x
 show((W x && !(x == c)) || x == c)=(W x || x == c)
 cases x == c <;> cases W x <;> rfl
theorem Kj(W:C->Bool)(c:C):wm (wp W c) c=wm W c:=by
 funext x
 show((W x || x == c) && !(x == c))=(W x && !(x == c))
 cases x == c <;> cases W x <;> rfl
theorem NH(W:C->Bool)(c:C):wm (wm W c) c=wm W c:=yE (Ki W c)
theorem NI(W:C->Bool)(c:C):wp (wp W c) c=wp W c:=yF (Kk W c)
def vis(w h:Nat)(W:C->Bool):List Cp:=(bK (cells w h)).filter fun p=>bE (aU w h W) p.1 p.2
def eE(w h:Nat)(W:C->Bool)(c:C):List Cp:=(bK (cells w h)).filter fun p=>bE (aU w h (wm W c)) p.1 p.2 && !bE (aU w h (wp W c)) p.1 p.2
theorem yB(w h:Nat)(W:C->Bool):(vis w h W).Nodup:=(xX (jP w h)).sublist Jz
theorem u9(a:p∈bK (cells w h)):cG w h p.1=true/\cG w h p.2=true:=by
 obtain⟨x,y⟩:=p;obtain⟨c,b,_⟩:=(sZ (jP w h)).mp a
 exact⟨kF.mp c,kF.mp b⟩
section
variable {w h:Nat}(hw:w<=5)(hh:h<=5){W:C->Bool}{c:C}
include hw hh
theorem TC(c:p∈bK (cells w h))(q:bE (aU w h W) p.1 p.2=true):W p.1=false/\W p.2=false:=by
 obtain⟨b,a⟩:=u9 c;have n:=tE hw hh b a;constructor
 ·cases e:W p.1 with
  | false=>rfl
  | true=>rw [TD n (by rw [tU hw hh b];exact e)]at q;cases q
 ·unfold bE at q;rw [tU hw hh a,QL,YD]at q;exact q.1
theorem VU:((bK (j5 w h W)).filter fun p=>clear (aU w h W) p.1 p.2)=vis w h W:=by
 unfold j5 vis;rw [GO,List.filter_filter];refine Jl fun p a=>?_
 cases e:bE (aU w h W) p.1 p.2 with
 | true=>
  obtain⟨c,b⟩:=TC hw hh a e;unfold bE at e;rw [QL]at e;rw [e.2,c,b];rfl
 | false=>
  obtain⟨f,d⟩:=u9 a;unfold bE at e;rw [tU hw hh d]at e
  cases q:W p.2 with
  | true=>rw [Q0,JX,JX]
  | false=>rw [q,Jr,JQ]at e;rw [e];rfl
theorem tS{p:Cp}(q:bE (aU w h (wp W c)) p.1 p.2=true):bE (aU w h (wm W c)) p.1 p.2=true:=by
 refine Tz (fun x a=>?_) q;unfold aU wm at a;unfold aU wp;rw [QL,QL]at a;rw [a.1,a.2.1];rfl
theorem HM(b:p∈bK (cells w h))(d:iA p.1 p.2 c=false):bE (aU w h (wm W c)) p.1 p.2=bE (aU w h (wp W c)) p.1 p.2:=by
 obtain⟨i,f⟩:=u9 b;refine Ty (tE hw hh i f) fun g a=>?_
 have:(g == c)=false:=by
  cases e:g == c with
  | false=>rfl
  | true=>rw [beq_iff_eq.mp e,d]at a;cases a
 unfold aU wm wp;rw [this,Jr,J3,Bool.or_false]
theorem mN:eE w h W c=(bK (cells w h)).filter fun p=>bE (aU w h (wm W c)) p.1 p.2 && !bE (aU w h (wp W c)) p.1 p.2:=rfl
end
theorem Cm{l m:List Cp}(b:l.Nodup)(a:m.Nodup)(h:∀ p,p∈l ↔ p∈m):l.Perm m:=(Js b a).mpr h
end My
namespace My
open PySem.SeqAt L2 DL OB SD SL EL DC KP
section
variable {B:Type}{ρ ρ':aA}{Ω Ω1:List B}{d:D}{ds:List D}{ga:GX B D}{gr:GX B (List D)}{g:GS B}{i j:Nat}{b b':B}
theorem yC{c:Type}(item:c->D)(St:List c->aA->List B->Prop):∀(xs pre:List c) (ρ:aA) (Ω:List B),(∀ pre' x post ρ Ω,pre++xs=pre'++x::post->St pre' ρ Ω->∃ ρ' Ω',g (ρ.set i (.dat (item x))) Ω=some (.nx ρ' Ω')/\St (pre'++[x]) ρ' Ω')->St pre ρ Ω->∃ ρ' Ω',l4 i g (xs.map item) ρ Ω=some (.nx ρ' Ω')/\St (pre++xs) ρ' Ω'
 | [],pre,ρ,Ω,_,h=>⟨ρ,Ω,rfl,by rw [QP];exact h⟩
 | x::xs,pre,ρ,Ω,hs,h=>by
  obtain⟨b,f,m,k⟩:=hs pre x xs ρ Ω rfl h;obtain⟨a,d,l,j⟩:=yC item St xs (pre++[x]) b f (fun pre' y post ρ Ω e=>hs pre' y post ρ Ω (by rw [<- e,QG];rfl)) k
  refine⟨a,d,?_,by rw [QG]at j;exact j⟩
  rw [Qp];unfold l4;rw [m];exact l
theorem qL{get:B->Option D}(c:Ω[j]?=some b)(a:get b=some d):fT j get ρ Ω=some (d,Ω):=by
 unfold fT;rw [c,Qj,a];rfl
theorem tJ(b:gr ρ Ω=some (ds,Ω1))(a:G ds=some d):iY G gr ρ Ω=some (d,Ω1):=by
 unfold iY;rw [b,Qj];dsimp only;rw [a];rfl
theorem Iz(e:Ω[j]?=some b0)(d:gr ρ Ω=some (ds,Ω1))(c:Ω1[j]?=some b)(a:G (none::ds.map some) b=some r):tX j G gr ρ Ω=some (r.1,Ω1.set j r.2):=by
 unfold tX;rw [e,Qj,d,Qj];dsimp only;rw [c,Qj,a];rfl
theorem IY(e:ga ρ Ω=some (d,Ω1))(c:Ω1[j]?=some b)(a:up b d=some b'):pT j up ga ρ Ω=some (.nx ρ (Ω1.set j b')):=by
 unfold pT;rw [e,Qj];dsimp only;rw [c,Qj,a];rfl
end
def ck(p:Cp):CK:=[row p.1,row p.2]
theorem Oy(p:Cp):jX (aQ p)=some (ck p):=id rfl
theorem Bf(h:ck p=ck q):p=q:=by
 obtain⟨b,a⟩:=List.cons.inj h;exact JL (mI b) (mI (List.cons.inj a).1)
theorem sX{p:Cp}{ps:List Cp}:ck p∈ps.map ck ↔ p∈ps:=by
 rw [QM]
 exact⟨fun⟨q,hq,e⟩=>by rw [<- Bf e];exact hq,fun h=>⟨p,h,rfl⟩⟩
theorem FZ(p:Cp):∀ ps:List Cp,(ps.map ck).erase (ck p)=(ps.erase p).map ck
 | []=>rfl
 | a::l=>by
  rw [Qp,List.erase_cons,List.erase_cons];by_cases c:a=p
  ·subst c;rw [if_pos (beq_self_eq_true _),if_pos (beq_self_eq_true _)]
  ·rw [if_neg (fun q=>c (Bf (beq_iff_eq.mp q))),if_neg (fun q=>c (beq_iff_eq.mp q)),FZ p l];rfl
def eF(ps:List Cp)(p:Cp):List Cp:=if p∈ps then ps.erase p else ps++[p]
theorem Sq(h:ps.Nodup)(p:Cp):(eF ps p).Nodup:=by
 unfold eF;split
 ·exact h.erase p
 ·rename_i c;rw [List.nodup_append]
  refine⟨h,Yc.mpr ⟨Jo,YH⟩,fun a d b f e=>?_⟩
  rw [e,QF.mp f]at d;exact c d
theorem Pm(h:ps.Nodup):q∈eF ps p ↔ (q=p/\p∉ps) ∨ (q≠p/\q∈ps):=by
 unfold eF;by_cases c:p∈ps
 ·rw [if_pos c,h.mem_erase_iff]
  exact⟨fun q=>.inr q,fun q=>q.elim (fun z=>absurd c z.2) id⟩
 ·rw [if_neg c,QC,QF];by_cases e:q=p
  ·exact⟨fun _=>.inl ⟨e,c⟩,fun _=>.inr e⟩
  ·exact⟨fun z=>.inr ⟨e,z.elim id fun z=>absurd z e⟩,fun z=>.inl (z.elim (fun z=>absurd z.1 e) fun z=>z.2)⟩
theorem AW:∀(ch ps:List Cp),ps.Nodup->ch.Nodup->(ch.foldl eF ps).Nodup/\∀ q,q∈ch.foldl eF ps ↔ (q∈ps/\q∉ch) ∨ (q∉ps/\q∈ch)
 | [],ps,h,_=>⟨h,fun q=>⟨fun z=>.inl ⟨z,Jo⟩,fun z=>z.elim (fun z=>z.1) fun z=>nomatch z.2⟩⟩
 | p::ch,ps,h,hc=>by
  obtain⟨b,a⟩:=Yc.mp hc;obtain⟨f,d⟩:=AW ch (eF ps p) (Sq h p) a
  refine⟨f,fun q=>(d q).trans ?_⟩
  rw [Pm h,Ql];by_cases e:q=p
  ·subst e;by_cases c:q∈ps
   ·simp [c,b]
   ·simp [c,b]
  ·simp [e]
theorem PP(ps:List Cp)(p:Cp):(eF ps p).length<=ps.length+1:=by
 unfold eF;split
 ·exact QJ List.length_erase_le (Vj _)
 ·rw [Qo];exact Qm _
theorem G9:∀(ch ps:List Cp),(ch.foldl eF ps).length<=ps.length+ch.length
 | [],ps=>Qm _
 | p::ch,ps=>by
  have:=G9 ch (eF ps p)
  have:=PP ps p
  rw [YR,Qv];lia
theorem Wz{f:D}{n:Int}{ps ch:List Cp}(t:ps.length+ch.length<1000):r8 [none,some (.list (ch.map aQ))] (f,ps.map ck,n)=some (.none,(f,(ch.foldl eF ps).map ck,n)):=by
 obtain⟨k,m,p,l,u,o⟩:=yC (i:=2) (g:=dC (xB (kR 0 (eV 2))) (CH 0 (eV 2)) (CI 0 (eV 2))) aQ (fun a ρ Ω=>∃ l,ρ=[.no,.dat (.list (ch.map aQ)),l]/\Ω=[(f,(a.foldl eF ps).map ck,n)]) ch [] [.no,.dat (.list (ch.map aQ)),.no] [(f,ps.map ck,n)] (fun a x d ρ Ω e h=>by
  obtain⟨l,rfl,rfl⟩:=h
  have r:a.length+1<=ch.length:=by
   rw [show ch=a++x::d from e,Qo,Qv];lia
  have s:=G9 a ps
  refine⟨[.no,.dat (.list (ch.map aQ)),.dat (aQ x)],_,?_,_,rfl,rfl⟩
  rw [List.foldl_append]
  show dC _ _ _ [.no,.dat (.list (ch.map aQ)),.dat (aQ x)] [(f,(a.foldl eF ps).map ck,n)]=some (.nx _ [(f,(eF (a.foldl eF ps) x).map ck,n)])
  generalize a.foldl eF ps=b at *;have q:xB (kR 0 (eV 2)) [.no,.dat (.list (ch.map aQ)),.dat (aQ x)] [((f,b.map ck,n):K3)]=some (decide (ck x∈b.map ck),[(f,b.map ck,n)]):=rfl;unfold eF;by_cases c:x∈b
  ·have j:=sX.mpr c;rw [decide_eq_true j]at q;rw [if_pos c,<- FZ];refine uY q ?_
   show(if ck x∈b.map ck then some (oF.nx _ [(f,(b.map ck).erase (ck x),n)])else none)=_
   rw [if_pos j]
  ·have j:¬ ck x∈b.map ck:=fun z=>c (sX.mp z);rw [decide_eq_false j]at q;rw [if_neg c,Yd];refine D0 q ?_
   show(if ck x∉b.map ck/\(b.map ck).length<1000 then some (oF.nx _ [(f,b.map ck++[ck x],n)])else none)=_
   rw [if_pos ⟨j,by rw [Qi];lia⟩]
   rfl) ⟨.no,rfl,rfl⟩
 subst o;exact On (Ω:=[]) (ρ:=k) rfl (uX (k4 rfl rfl) p)
theorem zC(x y:Bool):bW (.bool x) (.bool y)=some (.bool (!(x == y))):=by cases x <;> cases y <;> rfl
structure Kp(w h:Nat)(W:C->Bool)(ps:List Cp):Prop where
 nd:ps.Nodup
 me:∀ p,p∈ps ↔ p∈vis w h W
theorem Kp.len(k:Kp w h W ps):ps.length=(vis w h W).length:=(Cm k.nd (yB w h W) k.me).length_eq
def qQ(w h:Nat)(W':C->Bool)(c:C)(ps:List Cp)(p:Cp):Bool:=iA p.1 p.2 c && !(bE (aU w h W') p.1 p.2 == decide (p∈ps))
def oY(w h:Nat)(W':C->Bool)(c:C)(acc:List Cp)(s:Sl):aA:=[.no,.dat (aK w h W'),.dat (aB c),.dat (eA w h W'),.own (acc.map aQ),s]
def BS:GS K3:=(dC (xP (eB (aT pI (aD (aF aR (eV 5) (eC (.int 0))) (aD (aF aR (eV 5) (eC (.int 1))) (aD (eV 2) aG))))))
  (bZ (pT 0 B9 (cM cB (fT 0 xG) (xP (eC (.int 1)))))
  (dC (xB (cM bW (xP (aT kU (aD (eV 3) (aD (aF aR (eV 5) (eC (.int 0))) (aD (aF aR (eV 5) (eC (.int 1))) aG))))) (kR 0 (eV 5)))) (pC 4 (xP (eV 5))) fU)) fU)
section
variable {w h:Nat}(hw:w<=5)(hh:h<=5){W':C->Bool}{c:C}
include hw hh
theorem OV{ps acc:List Cp}{x:Cp}{n:Int}(g1:cG w h x.1=true)(g2:cG w h x.2=true)(d:acc.length<1000):∃ n',BS (oY w h W' c acc (.dat (aQ x))) [(aK w h W',ps.map ck,n)]=some (.nx (oY w h W' c (acc++[x].filter (qQ w h W' c ps)) (.dat (aQ x))) [(aK w h W',ps.map ck,n')])/\n<=n'/\n'<=n+1:=by
 have a:=Pl (tE hw hh g1 g2) c;have b:=FU (W:=W') hw hh g1 g2;unfold BS
 cases m:iA x.1 x.2 c with
 | false=>
  rw [m]at a
  refine⟨n,?_,Int.le_refl _,by lia⟩
  rw [JF (by unfold qQ;rw [m];exact Qr),List.filter_nil,QP];exact D0 (rP (oB (bI rfl a))) rfl
 | true=>
  rw [m]at a
  refine⟨n+1,uY (rP (oB (bI rfl a))) (dB (IY (iS (qL rfl rfl) (rP rfl) rfl) rfl rfl) ?_),by lia,Int.le_refl _⟩
  have q:xB (cM bW (xP (aT kU (aD (eV 3) (aD (aF aR (eV 5) (eC (.int 0))) (aD (aF aR (eV 5) (eC (.int 1))) aG))))) (kR 0 (eV 5))) (oY w h W' c acc (.dat (aQ x))) [((aK w h W',ps.map ck,n+1):K3)]=some (!(bE (aU w h W') x.1 x.2 == decide (x∈ps)),[(aK w h W',ps.map ck,n+1)]):=by
   refine rB (iS (rP (bI rfl b)) (y:=.bool (decide (ck x∈ps.map ck))) rfl ?_);rw [decide_eq_decide.mpr sX];exact zC _ _
  cases t:(!(bE (aU w h W') x.1 x.2 == decide (x∈ps)))with
  | false=>
   rw [t]at q;rw [JF (by unfold qQ;rw [m,t];exact Qr),List.filter_nil,QP];exact nK q
  | true=>
   rw [t]at q;rw [List.filter_cons_of_pos (by unfold qQ;rw [m,t];rfl),List.filter_nil];refine uY q ((NE (ds:=acc.map aQ) rfl (rP rfl) (by rw [Qi];lia)).trans ?_);unfold oY;rw [Yd];rfl
end
def chg(w h:Nat)(W':C->Bool)(c:C)(ps:List Cp):List Cp:=(bK (cells w h)).filter (qQ w h W' c ps)
theorem Ig(a:w<=4)(b:h<=4):(bK (cells w h)).length<=256:=BF (n:=16) (by rw [kB];exact Y8 a b)
theorem pP(a:w<=4)(b:h<=4)(W:C->Bool):(vis w h W).length<=256:=QJ (Ye _ _) (Ig a b)
section
variable {w h:Nat}(hw:w<=4)(hh:h<=4){W:C->Bool}{c:C}
include hw hh
theorem Ez{W0:C->Bool}{n:Int}{ps:List Cp}(j:ps.length<=256)(W':C->Bool):∃ n',l5 [none,some (aK w h W'),some (aB c)] (aK w h W0,ps.map ck,n)=some (.list ((chg w h W' c ps).map aQ),(aK w h W',((chg w h W' c ps).foldl eF ps).map ck,n'))/\n<=n'/\n'<=n+((bK (cells w h)).length:Int):=by
 have w5:w<=5:=by lia
 have h5:h<=5:=by lia
 have z:iB [iX w h W']=some (eA w h W'):=Cj w5 h5;have a1:=Ek (W:=W') w5 h5;have r:l8 [.list ((cells w h).map aB)]=some (.list ((bK (cells w h)).map aQ)):=D4 (by rw [kB];exact Y8 w5 h5);have l:=Ig hw hh;have q:(chg w h W' c ps).length<=256:=QJ (Ye _ _) l;have v:∀ p∈bK (cells w h),cG w h p.1=true/\cG w h p.2=true:=fun p j=>u9 j;unfold chg at q ⊢;generalize bK (cells w h)=b at *
 obtain⟨s,u,o,d,n',F,E,A,m⟩:=yC (i:=5) (g:=BS) aQ (fun a k Ω=>∃ d n',k=oY w h W' c (a.filter (qQ w h W' c ps)) d/\Ω=[((aK w h W',ps.map ck,n'):K3)]/\n<=n'/\n'<=n+(a.length:Int)) b [] (oY w h W' c [] .no) [(aK w h W',ps.map ck,n)] (fun a x post k Ω e B=>by
   obtain⟨d,n',rfl,rfl,r,M⟩:=B;have e:b=a++x::post:=e;have g:=v x (by rw [e];exact Qu _ Qk)
   have H:a.length<=256:=by rw [e,Qo]at l;lia
   have I:=Ye (qQ w h W' c ps) a;obtain⟨y,G,K,J⟩:=OV (c:=c) (W':=W') (ps:=ps) (acc:=a.filter (qQ w h W' c ps)) (n:=n') w5 h5 g.1 g.2 (by lia)
   exact⟨_,_,G,.dat (aQ x),y,by rw [List.filter_append],rfl,by lia,by rw [Qo,Yk];lia⟩) ⟨.no,n,rfl,rfl,Int.le_refl _,by rw [J4];lia⟩
 subst F E;rw [JM]at o m
 refine⟨n',nY (Ω:=[]) rfl ?_,A,m⟩
 unfold zI;rw [show gM 6 [none,some (aK w h W'),some (aB c)]=[.no,.dat (aK w h W'),.dat (aB c),.no,.no,.no]from rfl];refine dB (IY (rP rfl) rfl rfl) ?_;refine dB (jE (rP (bI rfl z))) ?_;refine dB (NF (ds:=[]) rfl (by decide)) ?_;refine dB (uX (k4 (bI (cN (bI rfl a1) rfl) r) rfl) o) ?_;have t:=Wz (f:=aK w h W') (n:=n') (ps:=ps) (ch:=b.filter (qQ w h W' c ps)) (YU (Nat.add_le_add j q) (by decide));exact dB (IZ (qM (ds:=[.list ((b.filter (qQ w h W' c ps)).map aQ)]) rfl rfl t)) (lW (rP rfl))
end
end My
namespace My
open PySem.SeqAt L2 DL OB SD SL EL DC KP SC
section
variable {w h:Nat}(hw:w<=5)(hh:h<=5){W:C->Bool}{c:C}
include hw hh
theorem n4{p:Cp}{V:C->Bool}:p∈vis w h V ↔ p∈bK (cells w h)/\bE (aU w h V) p.1 p.2=true:=Ym
theorem OU(k:Kp w h (wm W c) ps):chg w h (wp W c) c ps=eE w h W c:=by
 rw [mN hw hh];refine Jl fun p a=>?_
 have e:decide (p∈ps)=bE (aU w h (wm W c)) p.1 p.2:=by
  rw [Y9,decide_eq_true_iff,k.me,n4 hw hh]
  exact⟨fun q=>q.2,fun q=>⟨a,q⟩⟩
 unfold qQ;rw [e]
 cases m:iA p.1 p.2 c with
 | false=>rw [HM hw hh a m];cases bE (aU w h (wp W c)) p.1 p.2 <;> rfl
 | true=>
  cases q:bE (aU w h (wp W c)) p.1 p.2 with
  | true=>rw [tS hw hh q];rfl
  | false=>cases bE (aU w h (wm W c)) p.1 p.2 <;> rfl
theorem OW(k:Kp w h (wp W c) ps):chg w h (wm W c) c ps=eE w h W c:=by
 rw [mN hw hh];refine Jl fun p a=>?_
 have e:decide (p∈ps)=bE (aU w h (wp W c)) p.1 p.2:=by
  rw [Y9,decide_eq_true_iff,k.me,n4 hw hh]
  exact⟨fun q=>q.2,fun q=>⟨a,q⟩⟩
 unfold qQ;rw [e]
 cases m:iA p.1 p.2 c with
 | false=>rw [HM hw hh a m];cases bE (aU w h (wp W c)) p.1 p.2 <;> rfl
 | true=>
  cases q:bE (aU w h (wp W c)) p.1 p.2 with
  | true=>rw [tS hw hh q];rfl
  | false=>cases bE (aU w h (wm W c)) p.1 p.2 <;> rfl
theorem Hl:p∈eE w h W c ↔ p∈bK (cells w h)/\bE (aU w h (wm W c)) p.1 p.2=true/\bE (aU w h (wp W c)) p.1 p.2=false:=by
 rw [mN hw hh,Ym,QL,YD]
theorem IM:(eE w h W c).Nodup:=by rw [mN hw hh];exact(xX (jP w h)).sublist Jz
theorem PD(k:Kp w h (wm W c) ps):Kp w h (wp W c) ((eE w h W c).foldl eF ps):=by
 obtain⟨b,a⟩:=AW (eE w h W c) ps k.nd (IM hw hh)
 refine⟨b,fun p=>(a p).trans ?_⟩
 rw [k.me,n4 hw hh,n4 hw hh,Hl hw hh]
 have:=tS (W:=W) (c:=c) (p:=p) hw hh
 cases d:bE (aU w h (wp W c)) p.1 p.2 with
 | true=>rw [d]at this;rw [this rfl];simp
 | false=>cases e:bE (aU w h (wm W c)) p.1 p.2 <;> simp
theorem PF(k:Kp w h (wp W c) ps):Kp w h (wm W c) ((eE w h W c).foldl eF ps):=by
 obtain⟨b,a⟩:=AW (eE w h W c) ps k.nd (IM hw hh)
 refine⟨b,fun p=>(a p).trans ?_⟩
 rw [k.me,n4 hw hh,n4 hw hh,Hl hw hh]
 have:=tS (W:=W) (c:=c) (p:=p) hw hh
 cases d:bE (aU w h (wp W c)) p.1 p.2 with
 | true=>rw [d]at this;rw [this rfl];simp
 | false=>cases e:bE (aU w h (wm W c)) p.1 p.2 <;> simp
theorem Wt:eE w h (wm W c) c=eE w h W c:=by rw [mN hw hh,mN hw hh,NH,Kl]
theorem Wu:eE w h (wp W c) c=eE w h W c:=by rw [mN hw hh,mN hw hh,Kj,NI]
end
section
variable {w h:Nat}(hw:w<=4)(hh:h<=4){W:C->Bool}{c:C}(hc:cG w h c=true)
include hw hh hc
theorem PH(d:W c=false)(k:Kp w h W ps):∃ ps' n',rZ [none,some (aB c)] (aK w h W,ps.map ck,n)=some (.list ((eE w h W c).map aQ),(aK w h (wp W c),ps'.map ck,n'))/\Kp w h (wp W c) ps'/\n<=n'/\n'<=n+((bK (cells w h)).length:Int):=by
 have w5:w<=5:=by lia
 have h5:h<=5:=by lia
 have a:Kp w h (wm W c) ps:=by rw [yE d];exact k
 have i:ps.length<=256:=by rw [k.len];exact pP hw hh W
 obtain⟨n',e,p,o⟩:=Ez hw hh (c:=c) (W0:=W) (n:=n) i (wp W c);rw [OU w5 h5 a]at e
 refine⟨_,n',nY (Ω:=[]) rfl ?_,PD w5 h5 a,p,o⟩
 have m:=RX hc d;have l:i5 [aK w h W,aB c]=some (aK w h (wp W c)):=Kg w5 h5 hc;unfold zJ;have g:iY i5 (cS (fT 0 jL) (cS (xP (eV 1)) fQ)) (gM 2 [none,some (aB c)]) [((aK w h W,ps.map ck,n):K3)]=some (aK w h (wp W c),[(aK w h W,ps.map ck,n)]):=tJ (ds:=[aK w h W,aB c]) (gK (qL (b:=(aK w h W,ps.map ck,n)) rfl rfl) (gK (rP rfl) rfl)) l;have f:=Iz (j:=0) (G:=l5) (gr:=cS (iY i5 (cS (fT 0 jL) (cS (xP (eV 1)) fQ))) (cS (xP (eV 1)) fQ)) (ρ:=gM 2 [none,some (aB c)]) (Ω:=[((aK w h W,ps.map ck,n):K3)]) (Ω1:=[((aK w h W,ps.map ck,n):K3)]) (b0:=(aK w h W,ps.map ck,n)) (b:=(aK w h W,ps.map ck,n)) (ds:=[aK w h (wp W c),aB c]) rfl (gK g (gK (rP rfl) rfl)) rfl e;exact dB (IZ (tJ (ds:=[aK w h W,aB c]) (gK (qL (b:=(aK w h W,ps.map ck,n)) rfl rfl) (gK (rP rfl) rfl)) m)) (lW f)
theorem PJ(d:W c=true)(k:Kp w h W ps):∃ ps' n',r0 [none,some (aB c)] (aK w h W,ps.map ck,n)=some (.list ((eE w h W c).map aQ),(aK w h (wm W c),ps'.map ck,n'))/\Kp w h (wm W c) ps'/\n<=n'/\n'<=n+((bK (cells w h)).length:Int):=by
 have w5:w<=5:=by lia
 have h5:h<=5:=by lia
 have a:Kp w h (wp W c) ps:=by rw [yF d];exact k
 have l:ps.length<=256:=by rw [k.len];exact pP hw hh W
 obtain⟨n',e,p,o⟩:=Ez hw hh (c:=c) (W0:=W) (n:=n) l (wm W c);rw [OW w5 h5 a]at e
 refine⟨_,n',nY (Ω:=[]) rfl ?_,PF w5 h5 a,p,o⟩
 have f:=HX (W:=W) hc;rw [d]at f;have m:i6 [aK w h W,aB c]=some (aK w h (wm W c)):=Kh w5 h5 hc;unfold BT;have i:iY i6 (cS (fT 0 jL) (cS (xP (eV 1)) fQ)) (gM 2 [none,some (aB c)]) [((aK w h W,ps.map ck,n):K3)]=some (aK w h (wm W c),[(aK w h W,ps.map ck,n)]):=tJ (ds:=[aK w h W,aB c]) (gK (qL (b:=(aK w h W,ps.map ck,n)) rfl rfl) (gK (rP rfl) rfl)) m;have g:=Iz (j:=0) (G:=l5) (gr:=cS (iY i6 (cS (fT 0 jL) (cS (xP (eV 1)) fQ))) (cS (xP (eV 1)) fQ)) (ρ:=gM 2 [none,some (aB c)]) (Ω:=[((aK w h W,ps.map ck,n):K3)]) (Ω1:=[((aK w h W,ps.map ck,n):K3)]) (b0:=(aK w h W,ps.map ck,n)) (b:=(aK w h W,ps.map ck,n)) (ds:=[aK w h (wm W c),aB c]) rfl (gK i (gK (rP rfl) rfl)) rfl e;exact dB (nK (DP (k:=true) (rB (tJ (ds:=[aK w h W,aB c]) (gK (qL (b:=(aK w h W,ps.map ck,n)) rfl rfl) (gK (rP rfl) rfl)) f)))) (lW g)
end
def nC(p q:Cp):Prop:=j0 p.1 q.1=true ∨ (p.1=q.1/\j0 p.2 q.2=true)
theorem Cy:∀{l:List C},Up l->(bK l).Pairwise nC
 | [],_=>List.Pairwise.nil
 | a::r,u=>by
  have d:=(Q1.mp u).1;have c:=(Q1.mp u).2
  show((r.map fun b=>(a,b))++bK r).Pairwise nC
  rw [Q9]
  refine⟨Yf.mpr (List.Pairwise.imp (fun{x y} q=>.inr ⟨rfl,q⟩) c),Cy c,fun p f q e=>?_⟩
  obtain⟨b,_,rfl⟩:=QM.mp f;obtain⟨x,y⟩:=q;exact .inl (d x ((sZ c).mp e).1)
def kd(p:Cp):KD:=([p.1.1,p.1.2,p.2.1,p.2.2],aQ p)
theorem Lx(h:nC p q):Le (kd p) (kd q):=by
 unfold Le kd;dsimp only;rw [HT.lexLt_cons,HT.lexLt_cons,HT.lexLt_cons,HT.lexLt_cons,HT.lexLt_nil_nil];rcases h with h | ⟨e,h⟩
 ·rw [jM]at h;rcases h with h | ⟨a,b⟩
  ·rw [if_neg (by lia),decide_eq_false (by lia)]
  ·rw [if_pos a.symm,if_neg (by lia),decide_eq_false (by lia)]
 ·rw [jM]at h;rw [if_pos (by rw [e]),if_pos (by rw [e])];rcases h with h | ⟨a,b⟩
  ·rw [if_neg (by lia),decide_eq_false (by lia)]
  ·rw [if_pos a.symm,if_neg (by lia),decide_eq_false (by lia)]
theorem HE(a b:C):∀ l:List Cp,eJ [aB a,aB b] (l.map aQ)=some (l.map kd)
 | []=>rfl
 | p::l=>by
  rw [Qp];unfold eJ;rw [show kQ [aB a,aB b] (aQ p)=some [p.1.1,p.1.2,p.2.1,p.2.2]from rfl,Qj,HE a b l];rfl
theorem Wd{ps m:List Cp}(c:m.Pairwise nC)(h:ps.Perm m):eK (ps.map kd)=m.map kd:=by
 refine xC ((lE _).trans (h.map kd)) (pO _) (Yf.mpr (c.imp Lx)) fun a f b d e=>?_;obtain⟨p,_,rfl⟩:=QM.mp ((lE _).mem_iff.mp f);obtain⟨q,_,rfl⟩:=QM.mp ((lE _).mem_iff.mp d);obtain⟨⟨r,o⟩,⟨n,l⟩⟩:=p;obtain⟨⟨k,j⟩,⟨i,g⟩⟩:=q;unfold kd at e;dsimp only at e
 injection e with e1 e
 injection e with e2 e
 injection e with e3 e
 injection e with e4 e
 subst e1 e2 e3 e4;rfl
theorem HZ{ps m:List Cp}(a:m.Pairwise nC)(h:ps.Perm m)(b:ps.length<=256):jG [.list (ps.map aQ)]=some (.list (m.map aQ)):=by
 cases ps with
 | nil=>rw [List.nil_perm.mp h];rfl
 | cons p r=>
  show(if(r.map aQ).length<1000 then(eJ [aB p.1,aB p.2] ((p::r).map aQ)).bind fun l=>some (ZY ((eK l).map (·.2)))else none)=_
  rw [if_pos (by rw [Qi];rw [Qv]at b;lia),HE,Qj,Wd a h,YE];rfl
theorem VV(w h:Nat)(W:C->Bool):(vis w h W).Pairwise nC:=(Cy (jP w h)).sublist Jz
theorem Bq{w h:Nat}(a:w<=4)(b:h<=4){W:C->Bool}{f:D}{n:Int}{ps:List Cp}(k:Kp w h W ps):iZ [none] (f,ps.map ck,n)=some (.list ((vis w h W).map aQ),(f,ps.map ck,n)):=by
 refine nY (Ω:=[]) rfl (lW ?_)
 show(jG [.list ((ps.map ck).map fun k=>jY (.inr k))]).bind _=_
 rw [YE,show((fun k=>jY (.inr k)) ∘ ck)=aQ from rfl,HZ (VV w h W) (Cm k.nd (yB w h W) k.me) (by rw [k.len];exact pP a b W)];rfl
theorem AG:∀ l:List Cp,decAll (l.map aQ)=some (l.map ck)
 | []=>rfl
 | p::l=>by
  rw [Qp];unfold decAll;rw [Oy,Qj,AG l];rfl
theorem D5(a:w<=5)(b:h<=5):kT [aK w h W]=some (.list ((vis w h W).map aQ)):=by
 rw [O7 a b,VU a b]
theorem Re(b:w<=4)(c:h<=4):pE [aK w h W]=some (aK w h W,(vis w h W).map ck,0):=by
 unfold pE;dsimp only;rw [D5 (by lia) (by lia),Qj];dsimp only;have a:((vis w h W).map ck).Nodup:=List.Pairwise.map _ (fun x y (n:x≠y) z=>n (Bf z)) (yB w h W);have d:=pP b c W;rw [AG,Qj,if_pos ⟨a,by rw [Qi];lia⟩]
theorem D9:∀ l:List Cp,∃ m:List Cp,fO (l.map ck)=m.map ck/\m.Nodup/\∀ p,p∈m ↔ p∈l
 | []=>⟨[],rfl,YH,fun _=>Iff.rfl⟩
 | x::r=>by
  obtain⟨m,e,n,q⟩:=D9 r;rw [Qp];unfold fO;by_cases c:ck x∈r.map ck
  ·rw [if_pos c]
   refine⟨m,e,n,fun p=>(q p).trans ?_⟩
   rw [Ql]
   exact⟨.inr,fun z=>z.elim (fun z=>z ▸ sX.mp c) id⟩
  ·rw [if_neg c,e]
   refine⟨x::m,rfl,Yc.mpr ⟨fun z=>c (sX.mpr ((q x).mp z)),n⟩,fun p=>?_⟩
   rw [Ql,Ql,q]
theorem BZ:∀ l:List C,2 * (bK l).length=l.length * (l.length-1)
 | []=>rfl
 | a::r=>by
  have c:=BZ r
  show 2 * ((r.map fun b=>(a,b))++bK r).length=_
  rw [Qo,Qi,Qv,Nat.add_sub_cancel,Nat.mul_add,c];generalize r.length=n
  cases n with
  | zero=>rfl
  | succ n=>
   rw [Nat.add_sub_cancel,Nat.mul_comm 2,<- Nat.mul_add,Nat.mul_comm];congr 1;lia
theorem Ie(a:w<=4)(b:h<=4):(bK (cells w h)).length<=120:=by
 have e:=BZ (cells w h)
 have l:(cells w h).length<=16:=by rw [kB];exact Y8 a b
 have:(cells w h).length * ((cells w h).length-1)<=16 * 15:=Y8 l (by lia)
 lia
theorem Wh{w h:Nat}(g:w<=4)(i:h<=4){V W:C->Bool}{gr:aA->Option (List D)}{ρ:aA}(j:gr ρ=some [.list ((vis w h V).map aQ++(vis w h W).map aQ)]):
  p5 gr ρ=some (.list (((bK (cells w h)).filter fun p=>bE (aU w h V) p.1 p.2 || bE (aU w h W) p.1 p.2).map aQ)):=by
 obtain⟨m,e,d,f⟩:=D9 (vis w h V++vis w h W)
 have a:∀ p,p∈m ↔ p∈(bK (cells w h)).filter fun p=>bE (aU w h V) p.1 p.2 || bE (aU w h W) p.1 p.2:=fun p=>by
  rw [f,QC,Ym,JN];unfold vis;rw [Ym,Ym]
  exact⟨fun z=>z.elim (fun z=>⟨z.1,.inl z.2⟩) fun z=>⟨z.1,.inr z.2⟩,fun z=>z.2.elim (fun y=>.inl ⟨z.1,y⟩) fun y=>.inr ⟨z.1,y⟩⟩
 have c:((bK (cells w h)).filter fun p=>bE (aU w h V) p.1 p.2 || bE (aU w h W) p.1 p.2).Pairwise nC:=(Cy (jP w h)).sublist Jz;have b:=Cm d ((xX (jP w h)).sublist Jz) a;have n:=Ie g i;have l:=Ye (fun p:Cp=>bE (aU w h V) p.1 p.2 || bE (aU w h W) p.1 p.2) (bK (cells w h));have k:=b.length_eq
 have s:Ae [.list ((vis w h V).map aQ++(vis w h W).map aQ)]=some ((vis w h V++vis w h W).map ck):=by
  rw [<- Yd]
  show(decAll _).bind _=_
  rw [AG,Qj,e,if_pos (by rw [Qi];lia)]
 unfold p5;rw [j,Qj,s,Qj,e,YE];exact HZ c b (by lia)
end My
namespace My
open PySem.SeqAt L2 DL OB SD SL EL DC KP SC
theorem Lw(l:List C){j:Int}(b:0<=j)(d:j<(l.length:Int)):∃ c,c∈l/\aR (.list (l.map aB)) (.int j)=some (aB c):=by
 obtain⟨n,rfl⟩:=Int.eq_ofNat_of_zero_le b
 have a:n<l.length:=by lia
 refine⟨l[n],YJ a,?_⟩
 show L2.atI (l.map aB) (n:Int)=_
 unfold L2.atI L2.ixN;rw [if_pos b,Y1,Qi,if_pos (by lia)]
 simp [a]
theorem HR(p:Cp):Sh (aQ p):=⟨id rfl,by show 2<=9;decide⟩
theorem Bs(l:List Cp):ZG (.list (l.map aQ))=true:=SU fun d a=>by
 obtain⟨p,_,rfl⟩:=QM.mp a;exact HR p
theorem Of(p q:Cp):ZQ (aQ p) (aQ q)=(p == q):=by
 show(ZQ (aB p.1) (aB q.1) && (ZQ (aB p.2) (aB q.2) && true))=_
 rw [v0,v0,J3];rfl
theorem FH(p:Cp)(l:List Cp):dY false (aQ p) (.list (l.map aQ))=some (.bool (l.contains p)):=by
 show(if(ZG (aQ p) && ZG (.list (l.map aQ)))=true then _ else _)=_
 rw [(HR p).shaped,Bs,J2,if_pos rfl,if_neg Qr];congr 2
 induction l with
 | nil=>rfl
 | cons a l b=>rw [Qp,JS,b,Of,List.contains_cons,Bool.beq_comm]
theorem NG{B:Type}{g1 g2:GS B}{ρ:aA}{Ω Ω1:List B}{d:D}(h:g1 ρ Ω=some (.rt d Ω1)):bZ g1 g2 ρ Ω=some (.rt d Ω1):=by
 unfold bZ;rw [h];rfl
def bP(W:C->Bool)(c:C):C->Bool:=if W c=true then wm W c else wp W c
theorem oS{W:C->Bool}{c:C}(h:W c=true):bP W c=wm W c:=if_pos h
theorem oQ{W:C->Bool}{c:C}(h:W c=false):bP W c=wp W c:=if_neg (by rw [h];decide)
theorem Gi(W:C->Bool)(c:C):bP (bP W c) c=W:=by
 cases o:W c with
 | true=>rw [oS o,oQ (Ki W c),Kl,yF o]
 | false=>rw [oQ o,oS (Kk W c),Kj,yE o]
structure Sz(w h:Nat):Prop where
 w1:1<=w
 w4:w<=4
 h1:1<=h
 h4:h<=4
section
variable {w h:Nat}(z:Sz w h)
include z
theorem Sz.w5:w<=5:=Nat.le_succ_of_le z.w4
theorem Sz.h5:h<=5:=Nat.le_succ_of_le z.h4
theorem Sz.fl(W:C->Bool):Fl (aK w h W):=⟨w,h,W,z.w1,z.w4,z.h1,z.h4,rfl⟩
variable {W:C->Bool}{c:C}{ps:List Cp}{n:Int}
theorem Ws:eE w h (bP W c) c=eE w h W c:=by
 cases o:W c with
 | true=>rw [oS o,Wt z.w5 z.h5]
 | false=>rw [oQ o,Wu z.w5 z.h5]
theorem Cu(d:cG w h c=true)(k:Kp w h W ps):∃ ps' n',i3 [none,some (aB c)] (aK w h W,ps.map ck,n)=some (.list ((eE w h W c).map aQ),(aK w h (bP W c),ps'.map ck,n'))/\Kp w h (bP W c) ps'/\n<=n'/\n'<=n+((bK (cells w h)).length:Int):=by
 have e:=zA false c w h W;rw [if_neg Qr,tU z.w5 z.h5 d]at e
 have q:xB (cM (dY false) (xP (eV 1)) (cM aR (cZ 0 l6 aG) (xP (eC (.int 2))))) (gM 2 [none,some (aB c)]) [((aK w h W,ps.map ck,n):K3)]=some (W c,[(aK w h W,ps.map ck,n)]):=
  rB (iS (x:=aB c) (y:=iX w h W) (rP rfl) (iS (x:=aK w h W) (y:=.int 2) (qM (ds:=[]) (b:=(aK w h W,ps.map ck,n)) (r:=(aK w h W,(aK w h W,ps.map ck,n))) rfl rfl rfl) (rP rfl) rfl) e)
 cases o:W c with
 | true=>
  rw [o]at q;obtain⟨ps',n',f,a,i,g⟩:=PJ z.w4 z.h4 d (n:=n) o k;rw [oS o]
  refine⟨ps',n',nY (Ω:=[]) rfl ?_,a,i,g⟩
  unfold u7;exact NG (uY q (lW (qM (ds:=[aB c]) (b:=(aK w h W,ps.map ck,n)) rfl rfl f)))
 | false=>
  rw [o]at q;obtain⟨ps',n',f,a,i,g⟩:=PH z.w4 z.h4 d (n:=n) o k;rw [oQ o]
  refine⟨ps',n',nY (Ω:=[]) rfl ?_,a,i,g⟩
  unfold u7;exact dB (nK q) (lW (qM (ds:=[aB c]) (b:=(aK w h W,ps.map ck,n)) rfl rfl f))
theorem Wr(a:cG w h c=true){ρ:aA}(d:eV 1 ρ=some (aK w h W))(b:eV 6 ρ=some (aB c)):m7 (eB (aF (dY false) (eV 6) (aF aR (eV 1) (eC (.int 2))))) (aT i6 (aD (eV 1) (aD (eV 6) aG))) (aT i5 (aD (eV 1) (aD (eV 6) aG))) ρ=some (aK w h (bP W c)):=by
 have e:=zA false c w h W;rw [if_neg Qr,tU z.w5 z.h5 a]at e;have q:eB (aF (dY false) (eV 6) (aF aR (eV 1) (eC (.int 2)))) ρ=some (W c):=oB (oo (x:=aB c) (y:=iX w h W) b (oo (x:=aK w h W) (y:=.int 2) d rfl rfl) e);have f:aD (eV 1) (aD (eV 6) aG) ρ=some [aK w h W,aB c]:=cN d (cN b rfl);rw [NW,q,Qj]
 cases o:W c with
 | true=>rw [if_pos rfl,oS o];exact bI f (Kh z.w5 z.h5 a)
 | false=>rw [if_neg Qr,oQ o];exact bI f (Kg z.w5 z.h5 a)
theorem Wx(t:cG w h c=true){ρ:aA}(g:ρ[7]?=some (.dat (.list ((vis w h W).map aQ))))(a:ρ[11]?=some (.dat (.list ((vis w h (bP W c)).map aQ)))):
  fF (fJ (dU (p5 (aD (aF cB (eV 7) (eV 11)) aG))) (cT 0) (eB (aF bW (aF (dY false) (eV 0) (eV 1)) (aF (dY false) (eV 0) (eV 2)))) (eV 0) [none,some 7,some 11]) ρ=some (.list ((eE w h W c).map aQ)):=by
 have j:eV 7 ρ=some (.list ((vis w h W).map aQ)):=by rw [y4,g]
 have d:eV 11 ρ=some (.list ((vis w h (bP W c)).map aQ)):=by rw [y4,a]
 have r:=pP z.w4 z.h4 W;have l:=pP z.w4 z.h4 (bP W c)
 have n:cB (.list ((vis w h W).map aQ)) (.list ((vis w h (bP W c)).map aQ))=some (.list ((vis w h W).map aQ++(vis w h (bP W c)).map aQ)):=by
  show(if _ then _ else _)=_
  rw [if_pos (by rw [Qi,Qi];lia)]
 have k:=Wh z.w4 z.h4 (V:=W) (W:=bP W c) (gr:=aD (aF cB (eV 7) (eV 11)) aG) (ρ:=ρ) (cN (oo j d n) rfl)
 have m:fV [none,some 7,some 11] ρ=[.no,.dat (.list ((vis w h W).map aQ)),.dat (.list ((vis w h (bP W c)).map aQ))]:=by
  unfold fV;simp only [Qp,List.map_nil,g,a]
 refine n0 (xs:=(bK (cells w h)).filter fun p=>bE (aU w h W) p.1 p.2 || bE (aU w h (bP W c)) p.1 p.2) aQ (fun p => !((vis w h W).contains p == (vis w h (bP W c)).contains p)) aQ (fun ρ=>∃ s,ρ=[s,.dat (.list ((vis w h W).map aQ)),.dat (.list ((vis w h (bP W c)).map aQ))]) (k4 k rfl) ?_ ⟨.no,m⟩ ?_ ?_
 ·have:=Ie z.w4 z.h4
  have:=Ye (fun p:Cp=>bE (aU w h W) p.1 p.2 || bE (aU w h (bP W c)) p.1 p.2) (bK (cells w h))
  lia
 ·rintro p f ρ ⟨s,rfl⟩
  exact⟨_,rfl,⟨_,rfl⟩,oB (oo (oo rfl rfl (FH p (vis w h W))) (oo rfl rfl (FH p (vis w h (bP W c)))) (zC _ _)),fun _=>rfl⟩
 ·congr 1;rw [List.filter_filter];unfold eE;refine Jl fun p f=>?_
  have i:∀ V:C->Bool,(vis w h V).contains p=bE (aU w h V) p.1 p.2:=fun V=>by
   rw [Y9,YA,n4 z.w5 z.h5]
   exact⟨fun q=>q.2,fun q=>⟨f,q⟩⟩
  rw [i,i];have b:=tS (W:=W) (c:=c) (p:=p) z.w5 z.h5
  cases o:W c with
  | true=>
   rw [oS o];rw [yF o]at b ⊢
   cases e:bE (aU w h W) p.1 p.2 with
   | true=>rw [b e];rfl
   | false=>cases bE (aU w h (wm W c)) p.1 p.2 <;> rfl
  | false=>
   rw [oQ o];rw [yE o]at b ⊢
   cases e:bE (aU w h (wp W c)) p.1 p.2 with
   | true=>rw [b e];rfl
   | false=>cases bE (aU w h W) p.1 p.2 <;> rfl
end
def fr(ns:List Int)(w h:Nat)(W:C->Bool)(a s6 s7 s8 s9 s10 s11 s12:Sl):aA:=[.dat (cK ns),.dat (aK w h W),.no,.dat (.list ((cells w h).map aB)),.dat (.int ((bK (cells w h)).length:Int)),a,s6,s7,s8,s9,s10,s11,s12]
def g1:GX K3 Bool:=(jF (xB (cM bW (cZ 0 l6 aG) (xP (eV 9)))) (jF (xB (cM bW (cZ 0 iZ aG) (xP (aT kT (aD (eV 9) aG))))) (o9 (xB (pQ fZ fZ (xP (eC (.int 0))) (cM iM (cZ 0 nM aG) (xP (eV 8))) (xP (eV 4)))))))
def g2:GX K3 Bool:=(xP (eB (aF bW (eV 10) (fF (fJ (dU (p5 (aD (aF cB (eV 7) (eV 11)) aG))) (cT 0) (eB (aF bW (aF (dY false) (eV 0) (eV 1)) (aF (dY false) (eV 0) (eV 2)))) (eV 0) [none,some 7,some 11])))))
def g3:GX K3 Bool:=(jF (xB (cM bW (j8 0 i3 (j4 (j2 (eV 6) j3))) (xP (eV 10)))) (jF (xB (cM bW (cZ 0 iZ aG) (xP (eV 7)))) (xB (cM bW (j8 0 i3 (j4 (j2 (eV 6) j3))) (xP (eV 10))))))
def gF:GS K3:=e7 (xP (eC (.bool false)))
def gB:GS K3:=(bZ (eG 6 (xP (aF aR (eV 3) (aT gR (aD (eV 0) (aD (aF cB (eC (.int 60)) (eV 5)) (aD (aT gA (aD (eV 3) aG)) aG)))))))
  (bZ (eG 7 (cZ 0 iZ aG))
  (bZ (eG 8 (cZ 0 nM aG))
  (bZ (eG 9 (xP (m7 (eB (aF (dY false) (eV 6) (aF aR (eV 1) (eC (.int 2))))) (aT i6 (aD (eV 1) (aD (eV 6) aG))) (aT i5 (aD (eV 1) (aD (eV 6) aG))))))
  (bZ (eG 10 (j8 0 i3 (j4 (j2 (eV 6) j3))))
  (bZ (dC g1 gF fU)
  (bZ (eG 11 (cZ 0 iZ aG))
  (bZ (dC g2 gF fU)
  (bZ (dC g3 gF fU)
  (eG 1 (xP (eV 9))))))))))))
def gC:GX K3 Bool:=(xB (cM bW (tW (dU (eV 3)) 0 (xB (cM bW (cZ 0 l7 (aD (eV 1) (aD (eV 0) aG))) (xP (aT j9 (aD (eV 2) (aD (eV 1) (aD (eV 0) aG))))))) (eV 0) [none,some 12,some 1,some 2]) (xP (oO aG))))
theorem Tg{B:Type}{ρ:aA}{Ω Ω1 b a:List B}{h h':D->D->Option D}{ga gb c:GX B D}{x y u:D}{k:Bool}(g:ga ρ Ω=some (x,Ω1))(f:gb ρ Ω1=some (y,b))(e:h x y=some (.bool true))(d:c ρ b=some (u,a))(h5:h' y u=some (.bool k)):pQ h h' ga gb c ρ Ω=some (.bool k,a):=by
 unfold pQ;rw [g,Qj];dsimp only;rw [f,Qj];dsimp only;rw [e,Qj,KJ,Qj,if_pos rfl,d,Qj];dsimp only;rw [h5];rfl
theorem mT{ρ:aA}{c:C}{b:K3}{r:D × K3}(h:ρ[6]?=some (.dat (aB c)))(e:i3 [none,some (aB c)] b=some r):j8 0 i3 (j4 (j2 (eV 6) j3)) ρ [b]=some (r.1,[r.2]):=Mx (os:=[none,some (aB c)]) (b:=b) (by
 have v:eV 6 ρ=some (aB c):=by rw [y4,h]
 unfold j4 j2 j3;rw [v]
 rfl) rfl e
theorem mM{ρ:aA}{G:GM K3}{b:K3}{r:D × K3}(e:G [none] b=some r):cZ 0 G aG ρ [b]=some (r.1,[r.2]):=qM (ds:=[]) (b:=b) rfl rfl e
abbrev vL(w h:Nat)(W:C->Bool):D:=.list ((vis w h W).map aQ)
abbrev vS(w h:Nat)(W:C->Bool):Sl:=.dat (vL w h W)
abbrev tL(w h:Nat)(W:C->Bool)(c:C):D:=.list ((eE w h W c).map aQ)
abbrev cL(w h:Nat):D:=.list ((cells w h).map aB)
abbrev kS(w h:Nat)(W:C->Bool)(ps:List Cp)(n:Int):K3:=(aK w h W,ps.map ck,n)
section
variable {w h:Nat}(z:Sz w h){ns:List Int}{W:C->Bool}{c:C}{ps:List Cp}{n:Int}{s5 s6 s7 s8 s9 s10 s11 s12:Sl}
include z
theorem N4(Q:ns.length<=63){m:Nat}(k:Kp w h W ps):∃ V ps' n' s6' s7' s8' s9' s10' s11',gB (fr ns w h W (.dat (.int (m:Int))) s6 s7 s8 s9 s10 s11 s12) [kS w h W ps n]=
  some (.nx (fr ns w h V (.dat (.int (m:Int))) s6' s7' s8' s9' s10' s11' s12) [(aK w h V,ps'.map ck,n')])/\Kp w h V ps':=by
 have B:(cells w h).length=w * h:=kB w h;have X:0<w * h:=Nat.mul_pos z.w1 z.h1;obtain⟨R,F,E⟩:=rN ns Q (60+(m:Int)) ((w * h:Nat):Int) (by lia);obtain⟨c,T,S⟩:=Lw (cells w h) F (by rw [B];exact E);have i:cG w h c=true:=kF.mp T;obtain⟨g,d,H,A,a1,b1⟩:=Cu z (n:=n) i k;obtain⟨U,v,o,l,a2,Z⟩:=Cu z (n:=d) i A;rw [Gi,Ws z]at o;rw [Gi]at l;obtain⟨q,t,G,O,a3,Y⟩:=Cu z (n:=v) i l;have N:=Bq z.w4 z.h4 (f:=aK w h W) (n:=n) k;have p:=Bq z.w4 z.h4 (f:=aK w h (bP W c)) (n:=d) A;have M:=Bq z.w4 z.h4 (f:=aK w h W) (n:=v) l;have s:∀ V:C->Bool,bW (vL w h V) (vL w h V)=some (.bool false):=fun V=>Bu (Bs _);have j:bW (tL w h W c) (tL w h W c)=some (.bool false):=Bu (Bs _)
 have K:∀(e b:Sl),g1 (fr ns w h W e (.dat (aB c)) (vS w h W) (.dat (.int n)) (.dat (aK w h (bP W c))) (.dat (tL w h W c)) s11 b) [kS w h (bP W c) g d]=some (false,[kS w h (bP W c) g d]):=fun e b=>by
  unfold g1;refine uM (rB (iS (x:=aK w h (bP W c)) (y:=aK w h (bP W c)) (mM (r:=(aK w h (bP W c),(kS w h (bP W c) g d))) rfl) (rP rfl) (Bu (z.fl (bP W c)).sh.shaped))) (uM (rB (iS (mM p) (rP (bI (ds:=[aK w h (bP W c)]) rfl (D5 z.w5 z.h5))) (s _))) ?_);exact DP (k:=true) (rB (Tg (x:=.int 0) (y:=.int (d-n)) (u:=.int ((bK (cells w h)).length:Int)) (rP rfl) (iS (x:=.int d) (y:=.int n) (mM (r:=(.int d,(kS w h (bP W c) g d))) rfl) (rP rfl) (M9 _ _)) (by rw [Dt,decide_eq_true (by lia)]) (rP rfl) (by rw [Dt,decide_eq_true (by lia)])))
 have J:∀(e b:Sl),g2 (fr ns w h W e (.dat (aB c)) (vS w h W) (.dat (.int n)) (.dat (aK w h (bP W c))) (.dat (tL w h W c)) (vS w h (bP W c)) b) [kS w h (bP W c) g d]=some (false,[kS w h (bP W c) g d]):=fun e b=>by
  unfold g2;exact rP (oB (oo rfl (Wx z i rfl rfl) j))
 have I:∀(e b:Sl),g3 (fr ns w h W e (.dat (aB c)) (vS w h W) (.dat (.int n)) (.dat (aK w h (bP W c))) (.dat (tL w h W c)) (vS w h (bP W c)) b) [kS w h (bP W c) g d]=some (false,[kS w h (bP W c) q t]):=fun e b=>by
  unfold g3;exact uM (rB (iS (mT rfl o) (rP rfl) j)) (uM (rB (iS (mM M) (rP rfl) (s W))) (rB (iS (mT rfl G) (rP rfl) j)))
 refine⟨bP W c,q,t,.dat (aB c),.dat (vL w h W),.dat (.int n),.dat (aK w h (bP W c)),.dat (tL w h W c),.dat (vL w h (bP W c)),?_,O⟩
 unfold gB;refine dB (ρ':=fr ns w h W (.dat (.int (m:Int))) (.dat (aB c)) s7 s8 s9 s10 s11 s12) (jE (rP (a:=aB c) (oo (x:=cL w h) rfl (bI (ds:=[cK ns,.int (60+(m:Int)),.int ((w * h:Nat):Int)]) (cN rfl (cN rfl (cN (bI (ds:=[cL w h]) rfl (by rw [G7,Qi,B])) rfl))) R) S))) ?_;refine dB (ρ':=fr ns w h W (.dat (.int (m:Int))) (.dat (aB c)) (vS w h W) s8 s9 s10 s11 s12) (jE (mM N)) ?_;refine dB (ρ':=fr ns w h W (.dat (.int (m:Int))) (.dat (aB c)) (vS w h W) (.dat (.int n)) s9 s10 s11 s12) (Ω1:=[kS w h W ps n]) (jE (mM (r:=(.int n,(kS w h W ps n))) rfl)) ?_;refine dB (ρ':=fr ns w h W (.dat (.int (m:Int))) (.dat (aB c)) (vS w h W) (.dat (.int n)) (.dat (aK w h (bP W c))) s10 s11 s12) (Ω1:=[kS w h W ps n]) (jE (rP (Wr z i rfl rfl))) ?_;refine dB (ρ':=fr ns w h W (.dat (.int (m:Int))) (.dat (aB c)) (vS w h W) (.dat (.int n)) (.dat (aK w h (bP W c))) (.dat (tL w h W c)) s11 s12) (jE (mT rfl H)) ?_;refine dB (nK (K _ _)) ?_;refine dB (ρ':=fr ns w h W (.dat (.int (m:Int))) (.dat (aB c)) (vS w h W) (.dat (.int n)) (.dat (aK w h (bP W c))) (.dat (tL w h W c)) (vS w h (bP W c)) s12) (jE (mM p)) ?_;refine dB (nK (J _ _)) ?_;refine dB (nK (I _ _)) ?_;exact jE (rP rfl)
theorem EG(c:cG w h a=true):∀(l:List C),(∀ b∈l,cG w h b=true)->∀ s0:Sl,pS 0 (xB (cM bW (cZ 0 l7 (aD (eV 1) (aD (eV 0) aG))) (xP (aT j9 (aD (eV 2) (aD (eV 1) (aD (eV 0) aG))))))) (eV 0) (l.map aB) [s0,.dat (aB a),.dat (aK w h W),sk] [kS w h W ps n]=some ([],[kS w h W ps n])
 | [],_,_=>rfl
 | b::l,hl,s0=>by
  have e:=TF (W:=W) z.w5 z.h5 c (hl b Qk);have g:l7 [none,some (aB a),some (aB b)] (kS w h W ps n)=some (.bool (bE (aU w h W) a b),(kS w h W ps n)):=nY (Ω:=[]) rfl (lW (tJ (ds:=[aK w h W,aB a,aB b]) (gK (qL (b:=(kS w h W ps n)) rfl rfl) (gK (rP rfl) (gK (rP rfl) rfl))) e))
  have t:xB (cM bW (cZ 0 l7 (aD (eV 1) (aD (eV 0) aG))) (xP (aT j9 (aD (eV 2) (aD (eV 1) (aD (eV 0) aG)))))) [.dat (aB b),.dat (aB a),.dat (aK w h W),sk] [kS w h W ps n]=some (false,[kS w h W ps n]):=
   rB (iS (qM (ds:=[aB a,aB b]) (b:=(kS w h W ps n)) rfl rfl g) (rP (bI (ds:=[aK w h W,aB a,aB b]) rfl e)) (by rw [zC,beq_self_eq_true];rfl))
  have d:=EG c (sk:=sk) l (fun x f=>hl x (Qf _ f)) (.dat (aB b));rw [Qp];unfold pS
  show(xB _ [.dat (aB b),.dat (aB a),.dat (aK w h W),sk] _).bind _=_
  rw [t,Qj,if_neg Qr];exact d
theorem PK(f:cG w h a=true):gC (fr ns w h W s5 s6 s7 s8 s9 s10 s11 (.dat (aB a))) [kS w h W ps n]=some (false,[kS w h W ps n]):=by
 have e:=EG z (W:=W) (ps:=ps) (n:=n) f (sk:=.no) (cells w h) (fun b c=>kF.mp c) .no;unfold gC;refine rB (iS (x:=.list []) (y:=.list []) (Ω1:=[kS w h W ps n]) ?_ (rP rfl) rfl);unfold tW;rw [k4 (ga:=eV 3) (ρ:=fr ns w h W s5 s6 s7 s8 s9 s10 s11 (.dat (aB a))) (d:=cL w h) (l:=(cells w h).map aB) rfl rfl,Qj,show fV [none,some 12,some 1,some 2] (fr ns w h W s5 s6 s7 s8 s9 s10 s11 (.dat (aB a)))=[.no,.dat (aB a),.dat (aK w h W),.no]from rfl,e];rfl
end
theorem main:∀ ns:List Int,ns.length<=63->jT [.list (ns.map Zh)]=some (.bool true):=fun ns v=>by
 show jT [cK ns]=_
 obtain⟨w,h,W,e0,H,G,h1,h4⟩:=Om ns v 0 4 (by decide) (by decide);have z:Sz w h:=⟨H,G,h1,h4⟩
 have fin:∀{c:List K3},qY (cY 13 [cK ns]) []=some (.rt (.bool true) c)->jT [cK ns]=some (.bool true):=fun h=>by
  unfold jT uH;rw [h]
 suffices hh:∃ c,qY (cY 13 [cK ns]) []=some (.rt (.bool true) c) by
  obtain⟨c,e⟩:=hh;exact fin e
 have Z:Kp w h W (vis w h W):=⟨yB w h W,fun _=>Iff.rfl⟩
 have u:gA [cL w h]=some (.int (((cells w h).length:Nat):Int)):=by rw [G7,Qi]
 obtain⟨m,hm,m6⟩:∃ m:Nat,aT uE (aD (eC (.int 1)) (aD (aT qV (aD (eC (.int 6)) (aD (aT gA (aD (eV 0) aG)) aG))) aG)) (fr ns w h W .no .no .no .no .no .no .no .no)=some (.int (m:Int))/\m<=6:=by
  have a1:aT qV (aD (eC (.int 6)) (aD (aT gA (aD (eV 0) aG)) aG)) (fr ns w h W .no .no .no .no .no .no .no .no)=some (.int (if((ns.length:Nat):Int)<6 then((ns.length:Nat):Int)else 6)):=bI (ds:=[.int 6,.int ((ns.length:Nat):Int)]) (cN rfl (cN (bI (ds:=[cK ns]) rfl (by show some (Zh ((ns.map Zh).length:Int))=_;rw [Qi])) rfl)) rfl;generalize s:(if((ns.length:Nat):Int)<6 then((ns.length:Nat):Int)else 6)=x at a1
  have b:0<=x/\x<=6:=by
   rw [<- s]
   split <;> lia
  refine⟨(if x > 1 then x else 1).toNat,?_,?_⟩
  ·refine(bI (ds:=[.int 1,.int x]) (cN rfl (cN a1 rfl)) rfl).trans ?_
   show some (Zh (if x > 1 then x else 1))=_
   rw [Jy (by split <;> lia)]
  ·split <;> lia
 obtain⟨E,Ω1,A,V,ps,n,f,s6,s7,s8,s9,s10,s11,R,Q,k1⟩:=Ka (i:=5) (g:=gB) (fun n=>.int (n:Int)) (fun a j c=>∃ V ps n f s6 s7 s8 s9 s10 s11,j=fr ns w h V f s6 s7 s8 s9 s10 s11 .no/\c=[kS w h V ps n]/\Kp w h V ps) m (fun a j c ha t=>by
  obtain⟨V,ps,n,f,s6,s7,s8,s9,s10,s11,rfl,rfl,k⟩:=t;obtain⟨V2,r,S,M,K,J,I,q,p,e,Y⟩:=N4 z (W:=V) (ps:=ps) (n:=n) (s6:=s6) (s7:=s7) (s8:=s8) (s9:=s9) (s10:=s10) (s11:=s11) (s12:=.no) v (m:=a) k
  exact⟨_,_,e,V2,r,S,_,M,K,J,I,q,p,rfl,rfl,Y⟩) m 0 (fr ns w h W .no .no .no .no .no .no .no .no) [(aK w h W,(vis w h W).map ck,0)] (Q3 m) ⟨W,vis w h W,0,_,_,_,_,_,_,_,rfl,rfl,Z⟩
 subst R Q;rw [<- List.range_eq_range']at A
 obtain⟨B,F,e2,s12,O,N⟩:=yC (i:=12) (g:=dC gC gF fU) aB (fun l j c=>∃ s12,j=fr ns w h V f s6 s7 s8 s9 s10 s11 s12/\c=[kS w h V ps n]) (cells w h) [] (fr ns w h V f s6 s7 s8 s9 s10 s11 .no) [kS w h V ps n] (fun l x o j c e t=>by
  obtain⟨s12,rfl,rfl⟩:=t;have s:cG w h x=true:=kF.mp (by rw [show cells w h=l++x::o from e];exact Qu _ Qk)
  exact⟨fr ns w h V f s6 s7 s8 s9 s10 s11 (.dat (aB x)),_,nK (PK z s),_,rfl,rfl⟩) ⟨.no,rfl,rfl⟩
 subst O N
 refine⟨[kS w h V ps n],?_⟩
 unfold qY;rw [show cY 13 [cK ns]=[.dat (cK ns),.no,.no,.no,.no,.no,.no,.no,.no,.no,.no,.no,.no]from rfl];refine dB (ρ':=[.dat (cK ns),.dat (aK w h W),.no,.no,.no,.no,.no,.no,.no,.no,.no,.no,.no]) (Ω1:=[]) (jE (rP (a:=aK w h W) (bI (ds:=[cK ns,.int 0,.int 4]) rfl e0))) ?_;refine dB (ρ':=[.dat (cK ns),.dat (aK w h W),.no,.no,.no,.no,.no,.no,.no,.no,.no,.no,.no]) (Ω1:=[(aK w h W,(vis w h W).map ck,0)]) ?_ ?_
 ·unfold An;rw [cN (d:=aK w h W) (ds:=[]) rfl rfl,Qj,Re z.w4 z.h4];rfl
 refine dB (ρ':=[.dat (cK ns),.dat (aK w h W),.no,.dat (cL w h),.no,.no,.no,.no,.no,.no,.no,.no,.no]) (jE (rP (a:=cL w h) (bI (ds:=[aK w h W]) rfl (PM z.w5 z.h1 z.h5)))) ?_;refine dB (ρ':=fr ns w h W .no .no .no .no .no .no .no .no) (jE (rP (a:=Zh ((bK (cells w h)).length:Int)) ?_)) ?_
 ·have hl:=BZ (cells w h)
  have X:1<=(cells w h).length:=by rw [kB];exact Nat.mul_pos z.w1 z.h1
  have T:(((cells w h).length:Nat):Int) * ((((cells w h).length:Nat):Int)-1)=2 * ((bK (cells w h)).length:Int):=by
   have:((2 * (bK (cells w h)).length:Nat):Int)=(((cells w h).length * ((cells w h).length-1):Nat):Int):=by rw [hl]
   rw [Int.natCast_mul,Int.natCast_mul,Int.natCast_sub X]at this;exact this.symm
  have U:(cells w h).length<=16:=by rw [kB];exact Y8 z.w4 z.h4
  refine oo (x:=.int (2 * ((bK (cells w h)).length:Int))) (y:=.int 2) (oo (x:=.int (((cells w h).length:Nat):Int)) (y:=.int ((((cells w h).length:Nat):Int)-1)) (bI (ds:=[cL w h]) rfl u) (oo (x:=.int (((cells w h).length:Nat):Int)) (y:=.int 1) (bI (ds:=[cL w h]) rfl u) rfl rfl) ?_) rfl ?_
  ·rw [gW (iQ (by lia) (by lia)),T]
  ·rw [u5 (uL (by decide) (by decide)),Int.mul_ediv_cancel_left _ (by decide)]
 refine dB (uX (vC (n:=m) (cN hm rfl) (by lia)) A) ?_;exact dB (uX (k4 (d:=cL w h) rfl rfl) e2) (lW (rP rfl))
end My
namespace My
open PySem.Spec PySem.SeqAt L2 CL DL OB SD ZL SL EL DC KP ST SC
theorem us1{p:List YP->Prop}{us:List YP}(h:us.length=1)(q:∀ a,p [a]):p us:=by
 rcases us with _ | ⟨a,_ | ⟨b,r⟩⟩
 ·cases h
 ·exact q a
 ·simp at h
theorem us2{p:List YP->Prop}{us:List YP}(h:us.length=2)(q:∀ a b,p [a,b]):p us:=by
 rcases us with _ | ⟨a,r⟩
 ·cases h
 ·exact us1 (p:=fun r=>p (a::r)) (us:=r) (by simpa using h) fun b=>q a b
theorem Ak{p:List YP->Prop}{us:List YP}(h:us.length=3)(q:∀ a b c,p [a,b,c]):p us:=by
 rcases us with _ | ⟨a,r⟩
 ·cases h
 ·exact us2 (p:=fun r=>p (a::r)) (us:=r) (by simpa using h) fun b c=>q a b c
theorem us4{p:List YP->Prop}{us:List YP}(h:us.length=4)(q:∀ a b c d,p [a,b,c,d]):p us:=by
 rcases us with _ | ⟨a,r⟩
 ·cases h
 ·exact Ak (p:=fun r=>p (a::r)) (us:=r) (by simpa using h) fun b c d=>q a b c d
theorem all_mk(main:∀ ns:List Int,ns.length<=63->jT [.list (ns.map Zh)]=some (.bool true)){l:PySem.W.OpenLaw}{w:Zf}{K:PySem.W.Frag}{H:Str->Option YP}{fa:J8}(a4:H "law"=some (.ref fa))(T:∃ a d,mX K H a d)(BN:∃ C b e,qS K H C/\y3 K C b e):
  ∃ fd:Zp,(∀(s:J9) (v:YP),BindsTo s fd ⟨[v],[]⟩ [("_law_script",v)])/\∀ base:Heap,K.In base->base.Ns Zv H->aM l.prog w K H base aO 9 fa fd ["_law_script"] (xD K jT):=by
 obtain⟨a,d,T⟩:=T;obtain⟨C,b,ee,B,M⟩:=BN;have e:=T.F_qp.m.symm.trans a4;cases e;obtain⟨oc,od,kV,a6,pm,an,a7,ct,a5,e,_⟩:=T.F_qp.F.ex
 refine⟨d 25,fun s v=>by rw [e];exact .of_eq rfl,fun base _ _=>?_⟩
 have Q:=Mb (P:=l.prog) (w:=w) (base:=base) T;have t:=L8 (P:=l.prog) (w:=w) (base:=base) T;have n:=Mh (P:=l.prog) (w:=w) (base:=base) T;have O:=Me (P:=l.prog) (w:=w) (base:=base) T;have a0:=LW (P:=l.prog) (w:=w) (base:=base) T;have U:=L4 (P:=l.prog) (w:=w) (base:=base) T;have z:=LZ (P:=l.prog) (w:=w) (base:=base) T;have R:=L9 (P:=l.prog) (w:=w) (base:=base) T;have Y:=L0 (P:=l.prog) (w:=w) (base:=base) T;have a2:=LU (P:=l.prog) (w:=w) (base:=base) T Q;have X:=L3 (P:=l.prog) (w:=w) (base:=base) T t;have J:=Mi (P:=l.prog) (w:=w) (base:=base) T U;have q:=Mc (P:=l.prog) (w:=w) (base:=base) T O a0;have y:=L1 (P:=l.prog) (w:=w) (base:=base) T R;have N:=Mf (P:=l.prog) (w:=w) (base:=base) T a2;have E:=LV (P:=l.prog) (w:=w) (base:=base) T q;have x:=L5 (P:=l.prog) (w:=w) (base:=base) T n z q X;have S:=L6 (P:=l.prog) (w:=w) (base:=base) T y;have h:=LS (P:=l.prog) (w:=w) (base:=base) T N;have r:=Ma (P:=l.prog) (w:=w) (base:=base) T h;have u:=L7 (P:=l.prog) (w:=w) (base:=base) T h;have A:=LX (P:=l.prog) (w:=w) (base:=base) T h;have p:=Mj (P:=l.prog) (w:=w) (base:=base) T h E n;have a3:=LT (P:=l.prog) (w:=w) (base:=base) T r;have G:=RL (P:=l.prog) (w:=w) (base:=base) T;have j:=SM (P:=l.prog) (w:=w) (base:=base) T B G x M.Fi;have o:=RK (P:=l.prog) (w:=w) (base:=base) T B M.turn.F;have k:=SK (P:=l.prog) (w:=w) (base:=base) T B M.turn.m M.turn.b o n z t J E M.chg.F;have G_k_put_solid:=RG (P:=l.prog) (w:=w) (base:=base) T B M.chg.m M.chg.b k a3 u M.put.F;have G_k_take_solid:=RJ (P:=l.prog) (w:=w) (base:=base) T B M.chg.m M.chg.b k r A M.take.F;have c:=RF (P:=l.prog) (w:=w) (base:=base) T B M.now.F;have i:=RI (P:=l.prog) (w:=w) (base:=base) T B M.seen.F;have g:=RH (P:=l.prog) (w:=w) (base:=base) T B p M.see.F;have f:=RE (P:=l.prog) (w:=w) (base:=base) T B M.looked.F;have Z:=LY (P:=l.prog) (w:=w) (base:=base) T B M c G_k_put_solid G_k_take_solid;have I:=Ml (P:=l.prog) (w:=w) (base:=base) T B M S Y y A u x p g f c i j Z;exact LC I main
theorem fo1{K:PySem.W.Frag}{h:Heap}{m:Str->Option YP}{n:Str}{b:ZE}{ps:List Str}{f:J8}{od j:Option J8}{o:Array (Option YP)}{q kV i g d ct:YP}(X:K.In h)(G:h.Ns Zv m)(s:ps.length=1)(t:∀ x0,Z7 (PySem.W.fnOf n n (eI b) (c8 b) (aV b) .none kV i g j d ct) ⟨[x0],[]⟩=pure (List.zip ps [x0]))
  (a:PySem.W.nsIn K Zv n=some (some (.ref f))) (l:K.lookup f=some ⟨q,od,.func (PySem.W.fnOf n n (eI b) (c8 b) (aV b) .none kV i g j d ct),o⟩) (c:PySem.W.codeIn K d n=true) (k:PySem.W.keepIn K (.ref f)=true):Fo K m n b ps f (PySem.W.fnOf n n (eI b) (c8 b) (aV b) .none kV i g j d ct):=
 ⟨p6 l c k,PySem.W.mg_of X G a,.all fun e r=>us1 (p:=fun e=>Z7 _ ⟨e,[]⟩=pure (List.zip _ e)) (r.trans s) t⟩
theorem fo2{K:PySem.W.Frag}{h:Heap}{m:Str->Option YP}{n:Str}{b:ZE}{ps:List Str}{f:J8}{od j:Option J8}{o:Array (Option YP)}{q kV i g d ct:YP}(X:K.In h)(G:h.Ns Zv m)(s:ps.length=2)(t:∀ x0 x1,Z7 (PySem.W.fnOf n n (eI b) (c8 b) (aV b) .none kV i g j d ct) ⟨[x0,x1],[]⟩=pure (List.zip ps [x0,x1]))
  (a:PySem.W.nsIn K Zv n=some (some (.ref f))) (l:K.lookup f=some ⟨q,od,.func (PySem.W.fnOf n n (eI b) (c8 b) (aV b) .none kV i g j d ct),o⟩) (c:PySem.W.codeIn K d n=true) (k:PySem.W.keepIn K (.ref f)=true):Fo K m n b ps f (PySem.W.fnOf n n (eI b) (c8 b) (aV b) .none kV i g j d ct):=
 ⟨p6 l c k,PySem.W.mg_of X G a,.all fun e r=>us2 (p:=fun e=>Z7 _ ⟨e,[]⟩=pure (List.zip _ e)) (r.trans s) t⟩
theorem fo3{K:PySem.W.Frag}{h:Heap}{m:Str->Option YP}{n:Str}{b:ZE}{ps:List Str}{f:J8}{od j:Option J8}{o:Array (Option YP)}{q kV i g d ct:YP}(X:K.In h)(G:h.Ns Zv m)(s:ps.length=3)(t:∀ x0 x1 x2,Z7 (PySem.W.fnOf n n (eI b) (c8 b) (aV b) .none kV i g j d ct) ⟨[x0,x1,x2],[]⟩=pure (List.zip ps [x0,x1,x2]))
  (a:PySem.W.nsIn K Zv n=some (some (.ref f))) (l:K.lookup f=some ⟨q,od,.func (PySem.W.fnOf n n (eI b) (c8 b) (aV b) .none kV i g j d ct),o⟩) (c:PySem.W.codeIn K d n=true) (k:PySem.W.keepIn K (.ref f)=true):Fo K m n b ps f (PySem.W.fnOf n n (eI b) (c8 b) (aV b) .none kV i g j d ct):=
 ⟨p6 l c k,PySem.W.mg_of X G a,.all fun e r=>Ak (p:=fun e=>Z7 _ ⟨e,[]⟩=pure (List.zip _ e)) (r.trans s) t⟩
def cn{a:Type}(x:a)(f:Nat->a):Nat->a
 | 0=>x
 | n+1=>f n
theorem fm1{K:PySem.W.Frag}{n q:Str}{b:ZE}{ps:List Str}{C f:J8}{od j:Option J8}{m:Array (Option YP)}{o kV h g d ct:YP}(s:ps.length=1)(t:∀ x0,Z7 (PySem.W.fnOf n q (eI b) (c8 b) (aV b) .none kV h g j d ct) ⟨[x0],[]⟩=pure (List.zip ps [x0]))
  (a:PySem.W.findIn K (.ref C) n=some (some (.ref f))) (i:PySem.W.isFn K (.ref f)=true) (l:K.lookup f=some ⟨o,od,.func (PySem.W.fnOf n q (eI b) (c8 b) (aV b) .none kV h g j d ct),m⟩) (c:PySem.W.codeIn K d q=true) (k:PySem.W.keepIn K (.ref f)=true):Fm K C n q b ps f (PySem.W.fnOf n q (eI b) (c8 b) (aV b) .none kV h g j d ct):=
 ⟨p6 l c k,⟨a,i,k⟩,.all fun e r=>us1 (p:=fun e=>Z7 _ ⟨e,[]⟩=pure (List.zip _ e)) (r.trans s) t⟩
theorem fm2{K:PySem.W.Frag}{n q:Str}{b:ZE}{ps:List Str}{C f:J8}{od j:Option J8}{m:Array (Option YP)}{o kV h g d ct:YP}(s:ps.length=2)(t:∀ x0 x1,Z7 (PySem.W.fnOf n q (eI b) (c8 b) (aV b) .none kV h g j d ct) ⟨[x0,x1],[]⟩=pure (List.zip ps [x0,x1]))
  (a:PySem.W.findIn K (.ref C) n=some (some (.ref f))) (i:PySem.W.isFn K (.ref f)=true) (l:K.lookup f=some ⟨o,od,.func (PySem.W.fnOf n q (eI b) (c8 b) (aV b) .none kV h g j d ct),m⟩) (c:PySem.W.codeIn K d q=true) (k:PySem.W.keepIn K (.ref f)=true):Fm K C n q b ps f (PySem.W.fnOf n q (eI b) (c8 b) (aV b) .none kV h g j d ct):=
 ⟨p6 l c k,⟨a,i,k⟩,.all fun e r=>us2 (p:=fun e=>Z7 _ ⟨e,[]⟩=pure (List.zip _ e)) (r.trans s) t⟩
theorem fm3{K:PySem.W.Frag}{n q:Str}{b:ZE}{ps:List Str}{C f:J8}{od j:Option J8}{m:Array (Option YP)}{o kV h g d ct:YP}(s:ps.length=3)(t:∀ x0 x1 x2,Z7 (PySem.W.fnOf n q (eI b) (c8 b) (aV b) .none kV h g j d ct) ⟨[x0,x1,x2],[]⟩=pure (List.zip ps [x0,x1,x2]))
  (a:PySem.W.findIn K (.ref C) n=some (some (.ref f))) (i:PySem.W.isFn K (.ref f)=true) (l:K.lookup f=some ⟨o,od,.func (PySem.W.fnOf n q (eI b) (c8 b) (aV b) .none kV h g j d ct),m⟩) (c:PySem.W.codeIn K d q=true) (k:PySem.W.keepIn K (.ref f)=true):Fm K C n q b ps f (PySem.W.fnOf n q (eI b) (c8 b) (aV b) .none kV h g j d ct):=
 ⟨p6 l c k,⟨a,i,k⟩,.all fun e r=>Ak (p:=fun e=>Z7 _ ⟨e,[]⟩=pure (List.zip _ e)) (r.trans s) t⟩
theorem mk_kep{K:PySem.W.Frag}{h:Heap}{a:Str->Option YP}{C n l k j i g f d c:J8}{d0 v u t s r q p o:Zp}(X:K.In h)(G:h.Ns Zv a)(I:PySem.W.nsIn K Zv "Keeper"=some (some (.ref C)))
  (y:PySem.W.plainGet K C Str.empty=true) (H:PySem.W.hasDictIn K C=true) (x:PySem.W.plainOver K C=true) (w:PySem.W.findIn K (.ref C) "__setattr__"=some (some (.builtin "object.__setattr__"))) (mk:PySem.W.makesIn K C=true) (E:PySem.W.keepIn K (.ref C)=true)
  (B:PySem.W.findIn K (.ref C) "floor"=some none) (A:PySem.W.findIn K (.ref C) "sights"=some none) (z:PySem.W.findIn K (.ref C) "looks"=some none)
  (F0:Fm K C "__init__" "Keeper.__init__" wI ["self","floor"] n d0) (T:Fm K C "put_solid" "Keeper.put_solid" wL ["self","cell"] l v) (S:Fm K C "take_solid" "Keeper.take_solid" wO ["self","cell"] k u) (R:Fm K C "changed_to" "Keeper.changed_to" wH ["self","floor","cell"] j t) (Q:Fm K C "turn_over" "Keeper.turn_over" wP ["self","couples"] i s) (O:Fm K C "now" "Keeper.now" wK ["self"] g r) (N:Fm K C "seen" "Keeper.seen" wN ["self"] f q) (M:Fm K C "do_see" "Keeper.do_see" wM ["self","one","other"] d p) (J:Fm K C "looked" "Keeper.looked" wJ ["self"] c o):∃ C b e,qS K a C/\y3 K C b e:=
 ⟨C,(cn n (cn l (cn k (cn j (cn i (cn g (cn f (cn d (fun _=>c))))))))),(cn d0 (cn v (cn u (cn t (cn s (cn r (cn q (cn p (fun _=>o))))))))),⟨⟨y,H,x,w⟩,B,A,z,PySem.W.mg_of X G I⟩,⟨mk,F0.m.1,F0.m.2,E⟩,F0.F,F0.b,T,S,R,Q,O,N,M,J⟩
theorem mk_txt{K:PySem.W.Frag}{b:Str->Option YP}{f0 f1 f2 f3 f4 f5 f6 f7 f8 f9 s r q p o n m l k j i h g f e c:J8}{d0 d1 d2 d3 d4 d5 d6 d7 d8 d9 M J I H G F E B A z y x w v u t:Zp}(F0:Fo K b "is_whole" zY ["thing"] f0 d0)(F1:Fo K b "all_cells" uS ["floor"] f1 d1)(F2:Fo K b "marked" rF ["things"] f2 d2)(F3:Fo K b "crossed" Aa ["one","other"] f3 d3)(F4:Fo K b "couples_beside" zP ["cells"] f4 d4)(F5:Fo K b "is_between" zU ["one_end","middle","other_end"] f5 d5)(F6:Fo K b "all_couples" uO ["cells"] f6 d6)(F7:Fo K b "_law_cell" zW ["_law_script","_law_k"] f7 d7)(F8:Fo K b "_law_cells" uP ["_law_floor_here"] f8 d8)(F9:Fo K b "is_whole_couple" zN ["thing"] f9 d9)(b2:Fo K b "open_cells" zS ["floor"] s M)(b0:Fo K b "meets" Ac ["one","other","cell"] r J)(a9:Fo K b "lets_see" zZ ["solids","one","other"] q I)(a8:Fo K b "_law_drawn" zR ["_law_script","_law_k","_law_many"] p H)(a7:Fo K b "is_cell" Ab ["floor","thing"] o G)(a6:Fo K b "see_each_other" zO ["solids","one","other"] n F)(a5:Fo K b "couples_of" uQ ["floor"] m E)(a4:Fo K b "_law_floor" uR ["_law_script","_law_at","_law_most"] l B)(a3:Fo K b "refuse_off_floor" zL ["floor","cell"] k A)(a2:Fo K b "is_solid" zX ["floor","cell"] j z)(a0:Fo K b "with_solid" zV ["floor","cell"] i y)(Z:Fo K b "without_solid" uN ["floor","cell"] h x)(Y:Fo K b "sees" Ad ["floor","one","other"] g w)(X:Fo K b "refuse_not_open" zM ["floor","cell"] f v)(U:Fo K b "_law_turned" zQ ["_law_keeper","_law_cell_here"] e u)(T:Fo K b "law" rG ["_law_script"] c t)(z0:b "isinstance"=none)(z1:b "int"=none)(z2:b "bool"=none)(z3:b "range"=none)(z4:b "dict"=none)(z5:b "abs"=none)(z6:b "zip"=none)(z7:b "sorted"=none)(z8:b "tuple"=none)(z9:b "enumerate"=none)(S:b "len"=none)(R:b "set"=none)(Q:b "min"=none)(O:b "max"=none)(N:b "list"=none):∃ a d,mX K b a d:=by
 exact⟨(cn f0 (cn f1 (cn f2 (cn f3 (cn f4 (cn f5 (cn f6 (cn f7 (cn f8 (cn f9 (cn s (cn r (cn q (cn p (cn o (cn n (cn m (cn l (cn k (cn j (cn i (cn h (cn g (cn f (cn e (fun _=>c)))))))))))))))))))))))))),(cn d0 (cn d1 (cn d2 (cn d3 (cn d4 (cn d5 (cn d6 (cn d7 (cn d8 (cn d9 (cn M (cn J (cn I (cn H (cn G (cn F (cn E (cn B (cn A (cn z (cn y (cn x (cn w (cn v (cn u (fun _=>t)))))))))))))))))))))))))),F0,F1,F2,F3,F4,F5,F6,F7,F8,F9,b2,b0,a9,a8,a7,a6,a5,a4,a3,a2,a0,Z,Y,X,U,T,z0,z1,z2,z3,z4,z5,z6,z7,z8,z9,S,R,Q,O,N⟩
theorem walkZ{q:Zd}{b:List Str}{u:(Str->Option YP)->Heap->Prop}{K:Params->PySem.W.Frag}{s:List J8}{n t:Nat}{r:PySem.W.RowW}{d:DefRec}{i:List (Str × Expr)}{run:YP->List YP->Sem YP}(e:∀ P,s=(K P).map (·.1))
  (h:PySem.W.WalkO q b u (fun w h=>(K w.params).In h) r d i run):PySem.W.WalkX q b u (PySem.W.X.obsZ s) (PySem.W.X.valZ K n t) r d i run:=
 fun w g f x z G y a o v I m H kV A E l F k B j c p L=>h w g f x z G (PySem.W.InK.keeps w _ _ (PySem.W.X.z_facts e y).2.1 L.keeps) a o v I m H kV A E l F k B j c p
theorem walk{l:PySem.W.OpenLaw}{q:Zd}{b:List Str}{p:(Str->Option YP)->Heap->Prop}{e:Zf->Heap->Prop}{d:DefRec}{K:Params->PySem.W.Frag}(i:l.most=some 63)(c:d.params.defaults=[])
  (m:∀(w:Zf) (h:Heap),e w h->(K w.params).In h)
  (F:∀(w:Zf) (mg:Str->Option YP) (fa:J8) (h:Heap),(K w.params).In h->h.Ns Zv mg->mg d.name=some (.ref fa)->
   ∃ fd:Zp,(∀(s:J9) (u:YP),BindsTo s fd ⟨[u],[]⟩ [("_law_script",u)])/\∀ base:Heap,(K w.params).In base->base.Ns Zv mg->aM l.prog w (K w.params) mg base aO 9 fa fd ["_law_script"] (xD (K w.params) jT)):
  PySem.W.WalkO q b p e l.row.toRowW d [] (fun f vs=>PySem.call f vs):=
 L2.walk_of (n:=63) (k:=9) (x:="_law_script") (CX:=fun _=>aO) (sp:=fun w=>xD (K w.params) jT) i (by decide) c ⟨rfl,by decide,by decide,rfl⟩ m F (fun _ _ a g j _ o=>⟨a,g,rfl,o,j,fun _=>rfl⟩) fun _ _ _ _ _ z=>z
end My
open PySem.W
namespace PySem.W.Fast
def tw9464511028168146794:=0
def tw7100998110075362958:=0
def tw16458295449661844328:=0
def tw13771118468388945590:=0
def tw3980296076122770053:=0
def tw14795560514899491614:=0
def tw10430020885099447095:=0
def tw9901621622423342367:=0
def tw10201144538567367717:=0
def tw2546536397002243195:=0
def tw10162529121320355597:=0
def tw3158290909169003536:=0
def tw3226536221977041689:=0
def tw16688773858753068859:=0
def tw17716157606013573262:=0
def tw1046317371890769373:=0
def tw677186730998803396:=0
def tw14068233846222536937:=0
def tw18281661256663901766:=0
def tw13209249392848501231:=0
def tw2015615409903960063:=0
def tw1961397048415626241:=0
def tw3432896384226279610:=0
def tw5443174429049146385:=0
def tw9452014627386044690:=0
def tw3618666618044055561:=0
def tw16621578631388968555:=0
def tw932385385228582077:=0
def tw8131194333308931555:=0
def tw16012719329845818379:=0
def tw16079369226881255664:=0
def tw5870621571386565457:=0
def tw16685324500122086090:=0
def tw11853749883635071313:=0
def tw6935538048161942776:=0
def tw12175716369863370771:=0
def tw4574121655172982753:=0
def tw11091242005394222708:=0
def tw15299565166192354833:=0
def tw16610863910158862340:=0
def tw12925195963941922491:=0
def tw868286122038307157:=0
def tw14347719763049069500:=0
def tw6029326306186516236:=0
def tw7727058222853200275:=0
def tw10055974989068688330:=0
def tw12620967023352440310:=0
def tw4206900574514032503:=0
def tw2793478451275668776:=0
def tw15709428658291685492:=0
def tw7229243123778560808:=0
def tw4879788621172751496:=0
def tw11947211473660934907:=0
def tw5998211731015643738:=0
def tw13318866654672852024:=0
def tw15342554263286468355:=0
def tw2934856728285335472:=0
def tw6926189778674499787:=0
def tw1039530374325103030:=0
def tw8878191083049646642:=0
def tw385524439248629836:=0
def tw6147170302972310679:=0
def tw8535728684672572255:=0
def tw2907290296433014022:=0
def tw6576247347977558737:=0
def tw9687640013530047670:=0
def tw4147600484628623021:=0
def tw7107141018096215439:=0
def tw12136359050306593540:=0
def tw1987402201606305621:=0
def tw18027885087345100425:=0
def tw2692436789360072729:=0
def tw3727848143637356344:=0
def tw3103583508895102469:=0
def tw14461887084401031129:=0
def tw17287150530843223338:=0
def tw3738722021462774013:=0
def tw6616450101962982620:=0
def tw11245880958192202879:=0
def tw12991839179221430692:=0
def tw14599942539710245054:=0
def tw5620533825557254625:=0
def tw14684755738895882674:=0
def tw13562221101404055052:=0
def tw3178646381785217629:=0
def tw8101361988841994366:=0
def tw5343453792288042345:=0
def tw11908001103894806981:=0
def tw4274156051940307401:=0
def tw2181312789617698600:=0
def tw6368725221372747222:=0
def tw7920941528008240576:=0
def tw9712210687183636896:=0
def tw13191151528015633000:=0
def tw17925318826569121860:=0
def tw2154420937851569194:=0
def tw5655969846533348558:=0
def tw7235584634389493386:=0
def tw16011149781093286040:=0
def tw2482167727249334874:=0
def tw17998421775293937115:=0
def tw8451522644365085287:=0
def tw17982101295716288205:=0
def tw6336609999341310096:=0
def tw16942168689406576584:=0
def tw3902047812137579450:=0
def tw2401977018370449852:=0
def tw14651243791179885466:=0
def tw15678910661156226639:=0
def tw11909841327168740617:=0
def tw6467596459359410251:=0
def tw10634986107894569237:=0
def tw1823280415233504445:=0
def tw5085903572109400064:=0
def tw13946167549028914100:=0
def tw13445745121312965656:=0
def tw888723842468629025:=0
def tw9963639115626799841:=0
def tw7124479832867472080:=0
def tw6232942657463335523:=0
def tw17568489389597509283:=0
def tw10305554167007759413:=0
def tw6901114838289931891:=0
def tw6806146081840136241:=0
def tw8087006663426089013:=0
def tw14994408780198267676:=0
def tw300472741887233267:=0
def tw13640486189831128063:=0
def tw1640004381901240875:=0
def tw4616842813753454659:=0
def tw1042570086540946596:=0
def tw9633449342831715176:=0
def tw2066676111221227475:=0
def tw9167297416091821158:=0
def tw1931584827029713539:=0
def tw11809268359767546303:=0
def tw4610334674820629767:=0
def tw3542996316752500809:=0
def tw14164603070852852226:=0
def tw3684762611389767963:=0
def tw14146211916989584194:=0
def tw10228648257187292108:=0
def tw15877109507992300554:=0
def tw11075259683514393050:=0
def tw13998801744553202135:=0
def tw6164739110804469931:=0
def tw13153049163896235582:=0
def tw9005727659909118149:=0
def tw3972114377252995672:=0
def tw8108582798150271733:=0
def tw15365414445926007076:=0
def tw4137840300495210056:=0
def tw10867416123076959376:=0
def tw6095311295438576811:=0
def tw9194709668633011757:=0
def tw8003837253998140129:=0
def tw7439943499919057521:=0
def tw1754146107892957611:=0
def tw10086469931908752201:=0
def tw14664720516723997167:=0
def tw9694148746784062289:=0
def tw3484498110425753365:=0
def tw11081597881624207505:=0
def tw15892835580679478527:=0
def tw15746326923005351034:=0
def tw2017298105121611471:=0
def tw4536311064921124196:=0
def tw6701352319252641455:=0
def tw3078307606727772082:=0
def tw17498977361744573414:=0
def tw11308443223097395863:=0
def tw2660592036787893581:=0
def tw14957371416849447075:=0
def tw10829956262974037055:=0
def tw1088716171082264571:=0
def tw9289760202939036775:=0
def tw3797908229790667484:=0
def tw15977798388135451959:=0
def tw16037085604863126247:=0
def tw10641331280590904715:=0
def tw11054702595479432064:=0
def tw5094661317820697439:=0
def tw3506460011490321068:=0
def tw8435929032237412362:=0
def tw11209067805163111589:=0
def tw6537481597777866970:=0
def tw12900874905792520072:=0
def tw9349996274664450677:=0
def tw17093951251417870982:=0
def tw12125064955181127839:=0
def tw5731060656273074128:=0
def tw3879289382526486426:=0
def tw10820783076699884965:=0
def tw1049815410388928940:=0
def tw16997768970183138527:=0
def tw1751017354157350192:=0
def tw642222695776289195:=0
def tw930127820812837646:=0
def tw13362041683542818281:=0
def tw12419020159428734604:=0
def tw7763378710593958160:=0
def tw1850395526826774768:=0
def tw12649638560261512708:=0
def tw10818760925996503374:=0
def tw1969122751526298207:=0
def tw11958996753880082384:=0
def tw2809327535817846634:=0
def tw17835890436803404919:=0
def tw11818562292102022015:=0
def tw7142469753805923008:=0
def tw3702170068669128449:=0
def tw14162009977654895114:=0
def tw5779504256947019271:=0
def tw11211969730330186976:=0
def tw1032264810645485044:=0
def tw3571454748327434366:=0
def tw10765236870543250266:=0
def tw9874351362900010675:=0
def tw15062435838703237473:=0
def tw8530818238446220899:=0
def tw14600273774859700067:=0
def tw1719812927701966190:=0
def tw4832731103414994369:=0
def tw16044769133954476189:=0
def tw9777838438820356797:=0
def tw13555158515734746921:=0
def tw2595918629954884229:=0
def tw3139753041572351126:=0
def tw14351688904072118046:=0
def tw11766769594692121442:=0
def tw18268171542023339708:=0
def tw6807124818589109593:=0
def tw6558925449030333119:=0
def tw15409911700445260255:=0
def tw3144936061294519992:=0
def tw9112855159225442729:=0
def tw9133382106569745738:=0
def tw10777961401431675026:=0
def tw13975100325411940140:=0
def tw9697355128771863797:=0
def tw9171766055650438639:=0
def tw11362006939890171000:=0
def tw15812569731219086392:=0
def tw10290426429027119095:=0
def tw15507344620924036606:=0
def tw11409125391198121749:=0
def tw12262315181203389435:=0
def tw4326679336176873196:=0
def tw13273657972260729377:=0
def tw3877473729970852327:=0
def tw4043456120047251046:=0
def tw1862443119667263416:=0
def tw12557866827064256333:=0
def tw3384314958412806830:=0
def tw8519666334827690629:=0
def tw8342530846757079059:=0
def tw1584954628213492725:=0
def tw1271542643976261396:=0
def tw5420510252606742378:=0
def tw17113278410260158572:=0
def tw3790591006552563320:=0
def tw11915645123824297482:=0
def tw8362871780641321225:=0
def tw17891417531436379485:=0
def tw2284300932551640313:=0
def tw13675786805718311809:=0
def tw12516523794503761220:=0
def tw1416811049928342037:=0
def tw8680505070325288368:=0
def tw5409542010548800034:=0
def tw2502245541623573453:=0
def tw5048908534155056947:=0
def tw12458263982493339877:=0
def tw10534588505150094816:=0
def tw15994766438723474642:=0
def tw17383947505405315618:=0
def tw9150147991343665521:=0
def tw8912826832808026443:=0
def tw14802593465240045353:=0
def tw2623320644391197324:=0
def tw6803888640228863917:=0
def tw3688509382691316346:=0
def tw9296046979848340191:=0
def tw13540024306695044750:=0
def tw15114309054375003720:=0
def tw15962574709166884206:=0
def tw13923545558619735007:=0
def tw17863583849200141717:=0
def tw16762366117255358069:=0
def tw6508787064913636893:=0
def tw13411142853507966932:=0
def tw10151327900301730461:=0
def tw4403285133256017021:=0
def tw16317990228116476595:=0
def tw11590186121257628964:=0
def tw9326075510989545269:=0
def tw6128276437787012905:=0
def tw13795868836377347779:=0
def tw1010130320847505978:=0
end PySem.W.Fast
set_option maxRecDepth 100000 in
set_option maxHeartbeats 0 in
theorem PySem.Challenge.cw_lampfloor_k41_whole_keeper_holds : PySem.Challenge.rw_lampfloor_k41_whole_keeper.Holds := by
 w_on;o_law;z_head;(case hw=>w_witness2)
 k_fill
 refine My.walkZ (fun _=>rfl) (My.walk (l:=PySem.Challenge.rw_lampfloor_k41_whole_keeper) rfl rfl (fun w h Y=>Y) ?F)
 case F=>
  intro w mg fa h KX G hmg
  refine' My.all_mk My.main hmg (My.mk_txt (My.fo1 KX G rfl (fun _=>rfl) ?_ ?_ ?_ ?_) (My.fo1 KX G rfl (fun _=>rfl) ?_ ?_ ?_ ?_) (My.fo1 KX G rfl (fun _=>rfl) ?_ ?_ ?_ ?_) (My.fo2 KX G rfl (fun _ _=>rfl) ?_ ?_ ?_ ?_) (My.fo1 KX G rfl (fun _=>rfl) ?_ ?_ ?_ ?_) (My.fo3 KX G rfl (fun _ _ _=>rfl) ?_ ?_ ?_ ?_) (My.fo1 KX G rfl (fun _=>rfl) ?_ ?_ ?_ ?_) (My.fo2 KX G rfl (fun _ _=>rfl) ?_ ?_ ?_ ?_) (My.fo1 KX G rfl (fun _=>rfl) ?_ ?_ ?_ ?_) (My.fo1 KX G rfl (fun _=>rfl) ?_ ?_ ?_ ?_) (My.fo1 KX G rfl (fun _=>rfl) ?_ ?_ ?_ ?_) (My.fo3 KX G rfl (fun _ _ _=>rfl) ?_ ?_ ?_ ?_) (My.fo3 KX G rfl (fun _ _ _=>rfl) ?_ ?_ ?_ ?_) (My.fo3 KX G rfl (fun _ _ _=>rfl) ?_ ?_ ?_ ?_) (My.fo2 KX G rfl (fun _ _=>rfl) ?_ ?_ ?_ ?_) (My.fo3 KX G rfl (fun _ _ _=>rfl) ?_ ?_ ?_ ?_) (My.fo1 KX G rfl (fun _=>rfl) ?_ ?_ ?_ ?_) (My.fo3 KX G rfl (fun _ _ _=>rfl) ?_ ?_ ?_ ?_) (My.fo2 KX G rfl (fun _ _=>rfl) ?_ ?_ ?_ ?_) (My.fo2 KX G rfl (fun _ _=>rfl) ?_ ?_ ?_ ?_) (My.fo2 KX G rfl (fun _ _=>rfl) ?_ ?_ ?_ ?_) (My.fo2 KX G rfl (fun _ _=>rfl) ?_ ?_ ?_ ?_) (My.fo3 KX G rfl (fun _ _ _=>rfl) ?_ ?_ ?_ ?_) (My.fo2 KX G rfl (fun _ _=>rfl) ?_ ?_ ?_ ?_) (My.fo2 KX G rfl (fun _ _=>rfl) ?_ ?_ ?_ ?_) (My.fo1 KX G rfl (fun _=>rfl) ?_ ?_ ?_ ?_) (mg_none_of KX G ?_) (mg_none_of KX G ?_) (mg_none_of KX G ?_) (mg_none_of KX G ?_) (mg_none_of KX G ?_) (mg_none_of KX G ?_) (mg_none_of KX G ?_) (mg_none_of KX G ?_) (mg_none_of KX G ?_) (mg_none_of KX G ?_) (mg_none_of KX G ?_) (mg_none_of KX G ?_) (mg_none_of KX G ?_) (mg_none_of KX G ?_) (mg_none_of KX G ?_)) (My.mk_kep KX G ?_ ?_ ?_ ?_ ?_ ?_ ?_ ?_ ?_ ?_ (My.fm2 rfl (fun _ _=>rfl) ?_ ?_ ?_ ?_ ?_) (My.fm2 rfl (fun _ _=>rfl) ?_ ?_ ?_ ?_ ?_) (My.fm2 rfl (fun _ _=>rfl) ?_ ?_ ?_ ?_ ?_) (My.fm3 rfl (fun _ _ _=>rfl) ?_ ?_ ?_ ?_ ?_) (My.fm2 rfl (fun _ _=>rfl) ?_ ?_ ?_ ?_ ?_) (My.fm1 rfl (fun _=>rfl) ?_ ?_ ?_ ?_ ?_) (My.fm1 rfl (fun _=>rfl) ?_ ?_ ?_ ?_ ?_) (My.fm3 rfl (fun _ _ _=>rfl) ?_ ?_ ?_ ?_ ?_) (My.fm1 rfl (fun _=>rfl) ?_ ?_ ?_ ?_ ?_))
  any_goals k_is
